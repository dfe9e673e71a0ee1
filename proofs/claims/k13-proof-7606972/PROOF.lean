import PyProof.Rows.All
import Wide.All
import OpenK.AllK
import Wide.FinOn
import Lean
import PyProof.EqAt
import PyProof.EqKinds
import PyProof.TupleCall
import PyProof.Rows.SortShellK
import PyProof.Rows.SortWalk
import PyProof.SetRoads
import PyProof.SetNew
import PyProof.CollectIter
import PyProof.DictWalks
import PyProof.Walks
import PyProof.RulesTry
import PyProof.FactsAll.set
import PyProof.WalksMore
import PyProof.FactsAll.subtypes
import PyProof.ExcAttrAll.ValueError
import PyProof.Rows.StrJoin2
import PyProof.Rows.FStr
import PyProof.ExcBaseAll.ValueError
import PyProof.StrCalls2
import PyProof.StrBlockH
import PyProof.MeetsStr2
import PyProof.Rows.SeqMore2
import KE.KDictList
import PyProof.ZipIter
import PyProof.Draws
import PyProof.DictTruth
import PySem.Challenge.RW_keyfold_k13_whole_fewest_rows
set_option Elab.async false
set_option linter.all false
set_option maxRecDepth 100000
set_option maxHeartbeats 4000000
noncomputable section
namespace L2
open PySem PySem.Spec PyProof.Rows
noncomputable instance pyDec:DecidableEq PyData:=λa b=>Classical.propDecidable (a=b)
def keyOk:Nat->PyData->Bool
 |_,.int _=>true
 |_,.str x=>PyData.strOk x
 |n+1,.tuple xs=>xs.all (keyOk n)
 |_,_=>false
def pyH (w:World):Nat->PyData->Int
 |_,.int i=>hashInt i
 |_,.str x=>hashStr w x
 |n+1,.tuple xs=>reduceHash (Builtin.Tuple.tupleHashOf (xs.map (pyH w n)))
 |_,_ => 0
def t_:Nat->PyData->Nat
 |n+1,.tuple xs=>(xs.map (t_ n)).sum+1
 |_,_ => 1
theorem bG {n:Nat}{xs:List PyData}(h:keyOk (n+1) (.tuple xs)=true):∀ x∈xs,keyOk n x=true:=by
 rw[keyOk,List.all_eq_true] at h;exact h
theorem jv:∀ {n:Nat}{p:PyData},keyOk n p=true->p.canLay0=true:=by
 intro n
 induction n with
 |zero =>
  intro p h
  cases p with
  |int i=>rfl
  |str x=>rw[PyData.canLay0];simpa [keyOk] using h
  |_=>simp[keyOk] at h
 |succ n ih =>
  intro p h
  cases p with
  |int i=>rfl
  |str x=>rw[PyData.canLay0];simpa [keyOk] using h
  |tuple xs =>
   rw[PyData.canLay0]
   have:=bG h
   clear h
   induction xs with
   |nil=>rfl
   |cons x xs ih2=>rw[PyData.canLayAll0,ih (this x (by simp)),ih2 λy hy=>this y (by simp[hy])];rfl
  |_=>simp[keyOk] at h
theorem pH:∀ {n:Nat}{p:PyData},keyOk n p=true->p.depth<=n:=by
 intro n
 induction n with
 |zero =>
  intro p h
  cases p<;>first |(simp[keyOk] at h;done) |simp[PyData.depth]
 |succ n ih =>
  intro p h
  cases p with
  |tuple xs =>
   rw[PyData.depth]
   have:=bG h
   clear h
   refine Nat.succ_le_succ ?_
   induction xs with
   |nil=>rw[PyData.depthAll];omega
   |cons x xs ih2=>rw[PyData.depthAll];exact Nat.max_le.mpr ⟨ih (this x (by simp)),ih2 λy hy=>this y (by simp[hy])⟩
  |int i=>simp[PyData.depth]
  |str i=>simp[PyData.depth]
  |_=>simp[keyOk] at h
theorem mJ:∀ {n:Nat}{p q:PyData},keyOk n p=true->keyOk n q=true->PyData.eqv p q=decide (p=q):=by
 have str:∀ x y:Str,PyData.eqv (.str x) (.str y)=decide (PyData.str x = .str y):=λx y=>by
  rw[PyData.eqv]
  by_cases e:x=y
  ·subst e;simp
  ·rw[beq_eq_false_iff_ne.mpr e,decide_eq_false (λz=>e (PyData.str.inj z))]
 have int:∀ x y:Int,PyData.eqv (.int x) (.int y)=decide (PyData.int x = .int y):=λx y=>by
  rw[PyData.eqv]
  by_cases e:x=y
  ·subst e;simp
  ·rw[beq_eq_false_iff_ne.mpr e,decide_eq_false (λz=>e (PyData.int.inj z))]
 have dif:∀ p q:PyData,p≠q->false=decide (p=q):=λp q h=>(decide_eq_false h).symm
 intro n
 induction n with
 |zero =>
  intro p q hp hq
  cases p<;>first |(simp[keyOk] at hp;done) |skip<;>cases q<;>first |(simp[keyOk] at hq;done) |exact int _ _ |exact str _ _ |exact dif _ _ (λz=>nomatch z)
 |succ n ih =>
  intro p q hp hq
  cases p with
  |tuple xs =>
   cases q with
   |tuple ys =>
    rw[PyData.eqv]
    have h1:=bG hp
    have h2:=bG hq
    clear hp hq
    have aux:PyData.eqvAll xs ys=decide (xs=ys):=by
     induction xs generalizing ys with
     |nil=>cases ys<;>simp[PyData.eqvAll]
     |cons x xs ih2 =>
      cases ys with
      |nil=>simp[PyData.eqvAll]
      |cons y ys =>
       rw[PyData.eqvAll,ih (h1 x (by simp)) (h2 y (by simp)),ih2 ys (λz hz=>h1 z (by simp[hz])) (λz hz=>h2 z (by simp[hz]))]
       by_cases e:x=y
       ·subst e;simp
       ·simp[e]
    rw[aux]
    by_cases e:xs=ys
    ·subst e;simp
    ·rw[decide_eq_false e,decide_eq_false (λz=>e (PyData.tuple.inj z))]
   |int i=>rw[PyData.eqv];exact dif _ _ (λz=>nomatch z)
   |str i=>rw[PyData.eqv];exact dif _ _ (λz=>nomatch z)
   |_=>simp[keyOk] at hq
  |int i =>
   cases q with
   |int j=>exact int _ _
   |str j=>rw[PyData.eqv];exact dif _ _ (λz=>nomatch z)
   |tuple j=>rw[PyData.eqv];exact dif _ _ (λz=>nomatch z)
   |_=>simp[keyOk] at hq
  |str i =>
   cases q with
   |int j=>rw[PyData.eqv];exact dif _ _ (λz=>nomatch z)
   |str j=>exact str _ _
   |tuple j=>rw[PyData.eqv];exact dif _ _ (λz=>nomatch z)
   |_=>simp[keyOk] at hq
  |_=>simp[keyOk] at hp
theorem oX {h h':Heap}{d:Addr}{o:Obj}{es ep}(ho:h.get? d=some o)(hd:o.data = .dict es ep)(hs:Heap.SameBut d h h'):∀ {n:Nat}{p:PyData}{v:Value}{as:List Addr},keyOk n p=true->Reads h v p as->Reads h' v p as:=by
 intro n
 induction n with
 |zero =>
  intro p v as hp r
  cases r with
  |int i t=>exact .int i t
  |str x t=>exact .str x t
  |_=>simp[keyOk] at hp
 |succ n ih =>
  intro p v as hp r
  cases r with
  |int i t=>exact .int i t
  |str x t=>exact .str x t
  | @tuple a o' vs m xs as h1 h2 h3 h4 =>
   have hne:a≠d:=by
    rintro rfl
    rw[ho] at h1;cases h1
    rw[hd] at h3;exact nomatch h3
   refine .tuple ((hs.2 a hne).trans h1) h2 h3 ?_
   have it:=bG hp
   clear hp h1 h2 h3
   generalize vs.toList=l at h4
   induction xs generalizing l as with
   |nil=>cases h4;exact .nil
   |cons x xs ih2 =>
    cases h4 with
    |cons r1 r2=>exact .cons (ih (it x (by simp)) r1) (ih2 (λy hy=>it y (by simp[hy])) _ r2)
  |_=>simp[keyOk] at hp
section
variable {prog:Program}{w:World}{A:Around}{E:Value->Shared->Prop}{s:Shared}
theorem rn:∀ {n:Nat}{p:PyData}{A:Around}{s:Shared}{v:Value}{as:List Addr}{Q:Int->Shared->Prop},keyOk n p=true->A.units+n<cLine->Reads s.heap v p as->Q (pyH w n p) { s with toks:=s.toks+t_ n p } ->
  wpAny (model prog w) A (pyHash v) Q E s:=by
 intro n
 induction n with
 |zero =>
  intro p A s v as Q hp hu r h
  cases r with
  |int i t=>exact wpAny_pyHash_int h
  |str x t=>exact wpAny_pyHash_str h
  |_=>simp[keyOk] at hp
 |succ n ih =>
  intro p A s v as Q hp hu r h
  cases r with
  |int i t=>exact wpAny_pyHash_int h
  |str x t=>exact wpAny_pyHash_str h
  | @tuple a o items m xs as ho hc hd hi =>
   have hT:s.TypeIs (.ref a) "tuple":=⟨o,ho,hc⟩
   have it:=bG hp
   unfold pyHash
   first |unfold pyHashByItsType |skip
   first |refine wpAny_bind (wpAny_cRoomFor_or (.inr (by omega)) ?_) |skip
   refine wpAny_bind (wpAny_specialOf hT F.slot_tuple_hash.lookup ?_)
   show wpAny _ _ (if (some (Value.builtin "tuple.__hash__")==some Value.none)=true then _ else _) Q E s
   rw[if_neg (by rw[beq_builtin_none];exact Bool.false_ne_true)]
   refine wpAny_bind (wpAny_specialOf hT F.slot_tuple_hash.lookup ?_)
   show wpAny _ _ (callSpecialIfBoundUnlessNone? (.ref a) "__hash__" _ >>= _) Q E s
   refine wpAny_bind (wpAny_callSpecialIfBoundUnlessNone?_slot hT F.slot_tuple_hash (wpAny_call_entry F.slot_tuple_hash hT F.entry_tuple_hash ?_ (F.args_tuple_hash_1 _)))
   show wpAny _ _ (Builtin.Tuple.tupleItemsOf (.ref a) >>= _) _ _ s
   refine wpAny_bind (wpAny_tupleItemsOf ho hd ?_)
   refine wpAny_bind ?_
   rw[← Array.forIn_toList]
   refine wpAny_forIn_list _
    (λrest (b:Array Int) s' => ∃ done left bs,xs=done++left/\ReadsAll s.heap rest left bs/\b.toList=done.map (pyH w n)/\s'={ s with toks:=s.toks+(done.map (t_ n)).sum })
    _ ?_ ?_ _ _ ⟨[],xs,as,rfl,hi,rfl,rfl⟩
   ·rintro x rest b s' ⟨done,left,bs,rfl,hl,hb,rfl⟩
    cases hl with
    | @cons _ _ k ks' as1 bs1 h1 hl' =>
     refine wpAny_bind (ih (A:=A.in1) (it k (by simp)) (by show A.units+1+n<cLine;omega) (s:={ s with toks:=s.toks+(done.map (t_ n)).sum }) h1 ?_)
     first
      |exact wpAny_pure ⟨done++[k],ks',bs1,by simp,hl',by simp[hb],by simp[Nat.add_assoc]⟩
      |exact wpAny_bind (wpAny_pure (wpAny_pure ⟨done++[k],ks',bs1,by simp,hl',by simp[hb],by simp[Nat.add_assoc]⟩))
   ·rintro b s' ⟨done,left,bs,rfl,hl,hb,rfl⟩
    cases hl
    rw[List.append_nil] at h
    show wpAny _ _ (retInt (Builtin.Tuple.tupleHashOf b.toList)) _ _ _
    rw[hb]
    refine wpAny_ret_mkInt ?_
    show wpAny _ _ (if (decide (-(2:Int) ^ 63<=Builtin.Tuple.tupleHashOf (done.map (pyH w n)))&&decide (Builtin.Tuple.tupleHashOf (done.map (pyH w n))<2 ^ 63))=true then _ else _) Q E _
    rw[pyH,t_] at h
    unfold reduceHash at h
    by_cases hr:(decide (-(2:Int) ^ 63<=Builtin.Tuple.tupleHashOf (done.map (pyH w n)))&&decide (Builtin.Tuple.tupleHashOf (done.map (pyH w n))<2 ^ 63))=true
    ·rw[if_pos hr]
     rw[if_pos hr] at h
     exact wpAny_pure (by simpa [Nat.add_assoc] using h)
    ·rw[if_neg hr]
     rw[if_neg hr] at h
     exact wpAny_bind (wpAny_rule (wpAny_pure (by simpa [Nat.add_assoc] using h)))
  |_=>simp[keyOk] at hp
theorem oY:∀ {n:Nat}{p:PyData}{s:Shared}{v:Value}{as:List Addr}{Q:Bool->Shared->Prop},keyOk n p=true->Reads s.heap v p as->Q true s->wpAny (model prog w) A (eqIsQuiet n v) Q E s:=by
 intro n
 induction n with
 |zero =>
  intro p s v as Q hp r h
  cases r with
  |int i t=>unfold eqIsQuiet;exact wpAny_pure h
  |str x t=>unfold eqIsQuiet;exact wpAny_pure h
  |_=>simp[keyOk] at hp
 |succ n ih =>
  intro p s v as Q hp r h
  cases r with
  |int i t=>unfold eqIsQuiet;exact wpAny_pure h
  |str x t=>unfold eqIsQuiet;exact wpAny_pure h
  | @tuple a o items m xs as ho hc hd hi =>
   have hT:s.TypeIs (.ref a) "tuple":=⟨o,ho,hc⟩
   have it:=bG hp
   unfold eqIsQuiet
   refine wpAny_bind (wpAny_specialOf hT F.slot_tuple_eq.lookup ?_)
   show wpAny _ _ (isInstance (.ref a) (.type "tuple") >>= _) _ _ s
   refine wpAny_bind (wpAny_isInstance hT isSubtype_tuple_tuple ?_)
   simp only[Bool.not_true,Bool.false_eq_true,if_false]
   refine wpAny_bind (wpAny_seqItems ho hd ?_)
   refine wpAny_bind ?_
   show wpAny _ _ (forIn items _ _) _ _ s
   rw[← Array.forIn_toList]
   refine wpAny_forIn_list _ (λrest r s'=>r.1=none/\s'=s/\∃ left bs,ReadsAll s.heap rest left bs/\∀ x∈left,keyOk n x=true) _ ?_ ?_ _ _ ⟨rfl,rfl,xs,as,hi,it⟩
   ·rintro v rest r s' ⟨hr,rfl,left,bs,hl,hk⟩
    cases hl with
    | @cons _ _ k ks' as1 bs1 h1 hl' =>
     refine wpAny_bind (ih (hk k (by simp)) h1 ?_)
     simp only[Bool.not_true,Bool.false_eq_true,if_false]
     exact wpAny_pure ⟨rfl,rfl,ks',bs1,hl',λy hy=>hk y (by simp[hy])⟩
   ·rintro⟨r1,r2⟩ s' ⟨hr,rfl,_⟩
    simp only at hr
    subst hr
    exact wpAny_pure h
  |_=>simp[keyOk] at hp
end
noncomputable def iQ (prog:Program) (w:World):HeapKind prog w PyData where
 is:=λh p a=>keyOk 8 p=true/\∃ as,Reads h (.ref a) p as
 hash:=pyH w 8
 draws:=t_ 8
 room:=λA=>A.units+8<cLine
 inj:=λ⟨h1,as,r1⟩ ⟨_,bs,r2⟩=>SeqAt.Reads.unique _ _ _ _ _ (jv h1) r1 r2
 keeps:=λ⟨h1,as,r1⟩ ho hd hs=>⟨h1,as,oX ho hd hs h1 r1⟩
 pyHash:=λhu ⟨h1,as,r1⟩ h=>rn h1 hu r1 h
 eqBool:=λ{A E s x y a b Q} hu ⟨h1,as,r1⟩ ⟨h2,bs,r2⟩ h=>SeqAt.eqBoolOverData prog w A E s _ _ _ _ _ _ Q r1 r2 (jv h1) (jv h2) (by have:=pH h1;omega) (by rw[mJ h1 h2];exact h)
 quiet:=λ⟨h1,as,r1⟩ h=>oY h1 r1 h
end L2
namespace L2
open PySem PyProof.Rows
abbrev xL:Bool->Keyed->Array Keyed->Nat->Nat->Nat->StateT SortSt Sem (Option Nat):=sortPriv% PySem.Builtin.gallop
abbrev vU:Array Keyed->Array Keyed->StateT SortSt Sem (Array Keyed):=sortPriv% PySem.Builtin.mergeLo
abbrev vV:Array Keyed->Array Keyed->StateT SortSt Sem (Array Keyed):=sortPriv% PySem.Builtin.mergeHi
abbrev mergeAt':Nat->StateT SortSt Sem Bool:=sortPriv% PySem.Builtin.mergeAt
def j2 (prog:Program)(w:World)(A:Around)(E:Value->Shared->Prop)(s:Shared)(kd:SortKind)(O:KeyOrd)(kf:Value->O.α)(G:Keyed->Prop):Prop:=
 ∀ x y:Keyed,G x->G y->∀ (st:SortSt) (Q:Option Bool->SortSt->Prop),kindOf st=kd->Q (some (O.blt (kf x.1) (kf y.1))) st->wpS (model prog w) A E s (lt' x y) Q st
section
variable {prog:Program}{w:World}{A:Around}{E:Value->Shared->Prop}{s:Shared}{kd:SortKind}{O:KeyOrd}{kf:Value->O.α}{G:Keyed->Prop}
theorem aA {arr:Array Keyed}{i:Nat}(h:i<arr.size){Q:Keyed->SortSt->Prop}{st:SortSt}(q:Q arr[i] st):wpS (model prog w) A E s (elem' arr i) Q st:=by
 rw[elem'_eq,getElem?_pos arr i h]
 exact wpS_pure q
theorem wE {α:Type}{n:Nat}{st:SortSt}{B:Nat->Bool}{f:Nat->(Option α×Nat×Nat)->StateT SortSt Sem (ForInStep (Option α×Nat×Nat))}{Q:(Option α×Nat×Nat)->SortSt->Prop}
  (f1:∀ x lo hi (Q':ForInStep (Option α×Nat×Nat)->SortSt->Prop),hi<=lo->Q' (.done (none,lo,hi)) st->wpS (model prog w) A E s (f x (none,lo,hi)) Q' st)
  (f2:∀ x lo hi (Q':ForInStep (Option α×Nat×Nat)->SortSt->Prop),lo<hi->hi<=n->Q' (.yield (if B (lo+(hi-lo) / 2)=true then (none,lo+(hi-lo) / 2+1,hi) else (none,lo,lo+(hi-lo) / 2))) st->wpS (model prog w) A E s (f x (none,lo,hi)) Q' st)
  {lo hi:Nat}(hlh:lo<=hi) (hhn:hi<=n) (h1:∀ i,i<lo->B i=true) (h2:∀ i,hi<=i->i<n->B i=false) (mono:∀ i j,i<=j->j<n->B j=true->B i=true)
  (q:∀ k,k<=n->(∀ i,i<k->B i=true)->(∀ i,k<=i->i<n->B i=false)->Q (none,k,k) st):wpS (model prog w) A E s (forIn [0:n] (none,lo,hi) f) Q st:=by
 refine wpS_forRange (I:=λx c st'=>st'=st/\∃ lo hi,c=(none,lo,hi)/\lo<=hi/\hi<=n/\hi-lo<=n-x/\(∀ i,i<lo->B i=true)/\∀ i,hi<=i->i<n->B i=false) ?_ ?_ ⟨rfl,lo,hi,rfl,hlh,hhn,by omega,h1,h2⟩
 ·rintro x c st' _ hx ⟨rfl,lo,hi,rfl,a1,a2,a3,a4,a5⟩
  by_cases e:hi<=lo
  ·have e':lo=hi:=by omega
   subst e'
   exact f1 x lo lo _ e (q lo a2 a4 a5)
  ·refine f2 x lo hi _ (by omega) a2 ?_
   have hm:lo+(hi-lo) / 2<hi:=by omega
   by_cases hb:B (lo+(hi-lo) / 2)=true
   ·rw[if_pos hb]
    exact⟨rfl,_,_,rfl,by omega,a2,by omega,λi hi'=>mono i _ (by omega) (by omega) hb,a5⟩
   ·rw[if_neg hb]
    refine⟨rfl,_,_,rfl,by omega,by omega,by omega,a4,λi h3 h4=>?_⟩
    cases hbi:B i with
    |false=>rfl
    |true=>exact absurd (mono _ _ h3 h4 hbi) hb
 ·rintro c st' ⟨rfl,lo,hi,rfl,a1,a2,a3,a4,a5⟩
  have e':lo=hi:=by omega
  subst e'
  exact q lo a2 a4 a5
theorem AR {α:Type}{n m:Nat}{st:SortSt}{C:Nat->Bool}{f:Nat->(Option α×Nat×Nat)->StateT SortSt Sem (ForInStep (Option α×Nat×Nat))}{Q:(Option α×Nat×Nat)->SortSt->Prop}
  (f1:∀ x a b (Q':ForInStep (Option α×Nat×Nat)->SortSt->Prop),m<=b->Q' (.done (none,a,b)) st->wpS (model prog w) A E s (f x (none,a,b)) Q' st)
  (f2:∀ x a b (Q':ForInStep (Option α×Nat×Nat)->SortSt->Prop),b<m->Q' (if C b=true then .yield (none,b,2*b+1) else .done (none,a,b)) st->wpS (model prog w) A E s (f x (none,a,b)) Q' st)
  (c0:C 0=true) (hm:m<=n) (q:∀ a b,a<b->C a=true->(a<m∨a=0)->(m<=b∨(b<m/\C b=false))->Q (none,a,b) st):wpS (model prog w) A E s (forIn [0:n] (none,0,1) f) Q st:=by
 refine wpS_forRange (I:=λx c st'=>st'=st/\∃ a b,c=(none,a,b)/\a<b/\x+1<=b/\C a=true/\(a<m∨a=0)) ?_ ?_ ⟨rfl,0,1,rfl,by omega,by omega,c0,.inr rfl⟩
 ·rintro x c st' _ hx ⟨rfl,a,b,rfl,a1,a2,a3,a4⟩
  by_cases e:m<=b
  ·exact f1 x a b _ e (q a b a1 a3 a4 (.inl e))
  ·refine f2 x a b _ (by omega) ?_
   by_cases hb:C b=true
   ·rw[if_pos hb]
    exact⟨rfl,b,_,rfl,by omega,by omega,hb,.inl (by omega)⟩
   ·rw[if_neg hb]
    exact q a b a1 a3 a4 (.inr ⟨by omega,by simpa using hb⟩)
 ·rintro c st' ⟨rfl,a,b,rfl,a1,a2,a3,a4⟩
  exact q a b a1 a3 a4 (.inl (by omega))
def bey (O:KeyOrd)(kf:Value->O.α)(left:Bool)(key x:Keyed):Bool:=if left then O.blt (kf x.1) (kf key.1) else !O.blt (kf key.1) (kf x.1)
theorem bD (L:j2 prog w A E s kd O kf G){left:Bool}{key:Keyed}{arr:Array Keyed}{base n hint:Nat}{st:SortSt}{Q:Option Nat->SortSt->Prop}(hk:kindOf st=kd)(gk:G key)(ga:∀ x∈arr.toList,G x)
  (hb:base+n<=arr.size) (hh:hint<n) (B:Nat->Bool) (hB:∀ i (h:base+i<arr.size),i<n->B i=bey O kf left key arr[base+i]) (mono:∀ i j,i<=j->j<n->B j=true->B i=true)
  (h:∀ k,k<=n->(∀ i,i<k->B i=true)->(∀ i,k<=i->i<n->B i=false)->Q (some k) st):wpS (model prog w) A E s (xL left key arr base n hint) Q st:=by
 have be:∀ i,i<n->∀ {Q':Option Bool->SortSt->Prop},Q' (some (B i)) st->wpS (model prog w) A E s (do let x ← elem' arr (base+i);if left=true then lt' x key else return (← lt' key x).map (!·)) Q' st:=by
  intro i hi Q' q
  have hi':base+i<arr.size:=by omega
  refine wpS_bind (aA hi' ?_)
  have gx:G arr[base+i]:=ga _ (Array.getElem_mem_toList hi')
  have e:=hB i hi' hi
  unfold bey at e
  cases left with
  |true =>
   rw[if_pos rfl]
   rw[if_pos rfl] at e
   exact L _ _ gx gk st _ hk (by rw[← e];exact q)
  |false =>
   rw[if_neg (by decide)]
   rw[if_neg (by decide)] at e
   refine wpS_bind (L _ _ gk gx st _ hk (wpS_pure ?_))
   show Q' (some (!O.blt (kf key.1) (kf arr[base+i].1))) st
   rw[← e];exact q
 refine wpS_bind (be hint hh ?_)
 cases hr:B hint with
 |true =>
  dsimp only
  rw[if_pos rfl]
  refine wpS_bind (AR (m:=n-hint) (C:=λi=>decide (hint+i<n)&&B (hint+i)) ?_ ?_ ?_ (by omega) ?_)
  ·intro x a b Q' hb' q'
   dsimp only
   rw[if_pos hb']
   exact wpS_pure q'
  ·intro x a b Q' hb' q'
   dsimp only
   rw[if_neg (by omega)]
   refine wpS_bind (be (hint+b) (by omega) ?_)
   have hlt:hint+b<n:=by omega
   rw[decide_eq_true hlt,Bool.true_and] at q'
   cases hbb:B (hint+b) with
   |true=>rw[hbb,if_pos rfl] at q';exact wpS_pure q'
   |false=>rw[hbb,if_neg (by decide)] at q';exact wpS_pure q'
  ·rw[Bool.and_eq_true];exact⟨decide_eq_true hh,hr⟩
  ·intro a b hab hCa ha hb'
   dsimp only
   rw[Bool.and_eq_true] at hCa
   have ha':hint+a<n:=of_decide_eq_true hCa.1
   refine wpS_bind (wE (B:=B) ?_ ?_ (by omega) (by omega) ?_ ?_ mono ?_)
   ·intro x lo hi Q' hle q'
    dsimp only
    rw[if_pos hle]
    exact wpS_pure q'
   ·intro x lo hi Q' hlt hhn q'
    dsimp only
    rw[if_neg (by omega)]
    refine wpS_bind (be (lo+(hi-lo) / 2) (by omega) ?_)
    cases hbb:B (lo+(hi-lo) / 2) with
    |true=>rw[hbb,if_pos rfl] at q';exact wpS_pure q'
    |false=>rw[hbb,if_neg (by decide)] at q';exact wpS_pure q'
   ·intro i hi
    exact mono i (hint+a) (by omega) ha' hCa.2
   ·intro i hi hin
    rcases hb' with hb' |⟨hb1,hb2⟩
    ·omega
    ·have hlt:hint+b<n:=by omega
     rw[decide_eq_true hlt,Bool.true_and] at hb2
     cases hbi:B i with
     |false=>rfl
     |true=>rw[mono (hint+b) i (by omega) hin hbi] at hb2;cases hb2
   ·intro k h1 h2 h3
    exact wpS_pure (h k h1 h2 h3)
 |false =>
  dsimp only
  rw[if_neg (by decide)]
  refine wpS_bind (AR (m:=hint+1) (C:=λi => !B (hint-i)) ?_ ?_ ?_ (by omega) ?_)
  ·intro x a b Q' hb' q'
   dsimp only
   rw[if_pos hb']
   exact wpS_pure q'
  ·intro x a b Q' hb' q'
   dsimp only
   rw[if_neg (by omega)]
   refine wpS_bind (be (hint-b) (by omega) ?_)
   cases hbb:B (hint-b) with
   |true=>rw[hbb,if_neg (by decide)] at q';exact wpS_pure q'
   |false=>rw[hbb,if_pos (show (!false)=true from rfl)] at q';exact wpS_pure q'
  ·rw[Nat.sub_zero,hr];rfl
  ·intro a b hab hCa ha hb'
   dsimp only
   have hCa':B (hint-a)=false:=by simpa using hCa
   refine wpS_bind (wE (B:=B) ?_ ?_ (by omega) (by omega) ?_ ?_ mono ?_)
   ·intro x lo hi Q' hle q'
    dsimp only
    rw[if_pos hle]
    exact wpS_pure q'
   ·intro x lo hi Q' hlt hhn q'
    dsimp only
    rw[if_neg (by omega)]
    refine wpS_bind (be (lo+(hi-lo) / 2) (by omega) ?_)
    cases hbb:B (lo+(hi-lo) / 2) with
    |true=>rw[hbb,if_pos rfl] at q';exact wpS_pure q'
    |false=>rw[hbb,if_neg (by decide)] at q';exact wpS_pure q'
   ·intro i hi
    rcases hb' with hb' |⟨hb1,hb2⟩
    ·omega
    ·have hb2':B (hint-b)=true:=by simpa using hb2
     exact mono i (hint-b) (by omega) (by omega) hb2'
   ·intro i hi hin
    cases hbi:B i with
    |false=>rfl
    |true=>rw[mono (hint-a) i (by omega) hin hbi] at hCa';cases hCa'
   ·intro k h1 h2 h3
    exact wpS_pure (h k h1 h2 h3)
end
section
variable {O:KeyOrd}{kf:Value->O.α}
def leK (O:KeyOrd)(kf:Value->O.α)(x y:Keyed):Prop:=O.kle (kf x.1) (kf y.1)
theorem bM {x y z:Keyed}(h:leK O kf x y)(g:leK O kf y z):leK O kf x z:=KeyOrd.kle_trans h g
structure Mg (O:KeyOrd) (kf:Value->O.α) (T out A B:List Keyed):Prop where
 perm:(out++(A++B)).Perm T
 so:out.Pairwise (leK O kf)
 sa:A.Pairwise (leK O kf)
 sb:B.Pairwise (leK O kf)
 low:∀ x∈out,∀ y∈A++B,leK O kf x y
def Res (O:KeyOrd)(kf:Value->O.α)(T r:List Keyed):Prop:=r.Perm T/\r.Pairwise (leK O kf)
theorem Mg.takeA {T out p A B:List Keyed}(h:Mg O kf T out (p++A) B)(l:∀ x∈p,∀ y∈B,leK O kf x y):Mg O kf T (out++p) A B:=by
 have sa:=List.pairwise_append.mp h.sa
 refine⟨by have:=h.perm;simpa [List.append_assoc] using this,List.pairwise_append.mpr ⟨h.so,sa.1,λx hx y hy=>h.low x hx y (by simp[hy])⟩,sa.2.1,h.sb,λx hx y hy=>?_⟩
 rcases List.mem_append.mp hx with hx |hx
 ·exact h.low x hx y (by
   rcases List.mem_append.mp hy with hy |hy
   ·simp[hy]
   ·simp[hy])
 ·rcases List.mem_append.mp hy with hy |hy
  ·exact sa.2.2 x hx y hy
  ·exact l x hx y hy
theorem Mg.takeB {T out p A B:List Keyed}(h:Mg O kf T out A (p++B))(l:∀ x∈p,∀ y∈A,leK O kf x y):Mg O kf T (out++p) A B:=by
 have sb:=List.pairwise_append.mp h.sb
 refine⟨?_,List.pairwise_append.mpr ⟨h.so,sb.1,λx hx y hy=>h.low x hx y (by simp[hy])⟩,h.sa,sb.2.1,λx hx y hy=>?_⟩
 ·refine List.Perm.trans ?_ h.perm
  rw[List.append_assoc]
  refine List.Perm.append_left out ?_
  rw[← List.append_assoc,← List.append_assoc]
  exact List.Perm.append_right B List.perm_append_comm
 rcases List.mem_append.mp hx with hx |hx
 ·exact h.low x hx y (by
   rcases List.mem_append.mp hy with hy |hy
   ·simp[hy]
   ·simp[hy])
 ·rcases List.mem_append.mp hy with hy |hy
  ·exact l x hx y hy
  ·exact sb.2.2 x hx y hy
theorem Mg.endA {T out A:List Keyed}(h:Mg O kf T out A []):Res O kf T (out++A):=by
 refine⟨by have:=h.perm;simpa using this,List.pairwise_append.mpr ⟨h.so,h.sa,λx hx y hy=>h.low x hx y (by simp[hy])⟩⟩
theorem Mg.endB {T out B:List Keyed}(h:Mg O kf T out [] B):Res O kf T (out++B):=by
 refine⟨by have:=h.perm;simpa using this,List.pairwise_append.mpr ⟨h.so,h.sb,λx hx y hy=>h.low x hx y (by simp[hy])⟩⟩
theorem Mg.last {T out B:List Keyed}{z:Keyed}(h:Mg O kf T out [z] B)(l:∀ y∈B,leK O kf y z):Res O kf T (out++B++[z]):=by
 refine⟨?_,List.pairwise_append.mpr ⟨List.pairwise_append.mpr ⟨h.so,h.sb,λx hx y hy=>h.low x hx y (by simp[hy])⟩,List.pairwise_singleton _ _,λx hx y hy=>?_⟩⟩
 ·refine List.Perm.trans ?_ h.perm
  rw[List.append_assoc]
  exact List.Perm.append_left out List.perm_append_comm
 ·have ey:y=z:=by simpa using hy
  subst ey
  rcases List.mem_append.mp hx with hx |hx
  ·exact h.low x hx y (by simp)
  ·exact l x hx
theorem drop_cons {a:Array Keyed}{i:Nat}(h:i<a.size):a.toList.drop i=a[i]::a.toList.drop (i+1):=by
 rw[List.drop_eq_getElem_cons (by simpa using h)];simp
theorem drop_take {a:Array Keyed}(i k:Nat):a.toList.drop i=(a.extract i (i+k)).toList++a.toList.drop (i+k):=by
 rw[Array.toList_extract,List.extract_eq_drop_take,Nat.add_sub_cancel_left,← List.drop_drop,List.take_append_drop]
theorem b6 {a:Array Keyed}(i:Nat):(a.extract i).toList=a.toList.drop i:=by
 rw[Array.toList_extract,List.extract_eq_drop_take]
 exact List.take_of_length_le (by simp)
theorem j9 {l:List Keyed}{x y:Keyed}(hs:(y::l).Pairwise (leK O kf))(h:leK O kf x y):∀ z∈y::l,leK O kf x z:=by
 intro z hz
 rcases List.mem_cons.mp hz with e |hz
 ·rw[e];exact h
 ·exact bM h ((List.pairwise_cons.mp hs).1 z hz)
end
structure SameS (st st':SortSt):Prop where
 kind:kindOf st'=kindOf st
 arr:arrOf st'=arrOf st
 pend:pendingOf st'=pendingOf st
 fail:failedOf st'=failedOf st
theorem SameS.refl (st:SortSt):SameS st st:=⟨rfl,rfl,rfl,rfl⟩
section
variable {prog:Program}{w:World}{A:Around}{E:Value->Shared->Prop}{s:Shared}{kd:SortKind}{O:KeyOrd}{kf:Value->O.α}{G:Keyed->Prop}
theorem oG (L:j2 prog w A E s kd O kf G){a b:Array Keyed}{st:SortSt}{Q:Array Keyed->SortSt->Prop}(hk:kindOf st=kd)(ga:∀ x∈a.toList,G x)(gb:∀ x∈b.toList,G x)(ha : 0<a.size)(hb : 0<b.size)
  (sa:a.toList.Pairwise (leK O kf)) (sb:b.toList.Pairwise (leK O kf)) (first:leK O kf b[0] a[0]) (last:∀ y∈b.toList,leK O kf y a[a.size-1])
  (h:∀ r st',SameS st st'->Res O kf (a.toList++b.toList) r.toList->Q r st'):wpS (model prog w) A E s (vU a b) Q st:=by
 let T:=a.toList++b.toList
 let I:Array Keyed->Nat->Nat->Prop:=λout ia ib=>Mg O kf T out.toList (a.toList.drop ia) (b.toList.drop ib)
 have gA:∀ i (hi:i<a.size),G a[i]:=λi hi=>ga _ (Array.getElem_mem_toList hi)
 have gB:∀ i (hi:i<b.size),G b[i]:=λi hi=>gb _ (Array.getElem_mem_toList hi)
 have endB:∀ {out:Array Keyed}{ia ib:Nat},I out ia ib->ib=b.size->Res O kf T (out++a.extract ia++b.extract ib).toList:=by
  intro out ia ib hI e
  have hI:Mg O kf T out.toList (a.toList.drop ia) (b.toList.drop ib):=hI
  rw[Array.toList_append,Array.toList_append,b6,b6,List.drop_eq_nil_of_le (as:=b.toList) (by simp[e]),List.append_nil]
  rw[List.drop_eq_nil_of_le (as:=b.toList) (by simp[e])] at hI
  exact hI.endA
 have endA:∀ {out:Array Keyed}{ia ib:Nat},I out ia ib->ia=a.size->Res O kf T (out++a.extract ia++b.extract ib).toList:=by
  intro out ia ib hI e
  have hI:Mg O kf T out.toList (a.toList.drop ia) (b.toList.drop ib):=hI
  rw[Array.toList_append,Array.toList_append,b6,b6,List.drop_eq_nil_of_le (as:=a.toList) (by simp[e]),List.append_nil]
  rw[List.drop_eq_nil_of_le (as:=a.toList) (by simp[e])] at hI
  exact hI.endB
 have lastA:∀ {out:Array Keyed}{ia ib:Nat},I out ia ib->ia+1=a.size->Res O kf T (out++b.extract ib++a.extract ia).toList:=by
  intro out ia ib hI e
  have hI:Mg O kf T out.toList (a.toList.drop ia) (b.toList.drop ib):=hI
  have e1:a.toList.drop ia=[a[a.size-1]]:=by
   rw[drop_cons (by omega),List.drop_eq_nil_of_le (by simp[e])]
   congr 2
   omega
  rw[Array.toList_append,Array.toList_append,b6,b6,e1]
  rw[e1] at hI
  exact hI.last λy hy=>last y (List.mem_of_mem_drop hy)
 have stepB:∀ {out:Array Keyed}{ia ib:Nat}(h1:ia<a.size) (h2:ib<b.size),I out ia ib->leK O kf b[ib] a[ia]->I (out.push b[ib]) ia (ib+1):=by
  intro out ia ib h1 h2 hI hl
  have hI:Mg O kf T out.toList (a.toList.drop ia) (b.toList.drop ib):=hI
  have hI2:=hI
  rw[drop_cons h2] at hI
  show Mg O kf T (out.push b[ib]).toList _ _
  rw[Array.toList_push]
  refine Mg.takeB (p:=[b[ib]]) hI λx hx y hy=>?_
  have ex:x=b[ib]:=by simpa using hx
  subst ex
  have sA:=hI2.sa
  rw[drop_cons h1] at sA hy
  exact j9 sA hl y hy
 have stepA:∀ {out:Array Keyed}{ia ib:Nat}(h1:ia<a.size) (h2:ib<b.size),I out ia ib->leK O kf a[ia] b[ib]->I (out.push a[ia]) (ia+1) ib:=by
  intro out ia ib h1 h2 hI hl
  have hI:Mg O kf T out.toList (a.toList.drop ia) (b.toList.drop ib):=hI
  have hI2:=hI
  rw[drop_cons h1] at hI
  show Mg O kf T (out.push a[ia]).toList _ _
  rw[Array.toList_push]
  refine Mg.takeA (p:=[a[ia]]) hI λx hx y hy=>?_
  have ex:x=a[ia]:=by simpa using hx
  subst ex
  have sB:=hI2.sb
  rw[drop_cons h2] at sB hy
  exact j9 sB hl y hy
 have manyA:∀ {out:Array Keyed}{ia ib k:Nat}(h2:ib<b.size),I out ia ib->ia+k<=a.size->(∀ i (hi:ia+i<a.size),i<k->leK O kf a[ia+i] b[ib])->I (out++a.extract ia (ia+k)) (ia+k) ib:=by
  intro out ia ib k h2 hI hk' hl
  have hI:Mg O kf T out.toList (a.toList.drop ia) (b.toList.drop ib):=hI
  have hI2:=hI
  rw[drop_take ia k] at hI
  show Mg O kf T (out++a.extract ia (ia+k)).toList _ _
  rw[Array.toList_append]
  refine Mg.takeA hI λx hx y hy=>?_
  obtain⟨i,hi,e⟩:=List.getElem_of_mem hx
  have hi':i<k:=by
   have:(a.extract ia (ia+k)).toList.length=min k (a.size-ia):=by simp
   omega
  have hai:ia+i<a.size:=by omega
  have ex:x=a[ia+i]:=by rw[← e];simp
  have sB:=hI2.sb
  rw[drop_cons h2] at sB hy
  rw[ex]
  exact j9 sB (hl i hai hi') y hy
 have manyB:∀ {out:Array Keyed}{ia ib k:Nat}(h1:ia<a.size),I out ia ib->ib+k<=b.size->(∀ i (hi:ib+i<b.size),i<k->leK O kf b[ib+i] a[ia])->I (out++b.extract ib (ib+k)) ia (ib+k):=by
  intro out ia ib k h1 hI hk' hl
  have hI:Mg O kf T out.toList (a.toList.drop ia) (b.toList.drop ib):=hI
  have hI2:=hI
  rw[drop_take ib k] at hI
  show Mg O kf T (out++b.extract ib (ib+k)).toList _ _
  rw[Array.toList_append]
  refine Mg.takeB hI λx hx y hy=>?_
  obtain⟨i,hi,e⟩:=List.getElem_of_mem hx
  have hi':i<k:=by
   have:(b.extract ib (ib+k)).toList.length=min k (b.size-ib):=by simp
   omega
  have hai:ib+i<b.size:=by omega
  have ex:x=b[ib+i]:=by rw[← e];simp
  have sA:=hI2.sa
  rw[drop_cons h1] at sA hy
  rw[ex]
  exact j9 sA (hl i hai hi') y hy
 have sgA:∀ i j (hi:i<a.size) (hj:j<a.size),i<=j->leK O kf a[i] a[j]:=by
  intro i j hi hj hij
  rcases Nat.lt_or_ge i j with hlt |hge
  ·have:=List.pairwise_iff_getElem.mp sa i j (by simpa using hi) (by simpa using hj) hlt
   simpa using this
  ·have e:i=j:=by omega
   subst e;exact KeyOrd.kle_refl _
 have sgB:∀ i j (hi:i<b.size) (hj:j<b.size),i<=j->leK O kf b[i] b[j]:=by
  intro i j hi hj hij
  rcases Nat.lt_or_ge i j with hlt |hge
  ·have:=List.pairwise_iff_getElem.mp sb i j (by simpa using hi) (by simpa using hj) hlt
   simpa using this
  ·have e:i=j:=by omega
   subst e;exact KeyOrd.kle_refl _
 have start:I #[b[0]] 0 1:=by
  have hI:Mg O kf T [] a.toList b.toList:=⟨by simp[T],List.Pairwise.nil,sa,sb,λx hx=>by simp at hx⟩
  have hI2:I #[] 0 0:=by show Mg O kf T [] (a.toList.drop 0) (b.toList.drop 0);simpa using hI
  exact stepB ha hb hI2 first
 refine wpS_bind (wpS_lift (wpAny_rule ⟨rfl,?_⟩))
 refine wpS_bind (aA hb ?_)
 dsimp only
 by_cases e1:(1==b.size)=true
 ·rw[if_pos e1]
  exact wpS_pure (h _ st (SameS.refl st) (endB start (by simpa using e1)))
 ·rw[if_neg e1]
  by_cases e2:(0+1==a.size)=true
  ·rw[if_pos e2]
   exact wpS_pure (h _ st (SameS.refl st) (lastA start (by simpa using e2)))
  ·rw[if_neg e2]
   have e1' : 1≠b.size:=by simpa using e1
   have e2' : 1≠a.size:=by simpa using e2
   refine wpS_bind (wpS_get ?_)
   refine wpS_bind (wpS_mono (wpS_forRange (I:=λx c st'=>SameS st st'/\∃ out ia ib mg,c=(none,out,ia,ib,mg)/\I out ia ib/\ia+1<a.size/\ib<b.size/\x+1<=ia+ib)
    (Q:=λc st'=>SameS st st'/\∃ r rest,c=(some r,rest)/\Res O kf T r.toList) ?step ?fin ⟨SameS.refl st,_,_,_,_,rfl,start,by omega,by omega,by omega⟩) ?post)
   case post =>
    rintro c st' ⟨hs,r,rest,rfl,hr⟩
    exact wpS_pure (h r st' hs hr)
   case fin =>
    rintro c st' ⟨hs,out,ia,ib,mg,rfl,hI,h1,h2,h3⟩
    omega
   case step =>
    rintro x c st' _ hx ⟨hs,out,ia,ib,mg,rfl,hI,h1,h2,h3⟩
    dsimp only
    refine wpS_bind (wpS_mono (wpS_forRange (I:=λy c st''=>SameS st st''/\∃ out ia' ib' ac bc,c=(none,out,ia',ib',ac,bc)/\I out ia' ib'/\ia'+1<a.size/\ib'<b.size/\ia+ib+y<=ia'+ib')
     (Q:=λc st''=>SameS st st''/\((∃ r rest,c=(some r,rest)/\Res O kf T r.toList)∨∃ out ia' ib' ac bc,c=(none,out,ia',ib',ac,bc)/\I out ia' ib'/\ia'+1<a.size/\ib'<b.size/\ia+ib+1<=ia'+ib')) ?step1 ?fin1 ⟨hs,_,_,_,_,_,rfl,hI,h1,h2,by omega⟩) ?post1)
    case fin1 =>
     rintro c st'' ⟨hs,out,ia',ib',ac,bc,rfl,hI,h1',h2',h3'⟩
     omega
    case step1 =>
     rintro y c st'' _ hy ⟨hs,out,ia',ib',ac,bc,rfl,hI,h1',h2',h3'⟩
     dsimp only
     have h1'':ia'<a.size:=by omega
     refine wpS_bind (aA h2' (wpS_bind (aA h1'' (wpS_bind (L _ _ (gB _ h2') (gA _ h1'') st'' _ (hs.kind.trans hk) ?_)))))
     dsimp only
     cases hlt:O.blt (kf b[ib'].1) (kf a[ia'].1) with
     |true =>
      rw[if_pos rfl]
      refine wpS_bind (aA h2' ?_)
      have hI':=stepB h1'' h2' hI (KeyOrd.kle_of_klt hlt)
      try dsimp only
      by_cases e3:(ib'+1==b.size)=true
      ·rw[if_pos e3]
       exact wpS_pure ⟨hs,.inl ⟨_,_,rfl,endB hI' (by simpa using e3)⟩⟩
      ·rw[if_neg e3]
       have e3':ib'+1≠b.size:=by simpa using e3
       split
       ·exact wpS_pure ⟨hs,.inr ⟨_,_,_,_,_,rfl,hI',h1',by omega,by omega⟩⟩
       ·exact wpS_pure ⟨hs,_,_,_,_,_,rfl,hI',h1',by omega,by omega⟩
     |false =>
      rw[if_neg (by decide)]
      refine wpS_bind (aA h1'' ?_)
      have hI':=stepA h1'' h2' hI (show O.kle _ _ from hlt)
      try dsimp only
      by_cases e3:(ia'+1+1==a.size)=true
      ·rw[if_pos e3]
       exact wpS_pure ⟨hs,.inl ⟨_,_,rfl,lastA hI' (by simpa using e3)⟩⟩
      ·rw[if_neg e3]
       have e3':ia'+1+1≠a.size:=by simpa using e3
       split
       ·exact wpS_pure ⟨hs,.inr ⟨_,_,_,_,_,rfl,hI',by omega,h2',by omega⟩⟩
       ·exact wpS_pure ⟨hs,_,_,_,_,_,rfl,hI',by omega,h2',by omega⟩
    case post1 =>
     rintro c st'' ⟨hs,⟨r,rest,rfl,hr⟩ |⟨out,ia',ib',ac,bc,rfl,hI,h1',h2',h3'⟩⟩
     ·exact wpS_pure ⟨hs,r,_,rfl,hr⟩
     ·dsimp only
      refine wpS_bind (wpS_lift (wpAny_rule ⟨rfl,?_⟩))
      refine wpS_bind (wpS_mono (wpS_forRange (I:=λy c st3=>SameS st st3/\∃ out ia2 ib2 mg ac bc,c=(none,out,ia2,ib2,mg,ac,bc)/\I out ia2 ib2/\ia2+1<a.size/\ib2<b.size/\ia'+ib'+y<=ia2+ib2)
       (Q:=λc st3=>SameS st st3/\((∃ r rest,c=(some r,rest)/\Res O kf T r.toList)∨∃ out ia2 ib2 mg ac bc,c=(none,out,ia2,ib2,mg,ac,bc)/\I out ia2 ib2/\ia2+1<a.size/\ib2<b.size/\ia'+ib'<=ia2+ib2)) ?step2 ?fin2 ⟨hs,_,_,_,_,_,_,rfl,hI,h1',h2',by omega⟩) ?post2)
      case fin2 =>
       rintro c st3 ⟨hs,out,ia2,ib2,mg,ac,bc,rfl,hI,h1,h2,h3⟩
       omega
      case post2 =>
       rintro c st3 ⟨hs,⟨r,rest,rfl,hr⟩ |⟨out,ia2,ib2,mg,ac,bc,rfl,hI,h12,h22,h32⟩⟩
       ·exact wpS_pure ⟨hs,r,_,rfl,hr⟩
       ·dsimp only
        refine wpS_bind (wpS_modify (wpS_pure ⟨⟨hs.kind,hs.arr,hs.pend,hs.fail⟩,_,_,_,_,rfl,hI,h12,h22,by omega⟩))
      case step2 =>
       rintro y c st3 _ hy ⟨hs,out,ia2,ib2,mg,ac,bc,rfl,hI,h12,h22,h32⟩
       dsimp only
       rcases Decidable.em (mg > 1) with hmg |hmg
       all_goals
        first |rw[if_pos hmg] |rw[if_neg hmg]
        refine wpS_bind (wpS_modify ?_)
        have hs3:∀ g,SameS st (SortSt.mk' (kindOf st3) (arrOf st3) (pendingOf st3) g (failedOf st3)):=λg=>⟨hs.kind,hs.arr,hs.pend,hs.fail⟩
        refine wpS_bind (aA h22 ?_)
        refine wpS_bind (bD L (by exact hs.kind.trans hk) (gB _ h22) ga (by omega) (by omega) (λi=>if hi:ia2+i<a.size then bey O kf false b[ib2] a[ia2+i] else false) (λi hi _=>by rw[dif_pos hi]) ?_ ?_)
        ·intro i j hij hj hB
         have hj':ia2+j<a.size:=by omega
         have hi':ia2+i<a.size:=by omega
         rw[dif_pos hj'] at hB
         rw[dif_pos hi']
         unfold bey at hB ⊢
         rw[if_neg (by decide)] at hB ⊢
         have h1:O.kle (kf a[ia2+j].1) (kf b[ib2].1):=by simpa [KeyOrd.kle] using hB
         have h2:O.kle (kf a[ia2+i].1) (kf b[ib2].1):=KeyOrd.kle_trans (sgA _ _ hi' hj' (by omega)) h1
         simpa [KeyOrd.kle] using h2
        ·intro k hkn hk1 hk2
         try dsimp only
         have hA:∀ i (hi:ia2+i<a.size),i<k->leK O kf a[ia2+i] b[ib2]:=by
          intro i hi hik
          have hB:=hk1 i hik
          rw[dif_pos hi] at hB
          unfold bey at hB
          rw[if_neg (by decide)] at hB
          show O.kle _ _
          simpa [KeyOrd.kle] using hB
         have hBl:∀ (hi:ia2+k<a.size),leK O kf b[ib2] a[ia2+k]:=by
          intro hi
          have hB:=hk2 k (Nat.le_refl _) (by omega)
          rw[dif_pos hi] at hB
          unfold bey at hB
          rw[if_neg (by decide)] at hB
          have hB':O.blt (kf b[ib2].1) (kf a[ia2+k].1)=true:=by simpa using hB
          exact KeyOrd.kle_of_klt hB'
         rcases Decidable.em (k > 0) with hk0 |hk0
         ·rw[if_pos hk0]
          have hI3:=manyA h22 hI (by omega) hA
          by_cases e4:(ia2+k+1==a.size)=true
          ·rw[if_pos e4]
           exact wpS_pure ⟨hs3 _,.inl ⟨_,_,rfl,lastA hI3 (by simpa using e4)⟩⟩
          ·rw[if_neg e4]
           have e4':ia2+k+1≠a.size:=by simpa using e4
           by_cases e5:(ia2+k==a.size)=true
           ·rw[if_pos e5]
            exact wpS_pure ⟨hs3 _,.inl ⟨_,_,rfl,endA hI3 (by simpa using e5)⟩⟩
           ·rw[if_neg e5]
            have e5':ia2+k≠a.size:=by simpa using e5
            have h13:ia2+k+1<a.size:=by omega
            have hle3:=hBl (by omega)
            refine wpS_bind (aA h22 ?_)
            have hqa:(ia2+k)<a.size:=by omega
            have hJ:=stepB hqa h22 hI3 hle3
            try dsimp only
            by_cases e6:(ib2+1==b.size)=true
            ·rw[if_pos e6]
             exact wpS_pure ⟨hs3 _,.inl ⟨_,_,rfl,endB hJ (by simpa using e6)⟩⟩
            ·rw[if_neg e6]
             have e6':ib2+1≠b.size:=by simpa using e6
             refine wpS_bind (aA hqa ?_)
             refine wpS_bind (bD L (by exact hs.kind.trans hk) (gA _ hqa) gb (by omega) (by omega) (λi=>if hi:ib2+1+i<b.size then bey O kf true a[(ia2+k)] b[ib2+1+i] else false) (λi hi _=>by rw[dif_pos hi]) ?_ ?_)
             ·intro i j hij hj hB
              have hj':ib2+1+j<b.size:=by omega
              have hi':ib2+1+i<b.size:=by omega
              rw[dif_pos hj'] at hB
              rw[dif_pos hi']
              unfold bey at hB ⊢
              rw[if_pos rfl] at hB ⊢
              exact KeyOrd.klt_of_kle_of_klt (sgB _ _ hi' hj' (by omega)) hB
             ·intro k2 hkn2 hk12 hk22
              try dsimp only
              have hB2:∀ i (hi:ib2+1+i<b.size),i<k2->leK O kf b[ib2+1+i] a[(ia2+k)]:=by
               intro i hi hik
               have hB:=hk12 i hik
               rw[dif_pos hi] at hB
               unfold bey at hB
               rw[if_pos rfl] at hB
               exact KeyOrd.kle_of_klt hB
              have hA2:∀ (hi:ib2+1+k2<b.size),leK O kf a[(ia2+k)] b[ib2+1+k2]:=by
               intro hi
               have hB:=hk22 k2 (Nat.le_refl _) (by omega)
               rw[dif_pos hi] at hB
               unfold bey at hB
               rw[if_pos rfl] at hB
               exact hB
              rcases Decidable.em (k2 > 0) with hk3 |hk3
              ·rw[if_pos hk3]
               have hJ2:=manyB hqa hJ (by omega) hB2
               by_cases e7:(ib2+1+k2==b.size)=true
               ·rw[if_pos e7]
                exact wpS_pure ⟨hs3 _,.inl ⟨_,_,rfl,endB hJ2 (by simpa using e7)⟩⟩
               ·rw[if_neg e7]
                have e7':ib2+1+k2≠b.size:=by simpa using e7
                refine wpS_bind (aA hqa ?_)
                have hK:=stepA hqa (by omega) hJ2 (hA2 (by omega))
                try dsimp only
                by_cases e8:((ia2+k)+1+1==a.size)=true
                ·rw[if_pos e8]
                 exact wpS_pure ⟨hs3 _,.inl ⟨_,_,rfl,lastA hK (by simpa using e8)⟩⟩
                ·rw[if_neg e8]
                 have e8':(ia2+k)+1+1≠a.size:=by simpa using e8
                 by_cases e9:(decide (k<7)&&decide (k2<7))=true
                 ·rw[if_pos e9]
                  exact wpS_pure ⟨hs3 _,.inr ⟨_,_,_,_,_,_,rfl,hK,by omega,by omega,by omega⟩⟩
                 ·rw[if_neg e9]
                  exact wpS_pure ⟨hs3 _,_,_,_,_,_,_,rfl,hK,by omega,by omega,by omega⟩
              ·rw[if_neg hk3]
               have k20:k2=0:=by omega
               subst k20
               refine wpS_bind (aA hqa ?_)
               have hK:=stepA hqa (by omega) hJ (hA2 (by omega))
               try dsimp only
               by_cases e8:((ia2+k)+1+1==a.size)=true
               ·rw[if_pos e8]
                exact wpS_pure ⟨hs3 _,.inl ⟨_,_,rfl,lastA hK (by simpa using e8)⟩⟩
               ·rw[if_neg e8]
                have e8':(ia2+k)+1+1≠a.size:=by simpa using e8
                by_cases e9:(decide (k<7)&&decide (0<7))=true
                ·rw[if_pos e9]
                 exact wpS_pure ⟨hs3 _,.inr ⟨_,_,_,_,_,_,rfl,hK,by omega,by omega,by omega⟩⟩
                ·rw[if_neg e9]
                 exact wpS_pure ⟨hs3 _,_,_,_,_,_,_,rfl,hK,by omega,by omega,by omega⟩
         ·rw[if_neg hk0]
          have k0:k=0:=by omega
          subst k0
          have hle3:=hBl (by omega)
          refine wpS_bind (aA h22 ?_)
          have hqa:ia2<a.size:=by omega
          have hJ:=stepB hqa h22 hI hle3
          try dsimp only
          by_cases e6:(ib2+1==b.size)=true
          ·rw[if_pos e6]
           exact wpS_pure ⟨hs3 _,.inl ⟨_,_,rfl,endB hJ (by simpa using e6)⟩⟩
          ·rw[if_neg e6]
           have e6':ib2+1≠b.size:=by simpa using e6
           refine wpS_bind (aA hqa ?_)
           refine wpS_bind (bD L (by exact hs.kind.trans hk) (gA _ hqa) gb (by omega) (by omega) (λi=>if hi:ib2+1+i<b.size then bey O kf true a[ia2] b[ib2+1+i] else false) (λi hi _=>by rw[dif_pos hi]) ?_ ?_)
           ·intro i j hij hj hB
            have hj':ib2+1+j<b.size:=by omega
            have hi':ib2+1+i<b.size:=by omega
            rw[dif_pos hj'] at hB
            rw[dif_pos hi']
            unfold bey at hB ⊢
            rw[if_pos rfl] at hB ⊢
            exact KeyOrd.klt_of_kle_of_klt (sgB _ _ hi' hj' (by omega)) hB
           ·intro k2 hkn2 hk12 hk22
            try dsimp only
            have hB2:∀ i (hi:ib2+1+i<b.size),i<k2->leK O kf b[ib2+1+i] a[ia2]:=by
             intro i hi hik
             have hB:=hk12 i hik
             rw[dif_pos hi] at hB
             unfold bey at hB
             rw[if_pos rfl] at hB
             exact KeyOrd.kle_of_klt hB
            have hA2:∀ (hi:ib2+1+k2<b.size),leK O kf a[ia2] b[ib2+1+k2]:=by
             intro hi
             have hB:=hk22 k2 (Nat.le_refl _) (by omega)
             rw[dif_pos hi] at hB
             unfold bey at hB
             rw[if_pos rfl] at hB
             exact hB
            rcases Decidable.em (k2 > 0) with hk3 |hk3
            ·rw[if_pos hk3]
             have hJ2:=manyB hqa hJ (by omega) hB2
             by_cases e7:(ib2+1+k2==b.size)=true
             ·rw[if_pos e7]
              exact wpS_pure ⟨hs3 _,.inl ⟨_,_,rfl,endB hJ2 (by simpa using e7)⟩⟩
             ·rw[if_neg e7]
              have e7':ib2+1+k2≠b.size:=by simpa using e7
              refine wpS_bind (aA hqa ?_)
              have hK:=stepA hqa (by omega) hJ2 (hA2 (by omega))
              try dsimp only
              by_cases e8:(ia2+1+1==a.size)=true
              ·rw[if_pos e8]
               exact wpS_pure ⟨hs3 _,.inl ⟨_,_,rfl,lastA hK (by simpa using e8)⟩⟩
              ·rw[if_neg e8]
               have e8':ia2+1+1≠a.size:=by simpa using e8
               by_cases e9:(decide (0<7)&&decide (k2<7))=true
               ·rw[if_pos e9]
                exact wpS_pure ⟨hs3 _,.inr ⟨_,_,_,_,_,_,rfl,hK,by omega,by omega,by omega⟩⟩
               ·rw[if_neg e9]
                exact wpS_pure ⟨hs3 _,_,_,_,_,_,_,rfl,hK,by omega,by omega,by omega⟩
            ·rw[if_neg hk3]
             have k20:k2=0:=by omega
             subst k20
             refine wpS_bind (aA hqa ?_)
             have hK:=stepA hqa (by omega) hJ (hA2 (by omega))
             try dsimp only
             by_cases e8:(ia2+1+1==a.size)=true
             ·rw[if_pos e8]
              exact wpS_pure ⟨hs3 _,.inl ⟨_,_,rfl,lastA hK (by simpa using e8)⟩⟩
             ·rw[if_neg e8]
              have e8':ia2+1+1≠a.size:=by simpa using e8
              by_cases e9:(decide (0<7)&&decide (0<7))=true
              ·rw[if_pos e9]
               exact wpS_pure ⟨hs3 _,.inr ⟨_,_,_,_,_,_,rfl,hK,by omega,by omega,by omega⟩⟩
              ·rw[if_neg e9]
               exact wpS_pure ⟨hs3 _,_,_,_,_,_,_,rfl,hK,by omega,by omega,by omega⟩
end
section
variable {O:KeyOrd}{kf:Value->O.α}
structure Mh (O:KeyOrd) (kf:Value->O.α) (T A B R:List Keyed):Prop where
 perm:(A++B++R).Perm T
 so:R.Pairwise (leK O kf)
 sa:A.Pairwise (leK O kf)
 sb:B.Pairwise (leK O kf)
 high:∀ x∈A++B,∀ y∈R,leK O kf x y
theorem Mh.takeA {T p A B R:List Keyed}(h:Mh O kf T (A++p) B R)(l:∀ x∈B,∀ y∈p,leK O kf x y):Mh O kf T A B (p++R):=by
 have sa:=List.pairwise_append.mp h.sa
 refine⟨?_,List.pairwise_append.mpr ⟨sa.2.1,h.so,λx hx y hy=>h.high x (by simp[hx]) y hy⟩,sa.1,h.sb,λx hx y hy=>?_⟩
 ·refine List.Perm.trans ?_ h.perm
  rw[← List.append_assoc,List.append_assoc A B p,List.append_assoc A p B]
  exact List.Perm.append_right R (List.Perm.append_left A List.perm_append_comm)
 rcases List.mem_append.mp hy with hy |hy
 ·rcases List.mem_append.mp hx with hx |hx
  ·exact sa.2.2 x hx y hy
  ·exact l x hx y hy
 ·exact h.high x (by
   rcases List.mem_append.mp hx with hx |hx
   ·simp[hx]
   ·simp[hx]) y hy
theorem Mh.takeB {T p A B R:List Keyed}(h:Mh O kf T A (B++p) R)(l:∀ x∈A,∀ y∈p,leK O kf x y):Mh O kf T A B (p++R):=by
 have sb:=List.pairwise_append.mp h.sb
 refine⟨by have:=h.perm;simpa [List.append_assoc] using this,List.pairwise_append.mpr ⟨sb.2.1,h.so,λx hx y hy=>h.high x (by simp[hx]) y hy⟩,h.sa,sb.1,λx hx y hy=>?_⟩
 rcases List.mem_append.mp hy with hy |hy
 ·rcases List.mem_append.mp hx with hx |hx
  ·exact l x hx y hy
  ·exact sb.2.2 x hx y hy
 ·exact h.high x (by
   rcases List.mem_append.mp hx with hx |hx
   ·simp[hx]
   ·simp[hx]) y hy
theorem Mh.endA {T A R:List Keyed}(h:Mh O kf T A [] R):Res O kf T (A++R):=
 ⟨by have:=h.perm;simpa using this,List.pairwise_append.mpr ⟨h.sa,h.so,λx hx y hy=>h.high x (by simp[hx]) y hy⟩⟩
theorem Mh.endB {T B R:List Keyed}(h:Mh O kf T [] B R):Res O kf T (B++R):=
 ⟨by have:=h.perm;simpa using this,List.pairwise_append.mpr ⟨h.sb,h.so,λx hx y hy=>h.high x (by simp[hx]) y hy⟩⟩
theorem Mh.first {T A R:List Keyed}{z:Keyed}(h:Mh O kf T A [z] R)(l:∀ y∈A,leK O kf z y):Res O kf T ([z]++A++R):=by
 refine⟨?_,List.pairwise_append.mpr ⟨List.pairwise_append.mpr ⟨List.pairwise_singleton _ _,h.sa,λx hx y hy=>?_⟩,h.so,λx hx y hy=>?_⟩⟩
 ·refine List.Perm.trans ?_ h.perm
  exact List.Perm.append_right R List.perm_append_comm
 ·have ex:x=z:=by simpa using hx
  subst ex;exact l y hy
 ·exact h.high x (by
   rcases List.mem_append.mp hx with hx |hx
   ·simp at hx;simp[hx]
   ·simp[hx]) y hy
theorem take_snoc {a:Array Keyed}{i:Nat}(h:i<a.size):a.toList.take (i+1)=a.toList.take i++[a[i]]:=by
 rw[List.take_succ];simp[h]
theorem kF {a:Array Keyed}{i n:Nat}(h:i<=n):a.toList.take n=a.toList.take i++(a.extract i n).toList:=by
 have e:(a.extract i n).toList=(a.toList.drop i).take (n-i):=by rw[Array.toList_extract,List.extract_eq_drop_take]
 rw[e,← List.take_append_drop i (a.toList.take n),List.take_take,Nat.min_eq_left h,List.drop_take]
theorem extract_zero {a:Array Keyed}(n:Nat):(a.extract 0 n).toList=a.toList.take n:=by
 rw[Array.toList_extract,List.extract_eq_drop_take];simp
theorem ki {l:List Keyed}{x y:Keyed}(hs:(l++[y]).Pairwise (leK O kf))(h:leK O kf y x):∀ z∈l++[y],leK O kf z x:=by
 intro z hz
 rcases List.mem_append.mp hz with hz |hz
 ·exact bM ((List.pairwise_append.mp hs).2.2 z hz y (by simp)) h
 ·have e:z=y:=by simpa using hz
  rw[e];exact h
end
section
variable {prog:Program}{w:World}{A:Around}{E:Value->Shared->Prop}{s:Shared}{kd:SortKind}{O:KeyOrd}{kf:Value->O.α}{G:Keyed->Prop}
theorem oH (L:j2 prog w A E s kd O kf G){a b:Array Keyed}{st:SortSt}{Q:Array Keyed->SortSt->Prop}(hk:kindOf st=kd)(ga:∀ x∈a.toList,G x)(gb:∀ x∈b.toList,G x)(ha : 0<a.size)(hb : 0<b.size)
  (sa:a.toList.Pairwise (leK O kf)) (sb:b.toList.Pairwise (leK O kf)) (first:leK O kf b[0] a[0]) (last:∀ y∈b.toList,leK O kf y a[a.size-1])
  (h:∀ r st',SameS st st'->Res O kf (a.toList++b.toList) r.toList->Q r st'):wpS (model prog w) A E s (vV a b) Q st:=by
 let T:=a.toList++b.toList
 let I:Array Keyed->Nat->Nat->Prop:=λout na nb=>Mh O kf T (a.toList.take na) (b.toList.take nb) out.toList.reverse
 have gA:∀ i (hi:i<a.size),G a[i]:=λi hi=>ga _ (Array.getElem_mem_toList hi)
 have gB:∀ i (hi:i<b.size),G b[i]:=λi hi=>gb _ (Array.getElem_mem_toList hi)
 have sgA:∀ i j (hi:i<a.size) (hj:j<a.size),i<=j->leK O kf a[i] a[j]:=by
  intro i j hi hj hij
  rcases Nat.lt_or_ge i j with hlt |hge
  ·have:=List.pairwise_iff_getElem.mp sa i j (by simpa using hi) (by simpa using hj) hlt
   simpa using this
  ·have e:i=j:=by omega
   subst e;exact KeyOrd.kle_refl _
 have sgB:∀ i j (hi:i<b.size) (hj:j<b.size),i<=j->leK O kf b[i] b[j]:=by
  intro i j hi hj hij
  rcases Nat.lt_or_ge i j with hlt |hge
  ·have:=List.pairwise_iff_getElem.mp sb i j (by simpa using hi) (by simpa using hj) hlt
   simpa using this
  ·have e:i=j:=by omega
   subst e;exact KeyOrd.kle_refl _
 have doneA:∀ {out:Array Keyed}{na nb:Nat},I out na nb->na=0->Res O kf T (a.extract 0 na++b.extract 0 nb++out.reverse).toList:=by
  intro out na nb hI e
  subst e
  have hI:Mh O kf T (a.toList.take 0) (b.toList.take nb) out.toList.reverse:=hI
  rw[Array.toList_append,Array.toList_append,extract_zero,extract_zero,Array.toList_reverse]
  rw[List.take_zero] at hI ⊢
  rw[List.nil_append]
  exact hI.endB
 have doneB:∀ {out:Array Keyed}{na nb:Nat},I out na nb->nb=0->Res O kf T (a.extract 0 na++b.extract 0 nb++out.reverse).toList:=by
  intro out na nb hI e
  subst e
  have hI:Mh O kf T (a.toList.take na) (b.toList.take 0) out.toList.reverse:=hI
  rw[Array.toList_append,Array.toList_append,extract_zero,extract_zero,Array.toList_reverse]
  rw[List.take_zero] at hI ⊢
  rw[List.append_nil]
  exact hI.endA
 have firstB:∀ {out:Array Keyed}{na nb:Nat},I out na nb->nb=1->Res O kf T (b.extract 0 nb++a.extract 0 na++out.reverse).toList:=by
  intro out na nb hI e
  subst e
  have hI:Mh O kf T (a.toList.take na) (b.toList.take 1) out.toList.reverse:=hI
  have e1:b.toList.take 1=[b[0]]:=by rw[take_snoc hb];simp
  rw[Array.toList_append,Array.toList_append,extract_zero,extract_zero,Array.toList_reverse,e1]
  rw[e1] at hI
  refine hI.first λy hy=>?_
  obtain⟨i,hi,e⟩:=List.getElem_of_mem (List.mem_of_mem_take hy)
  have hi':i<a.size:=by simpa using hi
  have ey:y=a[i]:=by rw[← e];simp
  rw[ey]
  exact bM first (sgA 0 i ha hi' (Nat.zero_le _))
 have stepA:∀ {out:Array Keyed}{na nb:Nat}(h1:na<a.size) (h2:nb<b.size),I out (na+1) (nb+1)->leK O kf b[nb] a[na]->I (out.push a[na]) na (nb+1):=by
  intro out na nb h1 h2 hI hl
  have hI:Mh O kf T (a.toList.take (na+1)) (b.toList.take (nb+1)) out.toList.reverse:=hI
  have sB:=hI.sb
  rw[take_snoc h1] at hI
  show Mh O kf T (a.toList.take na) (b.toList.take (nb+1)) (out.push a[na]).toList.reverse
  rw[Array.toList_push,List.reverse_append]
  refine Mh.takeA (p:=[a[na]]) hI λx hx y hy=>?_
  have ey:y=a[na]:=by simpa using hy
  subst ey
  rw[take_snoc h2] at sB hx
  exact ki sB hl x hx
 have stepB:∀ {out:Array Keyed}{na nb:Nat}(h1:na<a.size) (h2:nb<b.size),I out (na+1) (nb+1)->leK O kf a[na] b[nb]->I (out.push b[nb]) (na+1) nb:=by
  intro out na nb h1 h2 hI hl
  have hI:Mh O kf T (a.toList.take (na+1)) (b.toList.take (nb+1)) out.toList.reverse:=hI
  have sA:=hI.sa
  rw[take_snoc h2] at hI
  show Mh O kf T (a.toList.take (na+1)) (b.toList.take nb) (out.push b[nb]).toList.reverse
  rw[Array.toList_push,List.reverse_append]
  refine Mh.takeB (p:=[b[nb]]) hI λx hx y hy=>?_
  have ey:y=b[nb]:=by simpa using hy
  subst ey
  rw[take_snoc h1] at sA hx
  exact ki sA hl x hx
 have manyA:∀ {out:Array Keyed}{na nb k:Nat}(h2:nb<b.size),I out na (nb+1)->k<=na->na<=a.size->(∀ i (hi:i<a.size),k<=i->i<na->leK O kf b[nb] a[i])->I (out++(a.extract k na).reverse) k (nb+1):=by
  intro out na nb k h2 hI hkn hna hl
  have hI:Mh O kf T (a.toList.take na) (b.toList.take (nb+1)) out.toList.reverse:=hI
  have sB:=hI.sb
  rw[kF hkn] at hI
  show Mh O kf T (a.toList.take k) (b.toList.take (nb+1)) (out++(a.extract k na).reverse).toList.reverse
  rw[Array.toList_append,Array.toList_reverse,List.reverse_append,List.reverse_reverse]
  refine Mh.takeA hI λx hx y hy=>?_
  obtain⟨i,hi,e⟩:=List.getElem_of_mem hy
  have hi':i<na-k:=by
   have:(a.extract k na).toList.length=min (na-k) (a.size-k):=by simp
   omega
  have hai:k+i<a.size:=by omega
  have ey:y=a[k+i]:=by rw[← e];simp
  rw[take_snoc h2] at sB hx
  rw[ey]
  exact ki sB (hl (k+i) hai (by omega) (by omega)) x hx
 have manyB:∀ {out:Array Keyed}{na nb k:Nat}(h1:na<a.size),I out (na+1) nb->k<=nb->nb<=b.size->(∀ i (hi:i<b.size),k<=i->i<nb->leK O kf a[na] b[i])->I (out++(b.extract k nb).reverse) (na+1) k:=by
  intro out na nb k h1 hI hkn hnb hl
  have hI:Mh O kf T (a.toList.take (na+1)) (b.toList.take nb) out.toList.reverse:=hI
  have sA:=hI.sa
  rw[kF hkn] at hI
  show Mh O kf T (a.toList.take (na+1)) (b.toList.take k) (out++(b.extract k nb).reverse).toList.reverse
  rw[Array.toList_append,Array.toList_reverse,List.reverse_append,List.reverse_reverse]
  refine Mh.takeB hI λx hx y hy=>?_
  obtain⟨i,hi,e⟩:=List.getElem_of_mem hy
  have hi':i<nb-k:=by
   have:(b.extract k nb).toList.length=min (nb-k) (b.size-k):=by simp
   omega
  have hai:k+i<b.size:=by omega
  have ey:y=b[k+i]:=by rw[← e];simp
  rw[take_snoc h1] at sA hx
  rw[ey]
  exact ki sA (hl (k+i) hai (by omega) (by omega)) x hx
 have start:I #[a[a.size-1]] (a.size-1) b.size:=by
  have e1:a.toList.take (a.size-1+1)=a.toList:=List.take_of_length_le (by simp;omega)
  have e2:b.toList.take b.size=b.toList:=List.take_of_length_le (by simp)
  have hI:Mh O kf T (a.toList.take (a.size-1+1)) b.toList []:=⟨by rw[e1];simp[T],List.Pairwise.nil,by rw[e1];exact sa,sb,λx hx y hy=>by simp at hy⟩
  rw[take_snoc (by omega)] at hI
  show Mh O kf T (a.toList.take (a.size-1)) (b.toList.take b.size) [a[a.size-1]]
  rw[e2]
  exact Mh.takeA (p:=[a[a.size-1]]) hI λx hx y hy=>by
   have ey:y=a[a.size-1]:=by simpa using hy
   rw[ey];exact last x hx
 refine wpS_bind (wpS_lift (wpAny_rule ⟨rfl,?_⟩))
 refine wpS_bind (aA (show a.size-1<a.size by omega) ?_)
 try dsimp only
 by_cases e1:(a.size-1==0)=true
 ·rw[if_pos e1]
  exact wpS_pure (h _ st (SameS.refl st) (doneA start (by simpa using e1)))
 ·rw[if_neg e1]
  have e1':a.size-1≠0:=by simpa using e1
  by_cases e2:(b.size==1)=true
  ·rw[if_pos e2]
   exact wpS_pure (h _ st (SameS.refl st) (firstB start (by simpa using e2)))
  ·rw[if_neg e2]
   have e2':b.size≠1:=by simpa using e2
   refine wpS_bind (wpS_get ?_)
   refine wpS_bind (wpS_mono (wpS_forRange (I:=λx c st'=>SameS st st'/\∃ na nb out mg,c=(none,na,nb,out,mg)/\I out na nb/\0<na/\na<a.size/\1<nb/\nb<=b.size/\na+nb+x+1<=a.size+b.size)
    (Q:=λc st'=>SameS st st'/\∃ r rest,c=(some r,rest)/\Res O kf T r.toList) ?step ?fin ⟨SameS.refl st,_,_,_,_,rfl,start,by omega,by omega,by omega,by omega,by omega⟩) ?post)
   case post =>
    rintro c st' ⟨hs,r,rest,rfl,hr⟩
    exact wpS_pure (h r st' hs hr)
   case fin =>
    rintro c st' ⟨hs,na,nb,out,mg,rfl,hI,h1,h1b,h2,h2b,h3⟩
    omega
   case step =>
    rintro x c st' _ hx ⟨hs,na,nb,out,mg,rfl,hI,h1,h1b,h2,h2b,h3⟩
    dsimp only
    refine wpS_bind (wpS_mono (wpS_forRange (I:=λy c st''=>SameS st st''/\∃ na' nb' out ac bc,c=(none,na',nb',out,ac,bc)/\I out na' nb'/\0<na'/\na'<a.size/\1<nb'/\nb'<=b.size/\na'+nb'+y<=na+nb)
     (Q:=λc st''=>SameS st st''/\((∃ r rest,c=(some r,rest)/\Res O kf T r.toList)∨∃ na' nb' out ac bc,c=(none,na',nb',out,ac,bc)/\I out na' nb'/\0<na'/\na'<a.size/\1<nb'/\nb'<=b.size/\na'+nb'+1<=na+nb)) ?step1 ?fin1 ⟨hs,_,_,_,_,_,rfl,hI,h1,h1b,h2,h2b,by omega⟩) ?post1)
    case fin1 =>
     rintro c st'' ⟨hs,na',nb',out,ac,bc,rfl,hI,h1',h1b',h2',h2b',h3'⟩
     omega
    case step1 =>
     rintro y c st'' _ hy ⟨hs,na',nb',out,ac,bc,rfl,hI,h1',h1b',h2',h2b',h3'⟩
     dsimp only
     obtain⟨p,rfl⟩:∃ p,na'=p+1:=⟨na'-1,by omega⟩
     obtain⟨q,rfl⟩:∃ q,nb'=q+1:=⟨nb'-1,by omega⟩
     have hp:p<a.size:=by omega
     have hq:q<b.size:=by omega
     simp only[Nat.add_sub_cancel]
     refine wpS_bind (aA hq (wpS_bind (aA hp (wpS_bind (L _ _ (gB _ hq) (gA _ hp) st'' _ (hs.kind.trans hk) ?_)))))
     dsimp only
     cases hlt:O.blt (kf b[q].1) (kf a[p].1) with
     |true =>
      rw[if_pos rfl]
      refine wpS_bind (aA hp ?_)
      have hI':=stepA hp hq hI (KeyOrd.kle_of_klt hlt)
      try dsimp only
      by_cases e3:(p==0)=true
      ·rw[if_pos e3]
       exact wpS_pure ⟨hs,.inl ⟨_,_,rfl,doneA hI' (by simpa using e3)⟩⟩
      ·rw[if_neg e3]
       have e3':p≠0:=by simpa using e3
       split
       ·exact wpS_pure ⟨hs,.inr ⟨_,_,_,_,_,rfl,hI',by omega,by omega,h2',h2b',by omega⟩⟩
       ·exact wpS_pure ⟨hs,_,_,_,_,_,rfl,hI',by omega,by omega,h2',h2b',by omega⟩
     |false =>
      rw[if_neg (by decide)]
      refine wpS_bind (aA hq ?_)
      have hI':=stepB hp hq hI (show O.kle _ _ from hlt)
      try dsimp only
      by_cases e3:(q==1)=true
      ·rw[if_pos e3]
       exact wpS_pure ⟨hs,.inl ⟨_,_,rfl,firstB hI' (by simpa using e3)⟩⟩
      ·rw[if_neg e3]
       have e3':q≠1:=by simpa using e3
       split
       ·exact wpS_pure ⟨hs,.inr ⟨_,_,_,_,_,rfl,hI',h1',h1b',by omega,by omega,by omega⟩⟩
       ·exact wpS_pure ⟨hs,_,_,_,_,_,rfl,hI',h1',h1b',by omega,by omega,by omega⟩
    case post1 =>
     rintro c st'' ⟨hs,⟨r,rest,rfl,hr⟩ |⟨na',nb',out,ac,bc,rfl,hI,h1',h1b',h2',h2b',h3'⟩⟩
     ·exact wpS_pure ⟨hs,r,_,rfl,hr⟩
     ·dsimp only
      refine wpS_bind (wpS_lift (wpAny_rule ⟨rfl,?_⟩))
      refine wpS_bind (wpS_mono (wpS_forRange (I:=λy c st3=>SameS st st3/\∃ na2 nb2 out mg ac bc,c=(none,na2,nb2,out,mg,ac,bc)/\I out na2 nb2/\0<na2/\na2<a.size/\1<nb2/\nb2<=b.size/\na2+nb2+y<=na'+nb')
       (Q:=λc st3=>SameS st st3/\((∃ r rest,c=(some r,rest)/\Res O kf T r.toList)∨∃ na2 nb2 out mg ac bc,c=(none,na2,nb2,out,mg,ac,bc)/\I out na2 nb2/\0<na2/\na2<a.size/\1<nb2/\nb2<=b.size/\na2+nb2<=na'+nb')) ?step2 ?fin2 ⟨hs,_,_,_,_,_,_,rfl,hI,h1',h1b',h2',h2b',by omega⟩) ?post2)
      case fin2 =>
       rintro c st3 ⟨hs,na2,nb2,out,mg,ac,bc,rfl,hI,h12,h12b,h22,h22b,h32⟩
       omega
      case post2 =>
       rintro c st3 ⟨hs,⟨r,rest,rfl,hr⟩ |⟨na2,nb2,out,mg,ac,bc,rfl,hI,h12,h12b,h22,h22b,h32⟩⟩
       ·exact wpS_pure ⟨hs,r,_,rfl,hr⟩
       ·dsimp only
        refine wpS_bind (wpS_modify (wpS_pure ⟨⟨hs.kind,hs.arr,hs.pend,hs.fail⟩,_,_,_,_,rfl,hI,h12,h12b,h22,h22b,by omega⟩))
      case step2 =>
       rintro y c st3 _ hy ⟨hs,na2,nb2,out,mg,ac,bc,rfl,hI,h12,h12b,h22,h22b,h32⟩
       dsimp only
       obtain⟨q,rfl⟩:∃ q,nb2=q+1:=⟨nb2-1,by omega⟩
       have hq:q<b.size:=by omega
       have hs3:∀ g,SameS st (SortSt.mk' (kindOf st3) (arrOf st3) (pendingOf st3) g (failedOf st3)):=λg=>⟨hs.kind,hs.arr,hs.pend,hs.fail⟩
       rcases Decidable.em (mg > 1) with hmg |hmg
       all_goals
        first |rw[if_pos hmg] |rw[if_neg hmg]
        refine wpS_bind (wpS_modify ?_)
        simp only[Nat.add_sub_cancel]
        refine wpS_bind (aA hq ?_)
        refine wpS_bind (bD L (by exact hs.kind.trans hk) (gB _ hq) ga (by omega) (by omega) (λi=>if hi : 0+i<a.size then bey O kf false b[q] a[0+i] else false) (λi hi _=>by rw[dif_pos hi]) ?_ ?_)
        ·intro i j hij hj hB
         have hj' : 0+j<a.size:=by omega
         have hi' : 0+i<a.size:=by omega
         rw[dif_pos hj'] at hB
         rw[dif_pos hi']
         unfold bey at hB ⊢
         rw[if_neg (by decide)] at hB ⊢
         have h1:O.kle (kf a[0+j].1) (kf b[q].1):=by simpa [KeyOrd.kle] using hB
         have h2:O.kle (kf a[0+i].1) (kf b[q].1):=KeyOrd.kle_trans (sgA _ _ hi' hj' (by omega)) h1
         simpa [KeyOrd.kle] using h2
        ·intro k hkn hk1 hk2
         try dsimp only
         have hA:∀ i (hi:i<a.size),k<=i->i<na2->leK O kf b[q] a[i]:=by
          intro i hi hki hin
          have hB:=hk2 i hki hin
          rw[dif_pos (by omega : 0+i<a.size)] at hB
          unfold bey at hB
          rw[if_neg (by decide)] at hB
          simp only[Nat.zero_add] at hB
          have hB':O.blt (kf b[q].1) (kf a[i].1)=true:=by simpa using hB
          exact KeyOrd.kle_of_klt hB'
         have hBl:∀ i (hi:i<a.size),i<k->leK O kf a[i] b[q]:=by
          intro i hi hik
          have hB:=hk1 i hik
          rw[dif_pos (by omega : 0+i<a.size)] at hB
          unfold bey at hB
          rw[if_neg (by decide)] at hB
          simp only[Nat.zero_add] at hB
          show O.kle _ _
          simpa [KeyOrd.kle] using hB
         rcases Decidable.em (na2-k > 0) with hk0 |hk0
         ·rw[if_pos hk0]
          have hI3:=manyA hq hI (by omega) (by omega) hA
          by_cases e4:(k==0)=true
          ·rw[if_pos e4]
           exact wpS_pure ⟨hs3 _,.inl ⟨_,_,rfl,doneA hI3 (by simpa using e4)⟩⟩
          ·rw[if_neg e4]
           have e4':k≠0:=by simpa using e4
           obtain⟨p,rfl⟩:∃ p,k=p+1:=⟨k-1,by omega⟩
           have hp:p<a.size:=by omega
           have hle3:=hBl p hp (by omega)
           refine wpS_bind (aA hq ?_)
           have hJ:=stepB hp hq hI3 hle3
           try dsimp only
           by_cases e6:(q==1)=true
           ·rw[if_pos e6]
            exact wpS_pure ⟨hs3 _,.inl ⟨_,_,rfl,firstB hJ (by simpa using e6)⟩⟩
           ·rw[if_neg e6]
            have e6':q≠1:=by simpa using e6
            simp only[Nat.add_sub_cancel]
            refine wpS_bind (aA hp ?_)
            refine wpS_bind (bD L (by exact hs.kind.trans hk) (gA _ hp) gb (by omega) (by omega) (λi=>if hi : 0+i<b.size then bey O kf true a[p] b[0+i] else false) (λi hi _=>by rw[dif_pos hi]) ?_ ?_)
            ·intro i j hij hj hB
             have hj' : 0+j<b.size:=by omega
             have hi' : 0+i<b.size:=by omega
             rw[dif_pos hj'] at hB
             rw[dif_pos hi']
             unfold bey at hB ⊢
             rw[if_pos rfl] at hB ⊢
             exact KeyOrd.klt_of_kle_of_klt (sgB _ _ hi' hj' (by omega)) hB
            ·intro k2 hkn2 hk12 hk22
             try dsimp only
             have hB2:∀ i (hi:i<b.size),k2<=i->i<q->leK O kf a[p] b[i]:=by
              intro i hi hki hiq
              have hB:=hk22 i hki hiq
              rw[dif_pos (by omega : 0+i<b.size)] at hB
              unfold bey at hB
              rw[if_pos rfl] at hB
              simp only[Nat.zero_add] at hB
              exact hB
             have hA2:∀ i (hi:i<b.size),i<k2->leK O kf b[i] a[p]:=by
              intro i hi hik
              have hB:=hk12 i hik
              rw[dif_pos (by omega : 0+i<b.size)] at hB
              unfold bey at hB
              rw[if_pos rfl] at hB
              simp only[Nat.zero_add] at hB
              exact KeyOrd.kle_of_klt hB
             rcases Decidable.em (q-k2 > 0) with hk3 |hk3
             ·rw[if_pos hk3]
              have hJ2:=manyB hp hJ (by omega) (by omega) hB2
              by_cases e7:(k2==1)=true
              ·rw[if_pos e7]
               exact wpS_pure ⟨hs3 _,.inl ⟨_,_,rfl,firstB hJ2 (by simpa using e7)⟩⟩
              ·rw[if_neg e7]
               have e7':k2≠1:=by simpa using e7
               by_cases e7b:(k2==0)=true
               ·rw[if_pos e7b]
                exact wpS_pure ⟨hs3 _,.inl ⟨_,_,rfl,doneB hJ2 (by simpa using e7b)⟩⟩
               ·rw[if_neg e7b]
                have e7b':k2≠0:=by simpa using e7b
                obtain⟨r,rfl⟩:∃ r,k2=r+1:=⟨k2-1,by omega⟩
                try simp only[Nat.add_sub_cancel]
                refine wpS_bind (aA hp ?_)
                have hK:=stepA hp (by omega) hJ2 (hA2 _ (by omega) (by omega))
                try dsimp only
                by_cases e8:(p==0)=true
                ·rw[if_pos e8]
                 exact wpS_pure ⟨hs3 _,.inl ⟨_,_,rfl,doneA hK (by simpa using e8)⟩⟩
                ·rw[if_neg e8]
                 have e8':p≠0:=by simpa using e8
                 by_cases e9:(decide (na2-(p+1)<7)&&decide (q-(r+1)<7))=true
                 ·rw[if_pos e9]
                  exact wpS_pure ⟨hs3 _,.inr ⟨_,_,_,_,_,_,rfl,hK,by omega,by omega,by omega,by omega,by omega⟩⟩
                 ·rw[if_neg e9]
                  exact wpS_pure ⟨hs3 _,_,_,_,_,_,_,rfl,hK,by omega,by omega,by omega,by omega,by omega⟩
             ·rw[if_neg hk3]
              have ek2:k2=q:=by omega
              subst ek2
              obtain⟨r,rfl⟩:∃ r,k2=r+1:=⟨k2-1,by omega⟩
              try simp only[Nat.add_sub_cancel]
              refine wpS_bind (aA hp ?_)
              have hK:=stepA hp (by omega) hJ (hA2 _ (by omega) (by omega))
              try dsimp only
              by_cases e8:(p==0)=true
              ·rw[if_pos e8]
               exact wpS_pure ⟨hs3 _,.inl ⟨_,_,rfl,doneA hK (by simpa using e8)⟩⟩
              ·rw[if_neg e8]
               have e8':p≠0:=by simpa using e8
               by_cases e9:(decide (na2-(p+1)<7)&&decide (r+1-(r+1)<7))=true
               ·rw[if_pos e9]
                exact wpS_pure ⟨hs3 _,.inr ⟨_,_,_,_,_,_,rfl,hK,by omega,by omega,by omega,by omega,by omega⟩⟩
               ·rw[if_neg e9]
                exact wpS_pure ⟨hs3 _,_,_,_,_,_,_,rfl,hK,by omega,by omega,by omega,by omega,by omega⟩
         ·rw[if_neg hk0]
          have ek:k=na2:=by omega
          subst ek
          obtain⟨p,rfl⟩:∃ p,k=p+1:=⟨k-1,by omega⟩
          have hp:p<a.size:=by omega
          have hle3:=hBl p hp (by omega)
          refine wpS_bind (aA hq ?_)
          have hJ:=stepB hp hq hI hle3
          try dsimp only
          by_cases e6:(q==1)=true
          ·rw[if_pos e6]
           exact wpS_pure ⟨hs3 _,.inl ⟨_,_,rfl,firstB hJ (by simpa using e6)⟩⟩
          ·rw[if_neg e6]
           have e6':q≠1:=by simpa using e6
           simp only[Nat.add_sub_cancel]
           refine wpS_bind (aA hp ?_)
           refine wpS_bind (bD L (by exact hs.kind.trans hk) (gA _ hp) gb (by omega) (by omega) (λi=>if hi : 0+i<b.size then bey O kf true a[p] b[0+i] else false) (λi hi _=>by rw[dif_pos hi]) ?_ ?_)
           ·intro i j hij hj hB
            have hj' : 0+j<b.size:=by omega
            have hi' : 0+i<b.size:=by omega
            rw[dif_pos hj'] at hB
            rw[dif_pos hi']
            unfold bey at hB ⊢
            rw[if_pos rfl] at hB ⊢
            exact KeyOrd.klt_of_kle_of_klt (sgB _ _ hi' hj' (by omega)) hB
           ·intro k2 hkn2 hk12 hk22
            try dsimp only
            have hB2:∀ i (hi:i<b.size),k2<=i->i<q->leK O kf a[p] b[i]:=by
             intro i hi hki hiq
             have hB:=hk22 i hki hiq
             rw[dif_pos (by omega : 0+i<b.size)] at hB
             unfold bey at hB
             rw[if_pos rfl] at hB
             simp only[Nat.zero_add] at hB
             exact hB
            have hA2:∀ i (hi:i<b.size),i<k2->leK O kf b[i] a[p]:=by
             intro i hi hik
             have hB:=hk12 i hik
             rw[dif_pos (by omega : 0+i<b.size)] at hB
             unfold bey at hB
             rw[if_pos rfl] at hB
             simp only[Nat.zero_add] at hB
             exact KeyOrd.kle_of_klt hB
            rcases Decidable.em (q-k2 > 0) with hk3 |hk3
            ·rw[if_pos hk3]
             have hJ2:=manyB hp hJ (by omega) (by omega) hB2
             by_cases e7:(k2==1)=true
             ·rw[if_pos e7]
              exact wpS_pure ⟨hs3 _,.inl ⟨_,_,rfl,firstB hJ2 (by simpa using e7)⟩⟩
             ·rw[if_neg e7]
              have e7':k2≠1:=by simpa using e7
              by_cases e7b:(k2==0)=true
              ·rw[if_pos e7b]
               exact wpS_pure ⟨hs3 _,.inl ⟨_,_,rfl,doneB hJ2 (by simpa using e7b)⟩⟩
              ·rw[if_neg e7b]
               have e7b':k2≠0:=by simpa using e7b
               obtain⟨r,rfl⟩:∃ r,k2=r+1:=⟨k2-1,by omega⟩
               try simp only[Nat.add_sub_cancel]
               refine wpS_bind (aA hp ?_)
               have hK:=stepA hp (by omega) hJ2 (hA2 _ (by omega) (by omega))
               try dsimp only
               by_cases e8:(p==0)=true
               ·rw[if_pos e8]
                exact wpS_pure ⟨hs3 _,.inl ⟨_,_,rfl,doneA hK (by simpa using e8)⟩⟩
               ·rw[if_neg e8]
                have e8':p≠0:=by simpa using e8
                by_cases e9:(decide (p+1-(p+1)<7)&&decide (q-(r+1)<7))=true
                ·rw[if_pos e9]
                 exact wpS_pure ⟨hs3 _,.inr ⟨_,_,_,_,_,_,rfl,hK,by omega,by omega,by omega,by omega,by omega⟩⟩
                ·rw[if_neg e9]
                 exact wpS_pure ⟨hs3 _,_,_,_,_,_,_,rfl,hK,by omega,by omega,by omega,by omega,by omega⟩
            ·rw[if_neg hk3]
             have ek2:k2=q:=by omega
             subst ek2
             obtain⟨r,rfl⟩:∃ r,k2=r+1:=⟨k2-1,by omega⟩
             try simp only[Nat.add_sub_cancel]
             refine wpS_bind (aA hp ?_)
             have hK:=stepA hp (by omega) hJ (hA2 _ (by omega) (by omega))
             try dsimp only
             by_cases e8:(p==0)=true
             ·rw[if_pos e8]
              exact wpS_pure ⟨hs3 _,.inl ⟨_,_,rfl,doneA hK (by simpa using e8)⟩⟩
             ·rw[if_neg e8]
              have e8':p≠0:=by simpa using e8
              by_cases e9:(decide (p+1-(p+1)<7)&&decide (r+1-(r+1)<7))=true
              ·rw[if_pos e9]
               exact wpS_pure ⟨hs3 _,.inr ⟨_,_,_,_,_,_,rfl,hK,by omega,by omega,by omega,by omega,by omega⟩⟩
              ·rw[if_neg e9]
               exact wpS_pure ⟨hs3 _,_,_,_,_,_,_,rfl,hK,by omega,by omega,by omega,by omega,by omega⟩
end
abbrev uM:Nat->Nat->StateT SortSt Sem (Option Nat):=sortPriv% PySem.Builtin.countRun
abbrev qf:Nat->Nat->Nat->StateT SortSt Sem Bool:=sortPriv% PySem.Builtin.binarySort
section
variable {prog:Program}{w:World}{A:Around}{E:Value->Shared->Prop}{s:Shared}{kd:SortKind}{O:KeyOrd}{kf:Value->O.α}{G:Keyed->Prop}
def KX (kf:Value->O.α)(xs:Array Keyed)(i:Nat):O.α:=match xs[i]? with
 |some p=>kf p.1
 |none=>kf .none
theorem lG {xs ys:Array Keyed}{i j:Nat}(h:xs[i]?=ys[j]?):KX kf xs i=KX kf ys j:=by unfold KX;rw[h]
theorem lH {xs:Array Keyed}{i:Nat}(h:i<xs.size):KX kf xs i=kf xs[i].1:=by unfold KX;rw[getElem?_pos xs i h]
structure Sg (G:Keyed->Prop) (kd:SortKind) (lo:Nat) (st st':SortSt):Prop where
 kind:kindOf st'=kd
 good:∀ x∈(arrOf st').toList,G x
 perm:(arrOf st').Perm (arrOf st)
 pend:pendingOf st'=pendingOf st
 fail:failedOf st'=failedOf st
 same:∀ k,k<lo->(arrOf st')[k]?=(arrOf st)[k]?
theorem Sg.size {lo:Nat}{st st':SortSt}(h:Sg G kd lo st st'):(arrOf st').size=(arrOf st).size:=h.perm.size_eq
theorem Sg.set {lo:Nat}{st st':SortSt}(h:Sg G kd lo st st'){ys:Array Keyed}(hp:ys.Perm (arrOf st'))(hs:∀ k,k<lo->ys[k]?=(arrOf st')[k]?):Sg G kd lo st (setArr st' ys):=
 ⟨h.kind,λx hx=>h.good x ((Array.perm_iff_toList_perm.mp hp).mem_iff.mp hx),hp.trans h.perm,h.pend,h.fail,λk hk=>(hs k hk).trans (h.same k hk)⟩
theorem bo (L:j2 prog w A E s kd O kf G){lo:Nat}{st0 st:SortSt}(hS:Sg G kd lo st0 st){i j:Nat}(hi:i<(arrOf st0).size)(hj:j<(arrOf st0).size){Q:Option Bool->SortSt->Prop}
  (q:Q (some (O.blt (KX kf (arrOf st) i) (KX kf (arrOf st) j))) st):wpS (model prog w) A E s (ltAt' i j) Q st:=by
 have hi':i<(arrOf st).size:=by rw[hS.size];exact hi
 have hj':j<(arrOf st).size:=by rw[hS.size];exact hj
 rw[lH hi',lH hj'] at q
 rw[ltAt'_eq]
 refine wpS_bind (wpS_get (wpS_bind (aA hi' (wpS_bind (aA hj' ?_)))))
 exact L _ _ (hS.good _ (Array.getElem_mem_toList hi')) (hS.good _ (Array.getElem_mem_toList hj')) st _ hS.kind q
theorem c9 {i j:Nat}{st:SortSt}{Q:Unit->SortSt->Prop}(q:Q () (setArr st (mirror (arrOf st) i j ((j-i) / 2)))):wpS (model prog w) A E s (reverseSlice' i j) Q st:=by
 rw[reverseSlice'_eq];exact wpS_modify q
theorem wR {i j:Nat}{st:SortSt}{Q:Unit->SortSt->Prop}(q:Q () (setArr st (bubble (arrOf st) i (i-j)))):wpS (model prog w) A E s (moveDown' i j) Q st:=by
 rw[moveDown'_eq];exact wpS_modify q
def Asc (kf:Value->O.α)(xs:Array Keyed)(lo hi:Nat):Prop:=∀ i j,lo<=i->i<=j->j<hi->O.kle (KX kf xs i) (KX kf xs j)
def Desc (kf:Value->O.α)(xs:Array Keyed)(lo hi:Nat):Prop:=∀ i j,lo<=i->i<=j->j<hi->O.kle (KX kf xs j) (KX kf xs i)
theorem fy {xs:Array Keyed}{i j:Nat}(hj:j<=xs.size)(k:Nat):KX kf (mirror xs i j ((j-i) / 2)) k=if i<=k/\k<j then KX kf xs (i+j-1-k) else KX kf xs k:=by
 have e:=getElem?_mirror_all (xs:=xs) (i:=i) hj k
 split
 ·rename_i h1;rw[if_pos h1] at e;exact lG e
 ·rename_i h1;rw[if_neg h1] at e;exact lG e
theorem cj {xs:Array Keyed}{i j lo:Nat}(hj:j<=xs.size)(hl:lo<=i){k:Nat}(hk:k<lo):(mirror xs i j ((j-i) / 2))[k]?=xs[k]?:=by
 rw[getElem?_mirror_all (xs:=xs) (i:=i) hj k,if_neg (by omega)]
theorem eS {xs:Array Keyed}{i j:Nat}(hj:j<=xs.size)(heq:∀ a b,i<=a->a<j->i<=b->b<j->KX kf xs a=KX kf xs b)(k:Nat):KX kf (mirror xs i j ((j-i) / 2)) k=KX kf xs k:=by
 rw[fy hj]
 split
 ·rename_i h1;exact heq _ _ (by omega) (by omega) h1.1 h1.2
 ·rfl
theorem Asc.snoc {xs:Array Keyed}{lo n:Nat}(h:Asc kf xs lo (lo+n))(h0 : 0<n)(hn:O.blt (KX kf xs (lo+n)) (KX kf xs (lo+n-1))=false):Asc kf xs lo (lo+(n+1)):=by
 intro i j h1 h2 h3
 by_cases hj:j=lo+n
 ·subst hj
  by_cases hi:i=lo+n
  ·subst hi;exact KeyOrd.kle_refl _
  ·exact KeyOrd.kle_trans (h i (lo+n-1) h1 (by omega) (by omega)) hn
 ·exact h i j h1 h2 (by omega)
theorem Desc.snoc {xs:Array Keyed}{lo n:Nat}(h:Desc kf xs lo (lo+n))(h0 : 0<n)(hn:O.kle (KX kf xs (lo+n)) (KX kf xs (lo+n-1))):Desc kf xs lo (lo+(n+1)):=by
 intro i j h1 h2 h3
 by_cases hj:j=lo+n
 ·subst hj
  by_cases hi:i=lo+n
  ·subst hi;exact KeyOrd.kle_refl _
  ·exact KeyOrd.kle_trans hn (h i (lo+n-1) h1 (by omega) (by omega))
 ·exact h i j h1 h2 (by omega)
theorem lS (L:j2 prog w A E s kd O kf G){lo nrem:Nat}{st:SortSt}{Q:Option Nat->SortSt->Prop}(hk:kindOf st=kd)(hg:∀ x∈(arrOf st).toList,G x)(hn:lo+nrem<=(arrOf st).size)(h1 : 1<=nrem)
  (h:∀ n st',Sg G kd lo st st'->1<=n->n<=nrem->Asc kf (arrOf st') lo (lo+n)->Q (some n) st'):wpS (model prog w) A E s (uM lo nrem) Q st:=by
 have hS0:Sg G kd lo st st:=⟨hk,hg,Array.Perm.refl _,rfl,rfl,λ_ _=>rfl⟩
 refine wpS_bind (wpS_mono (wpS_forRange (I:=λx c st'=>st'=st/\c=(none,x)/\Asc kf (arrOf st) lo (lo+x))
  (Q:=λc st'=>st'=st/\∃ n,c=(none,n)/\1<=n/\n<=nrem/\Asc kf (arrOf st) lo (lo+n)/\(n<nrem->O.blt (KX kf (arrOf st) (lo+n)) (KX kf (arrOf st) (lo+n-1))=true)) ?s1 ?f1 ⟨rfl,rfl,λi j a b c=>by
   have:i=j:=by omega
   subst this;exact KeyOrd.kle_refl _⟩) ?p1)
 case s1 =>
  rintro x c st' hx1 hx2 ⟨rfl,rfl,ha⟩
  try dsimp only
  refine wpS_bind (bo L hS0 (by omega) (by omega) ?_)
  cases hb:O.blt (KX kf (arrOf st') (lo+x)) (KX kf (arrOf st') (lo+x-1)) with
  |true=>exact wpS_pure ⟨rfl,x,rfl,hx1,by omega,ha,λ_=>hb⟩
  |false=>exact wpS_pure ⟨rfl,rfl,ha.snoc hx1 hb⟩
 case f1 =>
  rintro c st' ⟨rfl,rfl,ha⟩
  exact⟨rfl,_,rfl,by omega,by omega,ha,λhlt=>by omega⟩
 case p1 =>
  rintro c st' ⟨rfl,n,rfl,hn1,hn2,ha,hb⟩
  try dsimp only
  by_cases e1:(n==nrem)=true
  ·rw[if_pos e1]
   exact wpS_pure (h n st' hS0 hn1 hn2 ha)
  ·rw[if_neg e1]
   have e1':n≠nrem:=by simpa using e1
   have hb:=hb (by omega)
   have hD1:∀ st2:SortSt,(∀ k,KX kf (arrOf st2) k=KX kf (arrOf st') k)->(∀ a b,lo<=a->a<lo+n->lo<=b->b<lo+n->KX kf (arrOf st') a=KX kf (arrOf st') b)->Desc kf (arrOf st2) lo (lo+(n+1)):=by
    intro st2 eK eq
    refine Desc.snoc (λi j a1 a2 a3=>?_) hn1 ?_
    ·rw[eK,eK,eq i j a1 (by omega) (by omega) a3];exact KeyOrd.kle_refl _
    ·rw[eK,eK];exact KeyOrd.kle_of_klt hb
   by_cases e2:n > 1
   ·rw[if_pos e2]
    refine wpS_bind (bo L hS0 (by omega) (by omega) ?_)
    cases hr:O.blt (KX kf (arrOf st') lo) (KX kf (arrOf st') (lo+n-1)) with
    |true=>exact wpS_pure (h n st' hS0 hn1 hn2 ha)
    |false =>
     try dsimp only
     rw[if_neg (by decide)]
     have eq:∀ a b,lo<=a->a<lo+n->lo<=b->b<lo+n->KX kf (arrOf st') a=KX kf (arrOf st') b:=by
      have one:∀ c,lo<=c->c<lo+n->KX kf (arrOf st') c=KX kf (arrOf st') lo:=by
       intro c c1 c2
       refine KeyOrd.kle_antisymm ?_ (ha lo c (Nat.le_refl _) c1 c2)
       exact KeyOrd.kle_trans (ha c (lo+n-1) c1 (by omega) (by omega)) hr
      intro a b a1 a2 b1 b2
      rw[one a a1 a2,one b b1 b2]
     have hsz:lo+n<=(arrOf st').size:=by omega
     refine wpS_bind (c9 ?_)
     have HS2:=hS0.set (mirror_perm (arrOf st') lo (lo+n) ((lo+n-lo) / 2)) (λk hk'=>cj hsz (Nat.le_refl lo) hk')
     have HD2:=hD1 (setArr st' (mirror (arrOf st') lo (lo+n) ((lo+n-lo) / 2))) (λk=>eS hsz eq k) eq
     generalize setArr st' (mirror (arrOf st') lo (lo+n) ((lo+n-lo) / 2))=st2 at HS2 HD2 ⊢
     refine wpS_bind (wpS_lift (wpAny_rule ⟨rfl,?_⟩))
     refine wpS_bind (wpS_mono (wpS_forRange (I:=λx c st'' => ∃ q,c=(none,x,q)/\q+1<=x/\Sg G kd lo st' st''/\Desc kf (arrOf st'') lo (lo+x)/\∀ a b,lo+x-(q+1)<=a->a<lo+x->lo+x-(q+1)<=b->b<lo+x->KX kf (arrOf st'') a=KX kf (arrOf st'') b)
      (Q:=λc st'' => ∃ m q,c=(none,m,q)/\q+1<=m/\n+1<=m/\m<=nrem/\Sg G kd lo st' st''/\Desc kf (arrOf st'') lo (lo+m)/\∀ a b,lo+m-(q+1)<=a->a<lo+m->lo+m-(q+1)<=b->b<lo+m->KX kf (arrOf st'') a=KX kf (arrOf st'') b) ?_ ?_ ⟨0,rfl,by omega,HS2,HD2,λa b a1 a2 a3 a4=>by
       have:a=b:=by omega
       subst this;rfl⟩) ?_)
     ·rintro x c st'' hx1 hx2 ⟨q,rfl,hq,hS,hD,hE⟩
      try dsimp only
      refine wpS_bind (bo L hS (by omega) (by omega) ?_)
      cases hb2:O.blt (KX kf (arrOf st'') (lo+x)) (KX kf (arrOf st'') (lo+x-1)) with
      |true =>
       try dsimp only
       rw[if_pos rfl]
       by_cases hq0:q > 0
       ·rw[if_pos hq0]
        refine wpS_bind (c9 (wpS_pure ?_))
        have hsz:lo+x<=(arrOf st'').size:=by rw[hS.size];omega
        refine⟨0,rfl,by omega,hS.set (mirror_perm _ _ _ _) (λk hk'=>cj hsz (by omega) hk'),?_,λa b a1 a2 a3 a4=>by
         have:a=b:=by omega
         subst this;rfl⟩
        have eK:∀ k,KX kf (arrOf (setArr st'' (mirror (arrOf st'') (lo+x-(q+1)) (lo+x) ((lo+x-(lo+x-(q+1))) / 2)))) k=KX kf (arrOf st'') k:=λk=>eS hsz hE k
        refine Desc.snoc (λi j a1 a2 a3=>?_) (by omega) ?_
        ·rw[eK,eK];exact hD i j a1 a2 a3
        ·rw[eK,eK];exact KeyOrd.kle_of_klt hb2
       ·rw[if_neg hq0]
        exact wpS_pure ⟨0,rfl,by omega,hS,hD.snoc (by omega) (KeyOrd.kle_of_klt hb2),λa b a1 a2 a3 a4=>by
         have:a=b:=by omega
         subst this;rfl⟩
      |false =>
       try dsimp only
       rw[if_neg (by decide)]
       refine wpS_bind (bo L hS (by omega) (by omega) ?_)
       cases hb3:O.blt (KX kf (arrOf st'') (lo+x-1)) (KX kf (arrOf st'') (lo+x)) with
       |true=>exact wpS_pure ⟨x,q,rfl,hq,by omega,by omega,hS,hD,hE⟩
       |false =>
        have eq1:KX kf (arrOf st'') (lo+x)=KX kf (arrOf st'') (lo+x-1):=O.total _ _ hb2 hb3
        refine wpS_pure ⟨q+1,rfl,by omega,hS,hD.snoc (by omega) hb3,λa b a1 a2 a3 a4=>?_⟩
        have all:∀ c,lo+(x+1)-(q+1+1)<=c->c<lo+(x+1)->KX kf (arrOf st'') c=KX kf (arrOf st'') (lo+x-1):=by
         intro c c1 c2
         by_cases hc:c=lo+x
         ·rw[hc];exact eq1
         ·exact hE c (lo+x-1) (by omega) (by omega) (by omega) (by omega)
        rw[all a a1 a2,all b a3 a4]
     ·rintro c st'' ⟨q,rfl,hq,hS,hD,hE⟩
      rw[show max (n+1) nrem=nrem by omega] at hq hD hE ⊢
      exact⟨nrem,q,rfl,hq,by omega,Nat.le_refl _,hS,hD,hE⟩
     ·rintro c st4 ⟨m,q,rfl,hq,hm1,hm2,hS4,hD4,hE4⟩
      try dsimp only
      have hsz4:lo+m<=(arrOf st4).size:=by rw[hS4.size];omega
      by_cases hq0:q > 0
      ·rw[if_pos hq0]
       refine wpS_bind (c9 ?_)
       have hS4':=hS4.set (mirror_perm _ (lo+m-(q+1)) (lo+m) _) (λk hk'=>cj hsz4 (by omega) hk')
       have hD4':Desc kf (arrOf (setArr st4 (mirror (arrOf st4) (lo+m-(q+1)) (lo+m) ((lo+m-(lo+m-(q+1))) / 2)))) lo (lo+m):=by
        have eK:∀ k,KX kf (arrOf (setArr st4 (mirror (arrOf st4) (lo+m-(q+1)) (lo+m) ((lo+m-(lo+m-(q+1))) / 2)))) k=KX kf (arrOf st4) k:=λk=>eS hsz4 hE4 k
        intro i j a1 a2 a3
        rw[eK,eK];exact hD4 i j a1 a2 a3
       generalize setArr st4 (mirror (arrOf st4) (lo+m-(q+1)) (lo+m) ((lo+m-(lo+m-(q+1))) / 2))=st4' at hS4' hD4' ⊢
       refine wpS_bind (c9 ?_)
       have hS5:=hS4'.set (mirror_perm _ lo (lo+m) _) (λk hk'=>cj (by rw[hS4'.size];omega) (Nat.le_refl lo) hk')
       have ha5:Asc kf (arrOf (setArr st4' (mirror (arrOf st4') lo (lo+m) ((lo+m-lo) / 2)))) lo (lo+m):=by
        intro i j a1 a2 a3
        show O.kle (KX kf (mirror (arrOf st4') lo (lo+m) ((lo+m-lo) / 2)) i) (KX kf (mirror (arrOf st4') lo (lo+m) ((lo+m-lo) / 2)) j)
        rw[fy (by rw[hS4'.size];omega),fy (by rw[hS4'.size];omega),if_pos ⟨by omega,by omega⟩,if_pos ⟨by omega,by omega⟩]
        exact hD4' _ _ (by omega) (by omega) (by omega)
       generalize setArr st4' (mirror (arrOf st4') lo (lo+m) ((lo+m-lo) / 2))=st5 at hS5 ha5 ⊢
       refine wpS_bind (wpS_mono (wpS_forRange (I:=λx c st''=>st''=st5/\c=(none,x)/\Asc kf (arrOf st5) lo (lo+x))
        (Q:=λc st''=>st''=st5/\∃ n,c=(none,n)/\1<=n/\n<=nrem/\Asc kf (arrOf st5) lo (lo+n)) ?_ ?_ ⟨rfl,rfl,ha5⟩) ?_)
       ·rintro x c st'' hx1 hx2 ⟨rfl,rfl,ha⟩
        try dsimp only
        refine wpS_bind (bo L hS5 (by omega) (by omega) ?_)
        cases hb2:O.blt (KX kf (arrOf st'') (lo+x)) (KX kf (arrOf st'') (lo+x-1)) with
        |true=>exact wpS_pure ⟨rfl,x,rfl,by omega,by omega,ha⟩
        |false=>exact wpS_pure ⟨rfl,rfl,ha.snoc (by omega) hb2⟩
       ·rintro c st'' ⟨rfl,rfl,ha⟩
        refine⟨rfl,_,rfl,by omega,by omega,ha⟩
       ·rintro c st'' ⟨rfl,n',rfl,hn1',hn2',ha'⟩
        exact wpS_pure (h n' st'' hS5 hn1' hn2' ha')
      ·rw[if_neg hq0]
       refine wpS_bind (c9 ?_)
       have hS5:=hS4.set (mirror_perm _ lo (lo+m) _) (λk hk'=>cj (by rw[hS4.size];omega) (Nat.le_refl lo) hk')
       have ha5:Asc kf (arrOf (setArr st4 (mirror (arrOf st4) lo (lo+m) ((lo+m-lo) / 2)))) lo (lo+m):=by
        intro i j a1 a2 a3
        show O.kle (KX kf (mirror (arrOf st4) lo (lo+m) ((lo+m-lo) / 2)) i) (KX kf (mirror (arrOf st4) lo (lo+m) ((lo+m-lo) / 2)) j)
        rw[fy (by rw[hS4.size];omega),fy (by rw[hS4.size];omega),if_pos ⟨by omega,by omega⟩,if_pos ⟨by omega,by omega⟩]
        exact hD4 _ _ (by omega) (by omega) (by omega)
       generalize setArr st4 (mirror (arrOf st4) lo (lo+m) ((lo+m-lo) / 2))=st5 at hS5 ha5 ⊢
       refine wpS_bind (wpS_mono (wpS_forRange (I:=λx c st''=>st''=st5/\c=(none,x)/\Asc kf (arrOf st5) lo (lo+x))
        (Q:=λc st''=>st''=st5/\∃ n,c=(none,n)/\1<=n/\n<=nrem/\Asc kf (arrOf st5) lo (lo+n)) ?_ ?_ ⟨rfl,rfl,ha5⟩) ?_)
       ·rintro x c st'' hx1 hx2 ⟨rfl,rfl,ha⟩
        try dsimp only
        refine wpS_bind (bo L hS5 (by omega) (by omega) ?_)
        cases hb2:O.blt (KX kf (arrOf st'') (lo+x)) (KX kf (arrOf st'') (lo+x-1)) with
        |true=>exact wpS_pure ⟨rfl,x,rfl,by omega,by omega,ha⟩
        |false=>exact wpS_pure ⟨rfl,rfl,ha.snoc (by omega) hb2⟩
       ·rintro c st'' ⟨rfl,rfl,ha⟩
        refine⟨rfl,_,rfl,by omega,by omega,ha⟩
       ·rintro c st'' ⟨rfl,n',rfl,hn1',hn2',ha'⟩
        exact wpS_pure (h n' st'' hS5 hn1' hn2' ha')
   ·rw[if_neg e2]
    have en:n=1:=by omega
    have HS2:=hS0
    have HD2:=hD1 st' (λ_=>rfl) λa b a1 a2 a3 a4=>by
     have:a=b:=by omega
     subst this;rfl
    refine wpS_bind (wpS_lift (wpAny_rule ⟨rfl,?_⟩))
    refine wpS_bind (wpS_mono (wpS_forRange (I:=λx c st'' => ∃ q,c=(none,x,q)/\q+1<=x/\Sg G kd lo st' st''/\Desc kf (arrOf st'') lo (lo+x)/\∀ a b,lo+x-(q+1)<=a->a<lo+x->lo+x-(q+1)<=b->b<lo+x->KX kf (arrOf st'') a=KX kf (arrOf st'') b)
     (Q:=λc st'' => ∃ m q,c=(none,m,q)/\q+1<=m/\n+1<=m/\m<=nrem/\Sg G kd lo st' st''/\Desc kf (arrOf st'') lo (lo+m)/\∀ a b,lo+m-(q+1)<=a->a<lo+m->lo+m-(q+1)<=b->b<lo+m->KX kf (arrOf st'') a=KX kf (arrOf st'') b) ?_ ?_ ⟨0,rfl,by omega,HS2,HD2,λa b a1 a2 a3 a4=>by
      have:a=b:=by omega
      subst this;rfl⟩) ?_)
    ·rintro x c st'' hx1 hx2 ⟨q,rfl,hq,hS,hD,hE⟩
     try dsimp only
     refine wpS_bind (bo L hS (by omega) (by omega) ?_)
     cases hb2:O.blt (KX kf (arrOf st'') (lo+x)) (KX kf (arrOf st'') (lo+x-1)) with
     |true =>
      try dsimp only
      rw[if_pos rfl]
      by_cases hq0:q > 0
      ·rw[if_pos hq0]
       refine wpS_bind (c9 (wpS_pure ?_))
       have hsz:lo+x<=(arrOf st'').size:=by rw[hS.size];omega
       refine⟨0,rfl,by omega,hS.set (mirror_perm _ _ _ _) (λk hk'=>cj hsz (by omega) hk'),?_,λa b a1 a2 a3 a4=>by
        have:a=b:=by omega
        subst this;rfl⟩
       have eK:∀ k,KX kf (arrOf (setArr st'' (mirror (arrOf st'') (lo+x-(q+1)) (lo+x) ((lo+x-(lo+x-(q+1))) / 2)))) k=KX kf (arrOf st'') k:=λk=>eS hsz hE k
       refine Desc.snoc (λi j a1 a2 a3=>?_) (by omega) ?_
       ·rw[eK,eK];exact hD i j a1 a2 a3
       ·rw[eK,eK];exact KeyOrd.kle_of_klt hb2
      ·rw[if_neg hq0]
       exact wpS_pure ⟨0,rfl,by omega,hS,hD.snoc (by omega) (KeyOrd.kle_of_klt hb2),λa b a1 a2 a3 a4=>by
        have:a=b:=by omega
        subst this;rfl⟩
     |false =>
      try dsimp only
      rw[if_neg (by decide)]
      refine wpS_bind (bo L hS (by omega) (by omega) ?_)
      cases hb3:O.blt (KX kf (arrOf st'') (lo+x-1)) (KX kf (arrOf st'') (lo+x)) with
      |true=>exact wpS_pure ⟨x,q,rfl,hq,by omega,by omega,hS,hD,hE⟩
      |false =>
       have eq1:KX kf (arrOf st'') (lo+x)=KX kf (arrOf st'') (lo+x-1):=O.total _ _ hb2 hb3
       refine wpS_pure ⟨q+1,rfl,by omega,hS,hD.snoc (by omega) hb3,λa b a1 a2 a3 a4=>?_⟩
       have all:∀ c,lo+(x+1)-(q+1+1)<=c->c<lo+(x+1)->KX kf (arrOf st'') c=KX kf (arrOf st'') (lo+x-1):=by
        intro c c1 c2
        by_cases hc:c=lo+x
        ·rw[hc];exact eq1
        ·exact hE c (lo+x-1) (by omega) (by omega) (by omega) (by omega)
       rw[all a a1 a2,all b a3 a4]
    ·rintro c st'' ⟨q,rfl,hq,hS,hD,hE⟩
     rw[show max (n+1) nrem=nrem by omega] at hq hD hE ⊢
     exact⟨nrem,q,rfl,hq,by omega,Nat.le_refl _,hS,hD,hE⟩
    ·rintro c st4 ⟨m,q,rfl,hq,hm1,hm2,hS4,hD4,hE4⟩
     try dsimp only
     have hsz4:lo+m<=(arrOf st4).size:=by rw[hS4.size];omega
     by_cases hq0:q > 0
     ·rw[if_pos hq0]
      refine wpS_bind (c9 ?_)
      have hS4':=hS4.set (mirror_perm _ (lo+m-(q+1)) (lo+m) _) (λk hk'=>cj hsz4 (by omega) hk')
      have hD4':Desc kf (arrOf (setArr st4 (mirror (arrOf st4) (lo+m-(q+1)) (lo+m) ((lo+m-(lo+m-(q+1))) / 2)))) lo (lo+m):=by
       have eK:∀ k,KX kf (arrOf (setArr st4 (mirror (arrOf st4) (lo+m-(q+1)) (lo+m) ((lo+m-(lo+m-(q+1))) / 2)))) k=KX kf (arrOf st4) k:=λk=>eS hsz4 hE4 k
       intro i j a1 a2 a3
       rw[eK,eK];exact hD4 i j a1 a2 a3
      generalize setArr st4 (mirror (arrOf st4) (lo+m-(q+1)) (lo+m) ((lo+m-(lo+m-(q+1))) / 2))=st4' at hS4' hD4' ⊢
      refine wpS_bind (c9 ?_)
      have hS5:=hS4'.set (mirror_perm _ lo (lo+m) _) (λk hk'=>cj (by rw[hS4'.size];omega) (Nat.le_refl lo) hk')
      have ha5:Asc kf (arrOf (setArr st4' (mirror (arrOf st4') lo (lo+m) ((lo+m-lo) / 2)))) lo (lo+m):=by
       intro i j a1 a2 a3
       show O.kle (KX kf (mirror (arrOf st4') lo (lo+m) ((lo+m-lo) / 2)) i) (KX kf (mirror (arrOf st4') lo (lo+m) ((lo+m-lo) / 2)) j)
       rw[fy (by rw[hS4'.size];omega),fy (by rw[hS4'.size];omega),if_pos ⟨by omega,by omega⟩,if_pos ⟨by omega,by omega⟩]
       exact hD4' _ _ (by omega) (by omega) (by omega)
      generalize setArr st4' (mirror (arrOf st4') lo (lo+m) ((lo+m-lo) / 2))=st5 at hS5 ha5 ⊢
      refine wpS_bind (wpS_mono (wpS_forRange (I:=λx c st''=>st''=st5/\c=(none,x)/\Asc kf (arrOf st5) lo (lo+x))
       (Q:=λc st''=>st''=st5/\∃ n,c=(none,n)/\1<=n/\n<=nrem/\Asc kf (arrOf st5) lo (lo+n)) ?_ ?_ ⟨rfl,rfl,ha5⟩) ?_)
      ·rintro x c st'' hx1 hx2 ⟨rfl,rfl,ha⟩
       try dsimp only
       refine wpS_bind (bo L hS5 (by omega) (by omega) ?_)
       cases hb2:O.blt (KX kf (arrOf st'') (lo+x)) (KX kf (arrOf st'') (lo+x-1)) with
       |true=>exact wpS_pure ⟨rfl,x,rfl,by omega,by omega,ha⟩
       |false=>exact wpS_pure ⟨rfl,rfl,ha.snoc (by omega) hb2⟩
      ·rintro c st'' ⟨rfl,rfl,ha⟩
       refine⟨rfl,_,rfl,by omega,by omega,ha⟩
      ·rintro c st'' ⟨rfl,n',rfl,hn1',hn2',ha'⟩
       exact wpS_pure (h n' st'' hS5 hn1' hn2' ha')
     ·rw[if_neg hq0]
      refine wpS_bind (c9 ?_)
      have hS5:=hS4.set (mirror_perm _ lo (lo+m) _) (λk hk'=>cj (by rw[hS4.size];omega) (Nat.le_refl lo) hk')
      have ha5:Asc kf (arrOf (setArr st4 (mirror (arrOf st4) lo (lo+m) ((lo+m-lo) / 2)))) lo (lo+m):=by
       intro i j a1 a2 a3
       show O.kle (KX kf (mirror (arrOf st4) lo (lo+m) ((lo+m-lo) / 2)) i) (KX kf (mirror (arrOf st4) lo (lo+m) ((lo+m-lo) / 2)) j)
       rw[fy (by rw[hS4.size];omega),fy (by rw[hS4.size];omega),if_pos ⟨by omega,by omega⟩,if_pos ⟨by omega,by omega⟩]
       exact hD4 _ _ (by omega) (by omega) (by omega)
      generalize setArr st4 (mirror (arrOf st4) lo (lo+m) ((lo+m-lo) / 2))=st5 at hS5 ha5 ⊢
      refine wpS_bind (wpS_mono (wpS_forRange (I:=λx c st''=>st''=st5/\c=(none,x)/\Asc kf (arrOf st5) lo (lo+x))
       (Q:=λc st''=>st''=st5/\∃ n,c=(none,n)/\1<=n/\n<=nrem/\Asc kf (arrOf st5) lo (lo+n)) ?_ ?_ ⟨rfl,rfl,ha5⟩) ?_)
      ·rintro x c st'' hx1 hx2 ⟨rfl,rfl,ha⟩
       try dsimp only
       refine wpS_bind (bo L hS5 (by omega) (by omega) ?_)
       cases hb2:O.blt (KX kf (arrOf st'') (lo+x)) (KX kf (arrOf st'') (lo+x-1)) with
       |true=>exact wpS_pure ⟨rfl,x,rfl,by omega,by omega,ha⟩
       |false=>exact wpS_pure ⟨rfl,rfl,ha.snoc (by omega) hb2⟩
      ·rintro c st'' ⟨rfl,rfl,ha⟩
       refine⟨rfl,_,rfl,by omega,by omega,ha⟩
      ·rintro c st'' ⟨rfl,n',rfl,hn1',hn2',ha'⟩
       exact wpS_pure (h n' st'' hS5 hn1' hn2' ha')
end
section
variable {prog:Program}{w:World}{A:Around}{E:Value->Shared->Prop}{s:Shared}{kd:SortKind}{O:KeyOrd}{kf:Value->O.α}{G:Keyed->Prop}
theorem wK {xs:Array Keyed}{src d:Nat}(hs:src<xs.size)(hd:d<=src)(k:Nat):KX kf (bubble xs src d) k=if k=src-d then KX kf xs src else if src-d<k/\k<=src then KX kf xs (k-1) else KX kf xs k:=by
 have e:=getElem?_bubble hs d hd k
 split
 ·rename_i h1;rw[if_pos h1] at e;exact lG e
 ·rename_i h1
  rw[if_neg h1] at e
  split
  ·rename_i h2;rw[if_pos h2] at e;exact lG e
  ·rename_i h2;rw[if_neg h2] at e;exact lG e
theorem oJ (L:j2 prog w A E s kd O kf G){lo n ok:Nat}{st0 st:SortSt}{Q:Bool->SortSt->Prop}(hS:Sg G kd lo st0 st)(hn:lo+n<=(arrOf st0).size)(hok:ok<=n)(ha:Asc kf (arrOf st) lo (lo+ok))
  (h:∀ st',Sg G kd lo st0 st'->Asc kf (arrOf st') lo (lo+n)->Q true st'):wpS (model prog w) A E s (qf lo n ok) Q st:=by
 refine wpS_bind (wpS_mono (wpS_forRange (I:=λk c st'=>c=(none,())/\Sg G kd lo st0 st'/\Asc kf (arrOf st') lo (lo+min k n)) (Q:=λc st'=>c=(none,())/\Sg G kd lo st0 st'/\Asc kf (arrOf st') lo (lo+n)) ?s1 ?f1 ⟨rfl,hS,λi j a1 a2 a3=>?i1⟩) ?p1)
 case i1 =>
  by_cases e:j<lo+ok
  ·exact ha i j a1 a2 e
  ·have:i=j:=by omega
   subst this;exact KeyOrd.kle_refl _
 case f1 =>
  rintro c st' ⟨hc,hS',ha'⟩
  refine⟨hc,hS',?_⟩
  rwa [show min (max (max ok 1) n) n=n by omega] at ha'
 case p1 =>
  rintro c st' ⟨rfl,hS',ha'⟩
  exact wpS_pure (h st' hS' ha')
 case s1 =>
  rintro k c st' hk1 hk2 ⟨rfl,hS',ha'⟩
  rw[show min k n=k by omega] at ha'
  try dsimp only
  refine wpS_bind (wpS_mono (wpS_forRange (I:=λx c st''=>st''=st'/\∃ l r,c=(none,l,r)/\l<=r/\r<=k/\r-l<=k-x/\(∀ i,i<l->O.kle (KX kf (arrOf st') (lo+i)) (KX kf (arrOf st') (lo+k)))/\∀ i,r<=i->i<k->O.klt (KX kf (arrOf st') (lo+k)) (KX kf (arrOf st') (lo+i)))
   (Q:=λc st''=>st''=st'/\∃ l r,c=(none,l,r)/\l<=k/\(∀ i,i<l->O.kle (KX kf (arrOf st') (lo+i)) (KX kf (arrOf st') (lo+k)))/\∀ i,l<=i->i<k->O.klt (KX kf (arrOf st') (lo+k)) (KX kf (arrOf st') (lo+i))) ?s2 ?f2 ⟨rfl,0,k,rfl,by omega,by omega,by omega,λi hi=>by omega,λi a b=>by omega⟩) ?p2)
  case f2 =>
   rintro c st'' ⟨rfl,l,r,rfl,a1,a2,a3,a4,a5⟩
   exact⟨rfl,l,r,rfl,by omega,a4,λi b1 b2=>a5 i (by omega) b2⟩
  case s2 =>
   rintro x c st'' _ hx ⟨rfl,l,r,rfl,a1,a2,a3,a4,a5⟩
   try dsimp only
   by_cases e:l≥r
   ·rw[if_pos e]
    exact wpS_pure ⟨rfl,l,r,rfl,by omega,a4,λi b1 b2=>a5 i (by omega) b2⟩
   ·rw[if_neg e]
    refine wpS_bind (bo L hS' (by omega) (by omega) ?_)
    cases hb:O.blt (KX kf (arrOf st'') (lo+k)) (KX kf (arrOf st'') (lo+(l+r) / 2)) with
    |true=>exact wpS_pure ⟨rfl,l,(l+r) / 2,rfl,by omega,by omega,by omega,a4,λi b1 b2=>KeyOrd.klt_of_klt_of_kle hb (ha' _ _ (by omega) (by omega) (by omega))⟩
    |false=>exact wpS_pure ⟨rfl,(l+r) / 2+1,r,rfl,by omega,by omega,by omega,λi b1=>KeyOrd.kle_trans (ha' _ _ (by omega) (by omega) (by omega)) (show O.kle _ _ from hb),a5⟩
  case p2 =>
   rintro c st'' ⟨rfl,l,r,rfl,a1,a4,a5⟩
   try dsimp only
   have hsz:lo+k<(arrOf st'').size:=by rw[hS'.size];omega
   refine wpS_bind (wR (wpS_pure ⟨rfl,hS'.set (bubble_perm _ _ _) (λq hq=>?_),?_⟩))
   ·rw[getElem?_bubble hsz _ (by omega),if_neg (by omega),if_neg (by omega)]
   ·rw[show min (k+1) n=k+1 by omega]
    intro i j b1 b2 b3
    show O.kle (KX kf (bubble (arrOf st'') (lo+k) (lo+k-(lo+l))) i) (KX kf (bubble (arrOf st'') (lo+k) (lo+k-(lo+l))) j)
    rw[wK hsz (by omega),wK hsz (by omega),show lo+k-(lo+k-(lo+l))=lo+l by omega]
    have up:∀ q,lo<=q->q<lo+l->O.kle (KX kf (arrOf st'') q) (KX kf (arrOf st'') (lo+k)):=λq h1 h2=>by
     have:=a4 (q-lo) (by omega);rwa [show lo+(q-lo)=q by omega] at this
    have dn:∀ q,lo+l<=q->q<lo+k->O.klt (KX kf (arrOf st'') (lo+k)) (KX kf (arrOf st'') q):=λq h1 h2=>by
     have:=a5 (q-lo) (by omega) (by omega);rwa [show lo+(q-lo)=q by omega] at this
    repeat' split
    all_goals first
     |(exfalso;omega)
     |exact KeyOrd.kle_refl _
     |exact up _ (by omega) (by omega)
     |exact KeyOrd.kle_of_klt (dn _ (by omega) (by omega))
     |exact ha' _ _ (by omega) (by omega) (by omega)
theorem writes:∀ (m:List Keyed) (xs:Array Keyed) (b o:Nat),b+o+m.length<=xs.size->((m.zipIdx o).foldl (λa (pj:Keyed×Nat)=>a.setIfInBounds (b+pj.2) pj.1) xs).toList=xs.toList.take (b+o)++(m++xs.toList.drop (b+o+m.length))
 |[],xs,b,o,h=>by simp
 |p::m,xs,b,o,h=>by
  rw[List.length_cons] at h
  have ih:=writes m (xs.setIfInBounds (b+o) p) b (o+1) (by rw[Array.size_setIfInBounds];omega)
  rw[List.zipIdx_cons,List.foldl_cons]
  show ((m.zipIdx (o+1)).foldl _ (xs.setIfInBounds (b+o) p)).toList=_
  rw[ih,Array.toList_setIfInBounds,← Nat.add_assoc,List.length_cons]
  have e1:(xs.toList.set (b+o) p).take (b+o+1)=xs.toList.take (b+o)++[p]:=by
   rw[List.take_succ,List.take_set_of_le (Nat.le_refl _),List.getElem?_set_self (by simpa using (by omega:b+o<xs.size))]
   rfl
  have e2:(xs.toList.set (b+o) p).drop (b+o+1+m.length)=xs.toList.drop (b+o+(m.length+1)):=by
   rw[List.drop_set_of_lt (by omega)]
   congr 1
   omega
  rw[e1,e2]
  simp
end
section
variable {prog:Program}{w:World}{A:Around}{E:Value->Shared->Prop}{s:Shared}{kd:SortKind}{O:KeyOrd}{kf:Value->O.α}{G:Keyed->Prop}
theorem wQ {st st':SortSt}{Q:PUnit->SortSt->Prop}(q:Q ⟨⟩ st'):wpS (model prog w) A E s (set st':StateT SortSt Sem PUnit) Q st:=by
 unfold wpS;rw[StateT.run_set];exact wpAny_pure ⟨rfl,q⟩
theorem n0 {xs:Array Keyed}{P X R:List Keyed}(e:xs.toList=P++(X++R)){i:Nat}(hi:i<X.length)(h:P.length+i<xs.size):xs[P.length+i]=X[i]:=by
 have h2:xs[P.length+i]=xs.toList[P.length+i]'(by simpa using h):=by simp
 rw[h2]
 have e3:xs.toList[P.length+i]?=some X[i]:=by
  rw[e,List.getElem?_append_right (by omega),Nat.add_sub_cancel_left,List.getElem?_append_left hi,List.getElem?_eq_getElem hi]
 rw[List.getElem?_eq_getElem (by simpa using h)] at e3
 exact Option.some.inj e3
structure Mrg (O:KeyOrd) (kf:Value->O.α) (X Y M:List Keyed):Prop where
 perm:M.Perm (X++Y)
 srt:M.Pairwise (leK O kf)
theorem oI (L:j2 prog w A E s kd O kf G){st:SortSt}{i sa na pw nb pb:Nat}{P X Y R:List Keyed}{Q:Bool->SortSt->Prop}(hk:kindOf st=kd)(hg:∀ x∈(arrOf st).toList,G x)(hf:failedOf st=none)
  (p1:(pendingOf st)[i]?=some (sa,na,pw)) (p2:(pendingOf st)[i+1]?=some (sa+na,nb,pb)) (e:(arrOf st).toList=P++(X++(Y++R))) (lP:P.length=sa) (lX:X.length=na) (lY:Y.length=nb) (hX : 0<na) (hY : 0<nb)
  (sX:X.Pairwise (leK O kf)) (sY:Y.Pairwise (leK O kf))
  (h:∀ st' M,kindOf st'=kd->failedOf st'=none->pendingOf st'=((pendingOf st).setIfInBounds i (sa,na+nb,pw)).eraseIdxIfInBounds (i+1)->(arrOf st').toList=P++(M++R)->Mrg O kf X Y M->Q true st') :
  wpS (model prog w) A E s (mergeAt' i) Q st:=by
 have hsz:(arrOf st).size=sa+(na+(nb+R.length)):=by
  have:=congrArg List.length e
  simpa [lP,lX,lY] using this
 have e':(arrOf st).toList=(P++X)++(Y++R):=by rw[e];simp
 have lPX:(P++X).length=sa+na:=by simp[lP,lX]
 have atX:∀ j (hj:j<X.length) (hh:sa+j<(arrOf st).size),(arrOf st)[sa+j]=X[j]:=λj hj hh=>by
  subst lP;exact n0 e hj hh
 have atY:∀ j (hj:j<Y.length) (hh:sa+na+j<(arrOf st).size),(arrOf st)[sa+na+j]=Y[j]:=λj hj hh=>by
  have:=n0 e' hj (by rw[lPX];exact hh)
  rw[← this]
  congr 1
  omega
 have sgX:∀ a b (ha:a<X.length) (hb:b<X.length),a<=b->leK O kf X[a] X[b]:=by
  intro a b ha hb hab
  rcases Nat.lt_or_ge a b with hlt |hge
  ·exact List.pairwise_iff_getElem.mp sX a b ha hb hlt
  ·have e:a=b:=by omega
   subst e;exact KeyOrd.kle_refl _
 have sgY:∀ a b (ha:a<Y.length) (hb:b<Y.length),a<=b->leK O kf Y[a] Y[b]:=by
  intro a b ha hb hab
  rcases Nat.lt_or_ge a b with hlt |hge
  ·exact List.pairwise_iff_getElem.mp sY a b ha hb hlt
  ·have e:a=b:=by omega
   subst e;exact KeyOrd.kle_refl _
 refine wpS_bind (wpS_get ?_)
 rw[show (sortPriv% PySem.Builtin.SortState.pending) st=pendingOf st from rfl,p1,p2]
 dsimp only
 have leY0:∀ v∈Y,leK O kf (Y[0]'(by omega)) v:=by
  intro v hv
  obtain⟨j,hj,ej⟩:=List.getElem_of_mem hv
  rw[← ej];exact sgY 0 j (by omega) hj (Nat.zero_le _)
 have leXl:∀ u∈X,leK O kf u (X[na-1]'(by omega)):=by
  intro u hu
  obtain⟨j,hj,ej⟩:=List.getElem_of_mem hu
  rw[← ej];exact sgX j (na-1) hj (by omega) (by omega)
 have hsb:sa+na<(arrOf st).size:=by omega
 have hy0:(arrOf st)[sa+na]=Y[0]'(by omega):=by
  have:=atY 0 (by omega) (by omega)
  simpa using this
 have gd:∀ j (hj:j<(arrOf st).size),G (arrOf st)[j]:=λj hj=>hg _ (Array.getElem_mem_toList hj)
 refine wpS_bind (wQ ?_)
 refine wpS_bind (aA hsb ?_)
 refine wpS_bind (bD L (by exact hk) (gd _ hsb) hg (by show sa+na<=(arrOf st).size;omega) hX (λj=>if hj:sa+j<(arrOf st).size then bey O kf false (arrOf st)[sa+na] (arrOf st)[sa+j] else false) (λj hj _=>by rw[dif_pos hj]) ?_ ?_)
 ·intro a b hab hb hB
  have hb':sa+b<(arrOf st).size:=by omega
  have ha':sa+a<(arrOf st).size:=by omega
  rw[dif_pos hb'] at hB
  rw[dif_pos ha']
  unfold bey at hB ⊢
  rw[if_neg (by decide)] at hB ⊢
  rw[atX b (by omega) hb'] at hB
  rw[atX a (by omega) ha']
  have h1:O.kle (kf X[b].1) (kf (arrOf st)[sa+na].1):=by simpa [KeyOrd.kle] using hB
  have h2:O.kle (kf X[a].1) (kf (arrOf st)[sa+na].1):=KeyOrd.kle_trans (sgX a b (by omega) (by omega) hab) h1
  simpa [KeyOrd.kle] using h2
 ·intro k hkn hk1 hk2
  try dsimp only
  have lowX:∀ u∈X.take k,leK O kf u (Y[0]'(by omega)):=by
   intro u hu
   obtain⟨j,hj,ej⟩:=List.getElem_of_mem hu
   have hj':j<k:=by rw[List.length_take] at hj;omega
   have hjs:sa+j<(arrOf st).size:=by omega
   have hB:=hk1 j hj'
   rw[dif_pos hjs] at hB
   unfold bey at hB
   rw[if_neg (by decide),atX j (by omega) hjs,hy0] at hB
   have eu:u=X[j]'(by omega):=by rw[← ej];simp
   rw[eu]
   show O.kle _ _
   simpa [KeyOrd.kle] using hB
  by_cases e1:(na-k==0)=true
  ·rw[if_pos e1]
   have ek:k=na:=by
    have:na-k=0:=by simpa using e1
    omega
   refine wpS_pure (h _ (X++Y) hk hf rfl ?_ ⟨List.Perm.refl _,List.pairwise_append.mpr ⟨sX,sY,λu hu v hv=>?_⟩⟩)
   ·show (arrOf st).toList=_
    rw[e];simp
   ·refine bM (lowX u ?_) (leY0 v hv)
    rw[ek,List.take_of_length_le (by omega)];exact hu
  ·rw[if_neg e1]
   have e1':na-k≠0:=by simpa using e1
   have hlx:sa+k+(na-k)-1<(arrOf st).size:=by omega
   have hxl:(arrOf st)[sa+k+(na-k)-1]=X[na-1]'(by omega):=by
    have:=atX (na-1) (by omega) (by omega)
    rw[← this]
    congr 1
    omega
   refine wpS_bind (aA hlx ?_)
   refine wpS_bind (bD L (by exact hk) (gd _ hlx) hg (by show sa+na+nb<=(arrOf st).size;omega) (by omega) (λj=>if hj:sa+na+j<(arrOf st).size then bey O kf true (arrOf st)[sa+k+(na-k)-1] (arrOf st)[sa+na+j] else false) (λj hj _=>by rw[dif_pos hj]) ?_ ?_)
   ·intro a b hab hb hB
    have hb':sa+na+b<(arrOf st).size:=by omega
    have ha':sa+na+a<(arrOf st).size:=by omega
    rw[dif_pos hb'] at hB
    rw[dif_pos ha']
    unfold bey at hB ⊢
    rw[if_pos rfl] at hB ⊢
    rw[atY b (by omega) hb'] at hB
    rw[atY a (by omega) ha']
    exact KeyOrd.klt_of_kle_of_klt (sgY a b (by omega) (by omega) hab) hB
   ·intro nb2 hkn2 hk12 hk22
    try dsimp only
    have hiY:∀ v∈Y.drop nb2,leK O kf (X[na-1]'(by omega)) v:=by
     intro v hv
     obtain⟨j,hj,ej⟩:=List.getElem_of_mem hv
     rw[List.length_drop] at hj
     have hjs:sa+na+(nb2+j)<(arrOf st).size:=by omega
     have hB:=hk22 (nb2+j) (by omega) (by omega)
     rw[dif_pos hjs] at hB
     unfold bey at hB
     rw[if_pos rfl,atY (nb2+j) (by omega) hjs,hxl] at hB
     have ev:v=Y[nb2+j]'(by omega):=by rw[← ej];simp
     rw[ev]
     exact hB
    by_cases e2:(nb2==0)=true
    ·rw[if_pos e2]
     have en:nb2=0:=by simpa using e2
     subst en
     refine wpS_pure (h _ (X++Y) hk hf rfl ?_ ⟨List.Perm.refl _,List.pairwise_append.mpr ⟨sX,sY,λu hu v hv=>bM (leXl u hu) (hiY v (by simpa using hv))⟩⟩)
     show (arrOf st).toList=_
     rw[e];simp
    ·rw[if_neg e2]
     have e2':nb2≠0:=by simpa using e2
     have ex:((arrOf st).extract (sa+k) (sa+na)).toList=X.drop k:=by
      rw[Array.toList_extract,List.extract_eq_drop_take,e,List.drop_append,List.drop_eq_nil_of_le (by omega),List.nil_append,lP,Nat.add_sub_cancel_left,List.drop_append_of_le_length (by omega),List.take_append_of_le_length (by rw[List.length_drop];omega)]
      exact List.take_of_length_le (by rw[List.length_drop];omega)
     have ey:((arrOf st).extract (sa+na) (sa+na+nb2)).toList=Y.take nb2:=by
      rw[Array.toList_extract,List.extract_eq_drop_take,e',List.drop_append,List.drop_eq_nil_of_le (by omega),List.nil_append,lPX,Nat.sub_self,List.drop_zero,Nat.add_sub_cancel_left,List.take_append_of_le_length (by omega)]
     have szx : 0<((arrOf st).extract (sa+k) (sa+na)).size:=by rw[← Array.length_toList,ex,List.length_drop];omega
     have szy : 0<((arrOf st).extract (sa+na) (sa+na+nb2)).size:=by rw[← Array.length_toList,ey,List.length_take];omega
     have lx:((arrOf st).extract (sa+k) (sa+na)).size=na-k:=by rw[← Array.length_toList,ex,List.length_drop];omega
     have gx:∀ z∈((arrOf st).extract (sa+k) (sa+na)).toList,G z:=λz hz=>by rw[ex] at hz;exact hg z (by rw[e];simp[List.mem_of_mem_drop hz])
     have gy:∀ z∈((arrOf st).extract (sa+na) (sa+na+nb2)).toList,G z:=λz hz=>by rw[ey] at hz;exact hg z (by rw[e];simp[List.mem_of_mem_take hz])
     have sx:((arrOf st).extract (sa+k) (sa+na)).toList.Pairwise (leK O kf):=by rw[ex];exact sX.sublist (List.drop_sublist _ _)
     have sy:((arrOf st).extract (sa+na) (sa+na+nb2)).toList.Pairwise (leK O kf):=by rw[ey];exact sY.sublist (List.take_sublist _ _)
     have x0:((arrOf st).extract (sa+k) (sa+na))[0]=X[k]'(by omega):=by
      rw[Array.getElem_extract]
      exact atX k (by omega) (by omega)
     have y0:((arrOf st).extract (sa+na) (sa+na+nb2))[0]=Y[0]'(by omega):=by
      rw[Array.getElem_extract]
      exact atY 0 (by omega) (by omega)
     have fst:leK O kf ((arrOf st).extract (sa+na) (sa+na+nb2))[0] ((arrOf st).extract (sa+k) (sa+na))[0]:=by
      rw[x0,y0]
      have hB:=hk2 k (Nat.le_refl _) (by omega)
      have hks:sa+k<(arrOf st).size:=by omega
      rw[dif_pos hks] at hB
      unfold bey at hB
      rw[if_neg (by decide),atX k (by omega) hks,hy0] at hB
      have hB':O.blt (kf (Y[0]'(by omega)).1) (kf (X[k]'(by omega)).1)=true:=by simpa using hB
      exact KeyOrd.kle_of_klt hB'
     have lst:∀ z∈((arrOf st).extract (sa+na) (sa+na+nb2)).toList,leK O kf z (((arrOf st).extract (sa+k) (sa+na))[((arrOf st).extract (sa+k) (sa+na)).size-1]'(by omega)):=by
      intro z hz
      have exl:((arrOf st).extract (sa+k) (sa+na))[((arrOf st).extract (sa+k) (sa+na)).size-1]'(by omega)=X[na-1]'(by omega):=by
       rw[Array.getElem_extract]
       have:=atX (na-1) (by omega) (by omega)
       rw[← this]
       congr 1
       omega
      rw[exl]
      rw[ey] at hz
      obtain⟨j,hj,ej⟩:=List.getElem_of_mem hz
      rw[List.length_take] at hj
      have hjs:sa+na+j<(arrOf st).size:=by omega
      have hB:=hk12 j (by omega)
      rw[dif_pos hjs] at hB
      unfold bey at hB
      rw[if_pos rfl,atY j (by omega) hjs,hxl] at hB
      have ev:z=Y[j]'(by omega):=by rw[← ej];simp
      rw[ev]
      exact KeyOrd.kle_of_klt hB
     by_cases e3:na-k<=nb2
     ·rw[if_pos e3]
      refine wpS_bind (oG L (by exact hk) gx gy szx szy sx sy fst lst λr st2 hs2 hr=>?_)
      refine wpS_bind (wpS_modify ?_)
      refine wpS_bind (wpS_get (wpS_pure ?_))
      have lr:r.toList.length=(na-k)+nb2:=by
       rw[hr.1.length_eq,List.length_append,ex,ey,List.length_drop,List.length_take,lX,lY];omega
      have ef:failedOf st2=none:=hs2.fail.trans hf
      have ea:arrOf st2=arrOf st:=hs2.arr
      have wr:=writes r.toList (arrOf st) (sa+k) 0 (by rw[lr,hsz];omega)
      have e1:(arrOf st).toList.take (sa+k)=P++X.take k:=by
       rw[e,List.take_append,lP,List.take_of_length_le (by omega),Nat.add_sub_cancel_left,List.take_append_of_le_length (by omega)]
      have e2:(arrOf st).toList.drop (sa+k+((na-k)+nb2))=Y.drop nb2++R:=by
       rw[show sa+k+((na-k)+nb2)=(sa+na)+nb2 by omega,e',List.drop_append,lPX,List.drop_eq_nil_of_le (by omega),List.nil_append,Nat.add_sub_cancel_left,List.drop_append_of_le_length (by omega)]
      show Q (failedOf st2).isNone _
      rw[ef]
      refine h _ (X.take k++(r.toList++Y.drop nb2)) (hs2.kind.trans hk) ef hs2.pend ?_ ⟨?_,?_⟩
      ·show (List.foldl (λa (x:Keyed×Nat)=>a.setIfInBounds (sa+k+x.2) x.1) (arrOf st2) r.toList.zipIdx).toList=_
       rw[ea,wr,Nat.add_zero,lr,e1,e2]
       simp
      ·refine List.Perm.trans (List.Perm.append_left _ (List.Perm.append_right _ hr.1)) ?_
       rw[ex,ey]
       have q1:X.take k++((X.drop k++Y.take nb2)++Y.drop nb2)=(X.take k++X.drop k)++(Y.take nb2++Y.drop nb2):=by simp only[List.append_assoc]
       rw[q1,List.take_append_drop,List.take_append_drop]
      ·have mem_r:∀ z∈r.toList,z∈X.drop k∨z∈Y.take nb2:=λz hz=>by
        have:=hr.1.mem_iff.mp hz
        rw[ex,ey] at this
        exact List.mem_append.mp this
       have X1X2:∀ u∈X.take k,∀ v∈X.drop k,leK O kf u v:=by
        have:=sX
        rw[← List.take_append_drop k X] at this
        exact (List.pairwise_append.mp this).2.2
       have Y1Y2:∀ u∈Y.take nb2,∀ v∈Y.drop nb2,leK O kf u v:=by
        have:=sY
        rw[← List.take_append_drop nb2 Y] at this
        exact (List.pairwise_append.mp this).2.2
       have X1Y:∀ u∈X.take k,∀ v∈Y,leK O kf u v:=λu hu v hv=>bM (lowX u hu) (leY0 v hv)
       have XY2:∀ u∈X,∀ v∈Y.drop nb2,leK O kf u v:=λu hu v hv=>bM (leXl u hu) (hiY v hv)
       refine List.pairwise_append.mpr ⟨sX.sublist (List.take_sublist _ _),List.pairwise_append.mpr ⟨hr.2,sY.sublist (List.drop_sublist _ _),λu hu v hv=>?_⟩,λu hu v hv=>?_⟩
       ·rcases mem_r u hu with hu |hu
        ·exact XY2 u (List.mem_of_mem_drop hu) v hv
        ·exact Y1Y2 u hu v hv
       ·rcases List.mem_append.mp hv with hv |hv
        ·rcases mem_r v hv with hv |hv
         ·exact X1X2 u hu v hv
         ·exact X1Y u hu v (List.mem_of_mem_take hv)
        ·exact X1Y u hu v (List.mem_of_mem_drop hv)
     ·rw[if_neg e3]
      refine wpS_bind (oH L (by exact hk) gx gy szx szy sx sy fst lst λr st2 hs2 hr=>?_)
      refine wpS_bind (wpS_modify ?_)
      refine wpS_bind (wpS_get (wpS_pure ?_))
      have lr:r.toList.length=(na-k)+nb2:=by
       rw[hr.1.length_eq,List.length_append,ex,ey,List.length_drop,List.length_take,lX,lY];omega
      have ef:failedOf st2=none:=hs2.fail.trans hf
      have ea:arrOf st2=arrOf st:=hs2.arr
      have wr:=writes r.toList (arrOf st) (sa+k) 0 (by rw[lr,hsz];omega)
      have e1:(arrOf st).toList.take (sa+k)=P++X.take k:=by
       rw[e,List.take_append,lP,List.take_of_length_le (by omega),Nat.add_sub_cancel_left,List.take_append_of_le_length (by omega)]
      have e2:(arrOf st).toList.drop (sa+k+((na-k)+nb2))=Y.drop nb2++R:=by
       rw[show sa+k+((na-k)+nb2)=(sa+na)+nb2 by omega,e',List.drop_append,lPX,List.drop_eq_nil_of_le (by omega),List.nil_append,Nat.add_sub_cancel_left,List.drop_append_of_le_length (by omega)]
      show Q (failedOf st2).isNone _
      rw[ef]
      refine h _ (X.take k++(r.toList++Y.drop nb2)) (hs2.kind.trans hk) ef hs2.pend ?_ ⟨?_,?_⟩
      ·show (List.foldl (λa (x:Keyed×Nat)=>a.setIfInBounds (sa+k+x.2) x.1) (arrOf st2) r.toList.zipIdx).toList=_
       rw[ea,wr,Nat.add_zero,lr,e1,e2]
       simp
      ·refine List.Perm.trans (List.Perm.append_left _ (List.Perm.append_right _ hr.1)) ?_
       rw[ex,ey]
       have q1:X.take k++((X.drop k++Y.take nb2)++Y.drop nb2)=(X.take k++X.drop k)++(Y.take nb2++Y.drop nb2):=by simp only[List.append_assoc]
       rw[q1,List.take_append_drop,List.take_append_drop]
      ·have mem_r:∀ z∈r.toList,z∈X.drop k∨z∈Y.take nb2:=λz hz=>by
        have:=hr.1.mem_iff.mp hz
        rw[ex,ey] at this
        exact List.mem_append.mp this
       have X1X2:∀ u∈X.take k,∀ v∈X.drop k,leK O kf u v:=by
        have:=sX
        rw[← List.take_append_drop k X] at this
        exact (List.pairwise_append.mp this).2.2
       have Y1Y2:∀ u∈Y.take nb2,∀ v∈Y.drop nb2,leK O kf u v:=by
        have:=sY
        rw[← List.take_append_drop nb2 Y] at this
        exact (List.pairwise_append.mp this).2.2
       have X1Y:∀ u∈X.take k,∀ v∈Y,leK O kf u v:=λu hu v hv=>bM (lowX u hu) (leY0 v hv)
       have XY2:∀ u∈X,∀ v∈Y.drop nb2,leK O kf u v:=λu hu v hv=>bM (leXl u hu) (hiY v hv)
       refine List.pairwise_append.mpr ⟨sX.sublist (List.take_sublist _ _),List.pairwise_append.mpr ⟨hr.2,sY.sublist (List.drop_sublist _ _),λu hu v hv=>?_⟩,λu hu v hv=>?_⟩
       ·rcases mem_r u hu with hu |hu
        ·exact XY2 u (List.mem_of_mem_drop hu) v hv
        ·exact Y1Y2 u hu v hv
       ·rcases List.mem_append.mp hv with hv |hv
        ·rcases mem_r v hv with hv |hv
         ·exact X1X2 u hu v hv
         ·exact X1Y u hu v (List.mem_of_mem_take hv)
        ·exact X1Y u hu v (List.mem_of_mem_drop hv)
end
abbrev tZ:StateT SortSt Sem Unit:=sortPriv% PySem.Builtin.sortRuns
abbrev j8:Nat->Nat->Nat->Nat:=sortPriv% PySem.Builtin.minRun
section
variable {prog:Program}{w:World}{A:Around}{E:Value->Shared->Prop}{s:Shared}{kd:SortKind}{O:KeyOrd}{kf:Value->O.α}{G:Keyed->Prop}
inductive Segs (kf:Value->O.α) (xs:Array Keyed):List (Nat×Nat×Nat)->Nat->Nat->Prop
 |nil (a:Nat):Segs kf xs [] a a
 |cons {a b n p:Nat}{r:List (Nat×Nat×Nat)} : 0<n->Asc kf xs a (a+n)->Segs kf xs r (a+n) b->Segs kf xs ((a,n,p)::r) a b
theorem Segs.le {xs:Array Keyed}{p:List (Nat×Nat×Nat)}{a b:Nat}(h:Segs kf xs p a b):p.length+a<=b:=by
 induction h with
 |nil a=>simp
 |cons h0 _ _ ih=>rw[List.length_cons];omega
theorem Segs.keep {xs ys:Array Keyed}{p:List (Nat×Nat×Nat)}{a b:Nat}(h:Segs kf xs p a b)(e:∀ j,a<=j->j<b->KX kf ys j=KX kf xs j):Segs kf ys p a b:=by
 induction h with
 |nil a=>exact .nil a
 | @cons a b n q r h0 ha hr ih =>
  have:=hr.le
  refine .cons h0 (λi j h1 h2 h3=>?_) (ih λj h1 h2=>e j (by omega) h2)
  rw[e i h1 (by omega),e j (by omega) (by omega)]
  exact ha i j h1 h2 h3
theorem Segs.relabel {xs:Array Keyed}{p q:List (Nat×Nat×Nat)}{a b:Nat}(h:Segs kf xs p a b)(e:q.map (λx=>(x.1,x.2.1))=p.map λx=>(x.1,x.2.1)):Segs kf xs q a b:=by
 induction h generalizing q with
 |nil a=>cases q with
  |nil=>exact .nil a
  |cons x q=>simp at e
 | @cons a b n q' r h0 ha hr ih=>cases q with
  |nil=>simp at e
  |cons x q =>
   obtain⟨x1,x2,x3⟩:=x
   simp only[List.map_cons,List.cons.injEq,Prod.mk.injEq] at e
   obtain⟨⟨rfl,rfl⟩,e2⟩:=e
   exact .cons h0 ha (ih e2)
theorem Segs.snoc {xs:Array Keyed}{p:List (Nat×Nat×Nat)}{a b n q:Nat}(h:Segs kf xs p a b)(h0 : 0<n)(ha:Asc kf xs b (b+n)):Segs kf xs (p++[(b,n,q)]) a (b+n):=by
 induction h with
 |nil a=>exact .cons h0 ha (.nil _)
 |cons g0 ga gr ih=>exact .cons g0 ga (ih ha)
theorem Segs.two {xs:Array Keyed}{p:List (Nat×Nat×Nat)}{a b:Nat}(h:Segs kf xs p a b):∀ {i sa na pw sb nb pb:Nat},p[i]?=some (sa,na,pw)->p[i+1]?=some (sb,nb,pb) ->
  sb=sa+na/\0<na/\0<nb/\a<=sa/\sa+na+nb<=b/\Asc kf xs sa (sa+na)/\Asc kf xs (sa+na) (sa+na+nb):=by
 induction h with
 |nil a=>intro i sa na pw sb nb pb e1;simp at e1
 | @cons a b n q r h0 ha hr ih =>
  intro i sa na pw sb nb pb e1 e2
  cases i with
  |zero =>
   simp at e1
   obtain⟨rfl,rfl,rfl⟩:=e1
   cases hr with
   |nil=>simp at e2
   |cons g0 ga gr =>
    simp at e2
    obtain⟨rfl,rfl,rfl⟩:=e2
    have:=gr.le
    exact⟨rfl,h0,g0,Nat.le_refl _,by omega,ha,ga⟩
  |succ i =>
   obtain⟨x1,x2,x3,x4,x5,x6,x7⟩:=ih (i:=i) (by simpa using e1) (by simpa using e2)
   exact⟨x1,x2,x3,by omega,x5,x6,x7⟩
theorem Segs.merge {xs ys:Array Keyed}{p:List (Nat×Nat×Nat)}{a b:Nat}(h:Segs kf xs p a b):∀ {i sa na pw sb nb pb:Nat},p[i]?=some (sa,na,pw)->p[i+1]?=some (sb,nb,pb) ->
  (∀ j,j<sa->KX kf ys j=KX kf xs j)->(∀ j,sa+na+nb<=j->KX kf ys j=KX kf xs j)->Asc kf ys sa (sa+(na+nb))->Segs kf ys ((p.set i (sa,na+nb,pw)).eraseIdx (i+1)) a b:=by
 induction h with
 |nil a=>intro i sa na pw sb nb pb e1;simp at e1
 | @cons a b n q r h0 ha hr ih =>
  intro i sa na pw sb nb pb e1 e2 k1 k2 hs
  cases i with
  |zero =>
   simp at e1
   obtain⟨rfl,rfl,rfl⟩:=e1
   cases hr with
   |nil=>simp at e2
   |cons g0 ga gr =>
    simp at e2
    obtain⟨rfl,rfl,rfl⟩:=e2
    show Segs kf ys ((a,n + _,q)::_) a b
    refine .cons (by omega) hs ?_
    rw[← Nat.add_assoc]
    exact gr.keep λj h1 h2=>k2 j h1
  |succ i =>
   have t:=hr.two (i:=i) (by simpa using e1) (by simpa using e2)
   have ih':=ih (i:=i) (by simpa using e1) (by simpa using e2) k1 k2 hs
   refine .cons h0 (λx y h1 h2 h3=>?_) ih'
   rw[k1 x (by omega),k1 y (by omega)]
   exact ha x y h1 h2 h3
theorem qg {xs:Array Keyed}{lo n:Nat}(h:Asc kf xs lo (lo+n))(hl:lo+n<=xs.size):((xs.toList.drop lo).take n).Pairwise (leK O kf):=by
 rw[List.pairwise_iff_getElem]
 intro i j hi hj hij
 have hi':i<n:=by rw[List.length_take] at hi;omega
 have hj':j<n:=by rw[List.length_take] at hj;omega
 have q:=h (lo+i) (lo+j) (by omega) (by omega) (by omega)
 rw[lH (by omega),lH (by omega)] at q
 show O.kle _ _
 simpa using q
theorem vY {xs:Array Keyed}{P M R:List Keyed}(e:xs.toList=P++(M++R))(h:M.Pairwise (leK O kf)):Asc kf xs P.length (P.length+M.length):=by
 intro i j h1 h2 h3
 have hs:xs.size=P.length+(M.length+R.length):=by
  have:=congrArg List.length e
  simpa using this
 have at_:∀ k,P.length<=k->(hk:k<P.length+M.length)->∃ (hm:k-P.length<M.length),KX kf xs k=kf (M[k-P.length]).1:=λk hk1 hk2=>by
  have hm:k-P.length<M.length:=by omega
  refine⟨hm,?_⟩
  rw[lH (by omega)]
  have:=n0 e hm (by omega)
  rw[← this]
  congr 2
  all_goals first |rfl |(congr 1;omega)
 obtain⟨m1,e1⟩:=at_ i h1 (by omega)
 obtain⟨m2,e2⟩:=at_ j (by omega) h3
 rw[e1,e2]
 rcases Nat.lt_or_ge i j with hlt |hge
 ·exact List.pairwise_iff_getElem.mp h _ _ m1 m2 (by omega)
 ·have ee:i=j:=by omega
  subst ee;exact KeyOrd.kle_refl _
structure RI (G:Keyed->Prop) (kd:SortKind) (kf:Value->O.α) (st0 st:SortSt) (b:Nat):Prop where
 kind:kindOf st=kd
 good:∀ x∈(arrOf st).toList,G x
 perm:(arrOf st).Perm (arrOf st0)
 fail:failedOf st=none
 segs:Segs kf (arrOf st) (pendingOf st).toList 0 b
 top:b<=(arrOf st0).size
theorem ij (L:j2 prog w A E s kd O kf G){st0 st:SortSt}{b i:Nat}(h:RI G kd kf st0 st b)(hi:i+1<(pendingOf st).size){Q:Bool->SortSt->Prop}
  (q:∀ st',RI G kd kf st0 st' b->(pendingOf st').size+1=(pendingOf st).size->(∀ j,b<=j->KX kf (arrOf st') j=KX kf (arrOf st) j)->Q true st'):wpS (model prog w) A E s (mergeAt' i) Q st:=by
 obtain⟨⟨sa,na,pw⟩,p1⟩:∃ x,(pendingOf st)[i]?=some x:=⟨_,getElem?_pos _ i (by omega)⟩
 obtain⟨⟨sb,nb,pb⟩,p2⟩:∃ x,(pendingOf st)[i+1]?=some x:=⟨_,getElem?_pos _ (i+1) hi⟩
 obtain⟨rfl,hna,hnb,_,hab,s1,s2⟩:=h.segs.two (i:=i) (by simpa using p1) (by simpa using p2)
 have hsz:(arrOf st).size=(arrOf st0).size:=h.perm.size_eq
 have htop:=h.top
 have e:(arrOf st).toList=(arrOf st).toList.take sa++(((arrOf st).toList.drop sa).take na++(((arrOf st).toList.drop (sa+na)).take nb++(arrOf st).toList.drop (sa+na+nb))):=by
  have a1:((arrOf st).toList.drop (sa+na)).take nb++(arrOf st).toList.drop (sa+na+nb)=(arrOf st).toList.drop (sa+na):=by
   rw[← List.drop_drop (i:=nb) (j:=sa+na),List.take_append_drop]
  have a2:((arrOf st).toList.drop sa).take na++(arrOf st).toList.drop (sa+na)=(arrOf st).toList.drop sa:=by
   rw[← List.drop_drop (i:=na) (j:=sa),List.take_append_drop]
  rw[a1,a2,List.take_append_drop]
 have lP:((arrOf st).toList.take sa).length=sa:=by rw[List.length_take,Array.length_toList];omega
 have lX:(((arrOf st).toList.drop sa).take na).length=na:=by rw[List.length_take,List.length_drop,Array.length_toList];omega
 have lY:(((arrOf st).toList.drop (sa+na)).take nb).length=nb:=by rw[List.length_take,List.length_drop,Array.length_toList];omega
 refine oI L h.kind h.good h.fail p1 p2 e lP lX lY hna hnb (qg s1 (by omega)) (qg s2 (by omega)) λst' M k1 k2 k3 k4 k5=>?_
 have lM:M.length=na+nb:=by rw[k5.perm.length_eq,List.length_append,lX,lY]
 have pm:(arrOf st').toList.Perm (arrOf st).toList:=by
  rw[k4]
  refine List.Perm.trans (List.Perm.append_left _ (List.Perm.append_right _ k5.perm)) ?_
  rw[List.append_assoc,← e]
 have hlen:(arrOf st').size=(arrOf st).size:=by have:=pm.length_eq;simpa using this
 have key:∀ j,(j<sa∨sa+na+nb<=j)->(arrOf st').toList[j]?=(arrOf st).toList[j]?:=by
  intro j hj
  rcases hj with hj |hj
  ·rw[k4,List.getElem?_append_left (by omega),List.getElem?_take,if_pos hj]
  ·rw[k4,List.getElem?_append_right (by omega),lP,List.getElem?_append_right (by omega),lM,List.getElem?_drop]
   congr 1
   omega
 have kx:∀ j,(j<sa∨sa+na+nb<=j)->KX kf (arrOf st') j=KX kf (arrOf st) j:=λj hj=>by
  refine lG ?_
  have:=key j hj
  simpa using this
 refine q st' ⟨k1,λx hx=>h.good x (pm.mem_iff.mp hx),(Array.perm_iff_toList_perm.mpr pm).trans h.perm,k2,?_,h.top⟩ ?_ λj hj=>kx j (.inr (by omega))
 ·rw[k3]
  have m:=h.segs.merge (ys:=arrOf st') (i:=i) (by simpa using p1) (by simpa using p2) (λj hj=>kx j (.inl hj)) (λj hj=>kx j (.inr hj)) (by
   have:=vY k4 k5.srt
   rwa [lP,lM] at this)
  simpa using m
 ·rw[k3,← Array.length_toList,Array.toList_eraseIdxIfInBounds,Array.toList_setIfInBounds,List.length_eraseIdx,List.length_set,Array.length_toList,if_pos (by omega)]
  omega
theorem oF (L:j2 prog w A E s kd O kf G){st0 st:SortSt}{b i:Nat}(h:RI G kd kf st0 st b)(hi:i+1<(pendingOf st).size){Q:Bool->SortSt->Prop}
  (q:∀ st',RI G kd kf st0 st' b->(pendingOf st').size+1=(pendingOf st).size->Q true st'):wpS (model prog w) A E s (mergeAt' i) Q st:=ij L h hi λst' a b _=>q st' a b
theorem zB (c:Prop)[Decidable c]{n:Nat}(h : 1<n):(if c then n-2-1 else n-2)+1<n:=by
 split<;>omega
theorem sJ (xs:Array (Nat×Nat×Nat))(i v:Nat):(xs.modify i λx=>(x.1,x.2.1,v)).toList.map (λx=>(x.1,x.2.1))=xs.toList.map λx=>(x.1,x.2.1):=by
 apply List.ext_getElem?
 intro j
 simp only[List.getElem?_map,Array.getElem?_toList,Array.getElem?_modify]
 split
 ·cases xs[j]?<;>rfl
 ·rfl
theorem ik (L:j2 prog w A E s kd O kf G){st0 st:SortSt}{b i n:Nat}(h:RI G kd kf st0 st b)(hi:i+1<(pendingOf st).size)(ha:Asc kf (arrOf st) b (b+n))(hn:b+n<=(arrOf st0).size){Q:Bool->SortSt->Prop}
  (q:∀ st',RI G kd kf st0 st' b->(pendingOf st').size+1=(pendingOf st).size->Asc kf (arrOf st') b (b+n)->Q true st'):wpS (model prog w) A E s (mergeAt' i) Q st:=by
 refine ij L h hi λst' a1 a2 a3=>q st' a1 a2 λx y h1 h2 h3=>?_
 rw[a3 x h1,a3 y (by omega)]
 exact ha x y h1 h2 h3
theorem lR (L:j2 prog w A E s kd O kf G){st:SortSt}{Q:Unit->SortSt->Prop}(hk:kindOf st=kd)(hg:∀ x∈(arrOf st).toList,G x)(hf:failedOf st=none)(hp:pendingOf st = #[])(h0 : 0<(arrOf st).size)
  (h:∀ st',(arrOf st').Perm (arrOf st)->failedOf st'=none->Asc kf (arrOf st') 0 (arrOf st).size->Q () st'):wpS (model prog w) A E s tZ Q st:=by
 refine wpS_bind (wpS_get ?_)
 dsimp only
 have R0:RI G kd kf st st 0:=⟨hk,hg,Array.Perm.refl _,hf,by rw[hp];exact .nil 0,Nat.zero_le _⟩
 refine wpS_bind (wpS_mono (wpS_forRange (I:=λx c st' => ∃ lo,c=(none,lo)/\RI G kd kf st st' lo/\x<=lo)
  (Q:=λc st' => ∃ lo,c=(none,lo)/\RI G kd kf st st' (arrOf st).size) ?s1 ?f1 ⟨0,rfl,R0,Nat.le_refl _⟩) ?p1)
 case f1 =>
  rintro c st' ⟨lo,rfl,hR,hx⟩
  have:lo=(arrOf st).size:=by
   have:=hR.top
   have hx':max 0 (arrOf st).size<=lo:=hx
   omega
  subst this
  exact⟨_,rfl,hR⟩
 case s1 =>
  rintro x c st' _ hx ⟨lo,rfl,hR,hxl⟩
  dsimp only
  have htop:=hR.top
  by_cases hlo:lo≥(arrOf st).size
  ·rw[if_pos hlo]
   have:lo=(arrOf st).size:=by omega
   subst this
   exact wpS_pure ⟨_,rfl,hR⟩
  ·rw[if_neg hlo]
   have hsz:(arrOf st').size=(arrOf st).size:=hR.perm.size_eq
   refine wpS_bind (lS L hR.kind hR.good (by show lo+((arrOf st).size-lo)<=(arrOf st').size;omega) (by show 1<=(arrOf st).size-lo;omega) λn st2 hS hn1 hn2 ha=>?_)
   dsimp only
   have hn2:n<=(arrOf st).size-lo:=hn2
   have RIof:∀ st3,Sg G kd lo st' st3->RI G kd kf st st3 lo:=λst3 g=>⟨g.kind,g.good,g.perm.trans hR.perm,g.fail.trans hR.fail,by
    rw[g.pend]
    exact hR.segs.keep λj _ hj=>lG (g.same j hj),hR.top⟩
   by_cases hmr:n<j8 (arrOf st).size (arrOf st).size 0
   ·rw[if_pos hmr]
    refine wpS_bind (wpS_lift (wpAny_rule ⟨rfl,?_⟩))
    refine wpS_bind (oJ L hS (by show lo+min ((arrOf st).size-lo) _<=(arrOf st').size;omega) (Nat.le_min.mpr ⟨hn2,Nat.le_of_lt hmr⟩) ha λst3 hS3 ha3=>?_)
    rw[if_neg (by decide)]
    have R3:=RIof st3 hS3
    have hN : 0<min ((arrOf st).size-lo) (j8 (arrOf st).size (arrOf st).size 0):=by
     refine Nat.lt_min.mpr ⟨by omega,by omega⟩
    have hN2:min ((arrOf st).size-lo) (j8 (arrOf st).size (arrOf st).size 0)<=(arrOf st).size-lo:=Nat.min_le_left _ _
    generalize min ((arrOf st).size-lo) (j8 (arrOf st).size (arrOf st).size 0)=N at ha3 hN hN2 ⊢
    refine wpS_bind (wpS_get ?_)
    cases hbk:(pendingOf st3).back? with
    |none =>
     dsimp only
     refine wpS_bind (wpS_modify (wpS_pure ⟨_,rfl,⟨R3.kind,R3.good,R3.perm,R3.fail,?_,by omega⟩,by omega⟩))
     show Segs kf (arrOf st3) ((pendingOf st3).push (lo,N,0)).toList 0 (lo+N)
     rw[Array.toList_push]
     exact R3.segs.snoc (by omega) ha3
    |some bk =>
     obtain⟨s1,n1,w1⟩:=bk
     dsimp only
     refine wpS_bind (wpS_mono (wpS_forRange (I:=λx c st4=>c=(none,())/\RI G kd kf st st4 lo/\Asc kf (arrOf st4) lo (lo+N))
      (Q:=λc st4=>c=(none,())/\RI G kd kf st st4 lo/\Asc kf (arrOf st4) lo (lo+N)) ?_ (λ_ _ z=>z) ⟨rfl,R3,ha3⟩) ?_)
     ·rintro x c st4 _ hx ⟨rfl,R4,A4⟩
      refine wpS_bind (wpS_get ?_)
      rw[show (sortPriv% PySem.Builtin.SortState.pending) st4=pendingOf st4 from rfl]
      by_cases h2:(pendingOf st4).size > 1
      ·rw[if_pos h2,getElem?_pos (pendingOf st4) _ (by omega)]
       obtain⟨y1,y2,older⟩:=(pendingOf st4)[(pendingOf st4).size-2]
       dsimp only
       split
       ·exact wpS_pure ⟨rfl,R4,A4⟩
       ·refine wpS_bind (ik L R4 (by omega) A4 (by omega) λst5 R5 _ A5=>?_)
        exact wpS_pure ⟨rfl,R5,A5⟩
      ·rw[if_neg h2]
       exact wpS_pure ⟨rfl,R4,A4⟩
     ·rintro c st4 ⟨rfl,R4,A4⟩
      dsimp only
      refine wpS_bind (wpS_modify (wpS_bind (wpS_modify (wpS_pure ⟨_,rfl,⟨R4.kind,R4.good,R4.perm,R4.fail,?_,by omega⟩,by omega⟩))))
      show Segs kf (arrOf st4) (((pendingOf st4).modify _ λx=>(x.1,x.2.1,_)).push (lo,N,0)).toList 0 (lo+N)
      rw[Array.toList_push]
      exact (R4.segs.relabel (sJ _ _ _)).snoc (by omega) A4
   ·rw[if_neg hmr]
    have R3:=RIof st2 hS
    have ha3:=ha
    refine wpS_bind (wpS_get ?_)
    cases hbk:(pendingOf st2).back? with
    |none =>
     dsimp only
     refine wpS_bind (wpS_modify (wpS_pure ⟨_,rfl,⟨R3.kind,R3.good,R3.perm,R3.fail,?_,by omega⟩,by omega⟩))
     show Segs kf (arrOf st2) ((pendingOf st2).push (lo,n,0)).toList 0 (lo+n)
     rw[Array.toList_push]
     exact R3.segs.snoc (by omega) ha3
    |some bk =>
     obtain⟨s1,n1,w1⟩:=bk
     dsimp only
     refine wpS_bind (wpS_mono (wpS_forRange (I:=λx c st4=>c=(none,())/\RI G kd kf st st4 lo/\Asc kf (arrOf st4) lo (lo+n))
      (Q:=λc st4=>c=(none,())/\RI G kd kf st st4 lo/\Asc kf (arrOf st4) lo (lo+n)) ?_ (λ_ _ z=>z) ⟨rfl,R3,ha3⟩) ?_)
     ·rintro x c st4 _ hx ⟨rfl,R4,A4⟩
      refine wpS_bind (wpS_get ?_)
      rw[show (sortPriv% PySem.Builtin.SortState.pending) st4=pendingOf st4 from rfl]
      by_cases h2:(pendingOf st4).size > 1
      ·rw[if_pos h2,getElem?_pos (pendingOf st4) _ (by omega)]
       obtain⟨y1,y2,older⟩:=(pendingOf st4)[(pendingOf st4).size-2]
       dsimp only
       split
       ·exact wpS_pure ⟨rfl,R4,A4⟩
       ·refine wpS_bind (ik L R4 (by omega) A4 (by omega) λst5 R5 _ A5=>?_)
        exact wpS_pure ⟨rfl,R5,A5⟩
      ·rw[if_neg h2]
       exact wpS_pure ⟨rfl,R4,A4⟩
     ·rintro c st4 ⟨rfl,R4,A4⟩
      dsimp only
      refine wpS_bind (wpS_modify (wpS_bind (wpS_modify (wpS_pure ⟨_,rfl,⟨R4.kind,R4.good,R4.perm,R4.fail,?_,by omega⟩,by omega⟩))))
      show Segs kf (arrOf st4) (((pendingOf st4).modify _ λx=>(x.1,x.2.1,_)).push (lo,n,0)).toList 0 (lo+n)
      rw[Array.toList_push]
      exact (R4.segs.relabel (sJ _ _ _)).snoc (by omega) A4
 case p1 =>
  rintro c st' ⟨lo,rfl,hR⟩
  dsimp only
  refine wpS_bind (wpS_mono (wpS_forRange (I:=λx c st''=>c=(none,())/\RI G kd kf st st'' (arrOf st).size/\((pendingOf st'').size+x<=(arrOf st).size∨(pendingOf st'').size<=1))
   (Q:=λc st''=>c=(none,())/\RI G kd kf st st'' (arrOf st).size/\(pendingOf st'').size<=1) ?s2 ?f2 ⟨rfl,hR,.inl ?i2⟩) ?p2)
  case i2 =>
   have:=hR.segs.le
   simpa using this
  case f2 =>
   rintro c st'' ⟨rfl,hR2,h2⟩
   refine⟨rfl,hR2,?_⟩
   rcases h2 with h2 |h2
   ·have h2':(pendingOf st'').size+max 0 (arrOf st).size<=(arrOf st).size:=h2
    omega
   ·exact h2
  case p2 =>
   rintro c st'' ⟨rfl,hR2,h2⟩
   refine wpS_pure (h st'' hR2.perm hR2.fail ?_)
   have sg:=hR2.segs
   have hl:(pendingOf st'').toList.length<=1:=by simpa using h2
   generalize (pendingOf st'').toList=p at sg hl
   generalize eq0:(0:Nat)=z at sg
   have h0':=h0
   generalize (arrOf st).size=nn at sg h0' ⊢
   cases sg with
   |nil=>omega
   |cons g0 ga gr =>
    cases gr with
    |nil=>subst eq0;simpa using ga
    |cons _ _ _=>simp at hl
  case s2 =>
   rintro x c st'' _ hx ⟨rfl,hR2,h2⟩
   refine wpS_bind (wpS_get ?_)
   rw[show (sortPriv% PySem.Builtin.SortState.pending) st''=pendingOf st'' from rfl]
   by_cases hs:(pendingOf st'').size<=1
   ·rw[if_pos hs]
    exact wpS_pure ⟨rfl,hR2,hs⟩
   ·rw[if_neg hs]
    refine wpS_bind (oF L hR2 ?_ λst3 R3 e3=>?_)
    ·exact zB _ (by omega)
    ·exact wpS_pure ⟨rfl,R3,by
      rcases h2 with h2 |h2
      ·exact .inl (by omega)
      ·omega⟩
end
def oo (prog:Program)(w:World)(s1:Shared)(vs:List Value)(O:KeyOrd)(kf:Value->O.α):Prop:=∃ kd:SortKind,∀ (A:Around) (E:Value->Shared->Prop) (s6:Shared),(∀ b o,s1.heap.get? b=some o->s6.heap.get? b=some o) ->
 (2<=vs.length->∀ Q':SortKind->Shared->Prop,Q' kd s6->wpAny (model prog w) A (keyKind' vs.toArray) Q' E s6)/\j2 prog w A E s6 kd O kf (λp=>p.1∈vs)
theorem ie:∀ {vs:List Value}{p:Value×Value},p∈vs.zip vs->p.1=p.2/\p.1∈vs
 |[],_,h=>by simp at h
 |v::vs,p,h=>by
  rw[List.zip_cons_cons] at h
  rcases List.mem_cons.mp h with e |h
  ·subst e;exact⟨rfl,by simp⟩
  ·obtain⟨a,b⟩:=ie h;exact⟨a,List.mem_cons_of_mem _ b⟩
theorem rT:∀ (vs:List Value),(vs.zip vs).map (·.2)=vs
 |[]=>rfl
 |v::vs=>by rw[List.zip_cons_cons,List.map_cons,rT vs]
section
variable {prog:Program}{w:World}{A:Around}{E:Value->Shared->Prop}{s:Shared}{O:KeyOrd}{kf:Value->O.α}
theorem sE {vs:List Value}{xs:Array Keyed}(hp:xs.Perm (pairsOf vs))(ha:Asc kf xs 0 (pairsOf vs).size):(xs.map (·.2)).toList.Perm vs/\(xs.map (·.2)).toList.Pairwise λa b=>O.kle (kf a) (kf b):=by
 have hp':=Array.perm_iff_toList_perm.mp hp
 rw[pairsOf_toList] at hp'
 refine⟨?_,?_⟩
 ·have:=hp'.map (·.2)
  rw[rT] at this
  rw[Array.toList_map];exact this
 ·rw[Array.toList_map,List.pairwise_map,List.pairwise_iff_getElem]
  intro i j hi hj hij
  have hi':i<xs.size:=by simpa using hi
  have hj':j<xs.size:=by simpa using hj
  have q:=ha i j (Nat.zero_le _) (Nat.le_of_lt hij) (by rw[← hp.size_eq];exact hj')
  rw[lH hi',lH hj'] at q
  have e1:=(ie (hp'.mem_iff.mp (Array.getElem_mem_toList hi'))).1
  have e2:=(ie (hp'.mem_iff.mp (Array.getElem_mem_toList hj'))).1
  rw[e1,e2] at q
  simpa using q
theorem pC {a:Addr}{vs:List Value}{n:Nat}{P:Fin->Shared->Prop}{s1:Shared}(ho:s.heap.get? a=some (seqObj "list" vs.toArray n))(hl:vs.length<=sizeLine)(hS : 2<=vs.length->oo prog w s1 vs O kf)(hk:∀ b o,s1.heap.get? b=some o->b≠a/\s.heap.get? b=some o)
  (h:∀ out:Array Value,out.toList.Perm vs->(out.toList.Pairwise λa b=>O.kle (kf a) (kf b))->P (.done (.ret .none)) { s with heap:=sortedHeap s.heap a vs out }) :
  wpAny (model prog w) A (Builtin.«list.sort» ⟨[.ref a],[]⟩) P E s:=by
 have ha:a<s.heap.objs.size:=Heap.lt_size ho
 have hz:vs.toArray.size<=sizeLine:=by simpa using hl
 rw[list_sort_plain]
 refine wpAny_bind (listItems_at ho rfl ?_)
 refine wpAny_bind (listUpdate_at ho rfl ?_ (hsz:=hz))
 have ho1:=get?_update_seq ho (λ_ => #[])
 refine wpAny_bind (seqEpoch_at ho1 rfl ?_)
 refine wpAny_bind (wpAny_newTuple ?_)
 refine wpAny_bind (wpAny_newList ?_)
 refine wpAny_holding ?_
 generalize hE:(if (#[]:Array Value).size==vs.toArray.size then n else n+1)=e1 at ho1
 have keep6:∀ b o,s1.heap.get? b=some o->(((s.heap.update a (Obj.mapSeq λ_ => #[])).push (seqObj "tuple" vs.toArray 0)).push (seqObj "list" #[] 0)).get? b=some o:=by
  intro b o eb
  obtain⟨hne,eb'⟩:=hk b o eb
  refine Heap.get?_push_of_some _ (Heap.get?_push_of_some _ ?_)
  rw[Heap.get?_update_ne _ _ _ _ hne]
  exact eb'
 have ho6:(((s.heap.update a (Obj.mapSeq λ_ => #[])).push (seqObj "tuple" vs.toArray 0)).push (seqObj "list" #[] 0)).get? a=some (seqObj "list" #[] e1):=Heap.get?_push_of_some _ (Heap.get?_push_of_some _ ho1)
 show wpAny (model prog w) A _ P E { s with heap:=((s.heap.update a (Obj.mapSeq λ_ => #[])).push (seqObj "tuple" vs.toArray 0)).push (seqObj "list" #[] 0) }
 dsimp only
 by_cases h2:vs.toArray.size<2
 ·rw[if_pos h2,if_pos h2]
  refine wpAny_bind (wpAny_pure ?_)
  rw[StateT.run_pure]
  refine wpAny_bind (wpAny_pure ?_)
  dsimp only
  refine wpAny_bind (seqEpoch_at ho6 rfl ?_)
  refine wpAny_bind (listUpdate_at ho6 rfl ?_ (hsz2:=by rw[Array.size_map];show (pairsOf vs).size<=_;rw[pairsOf_size];omega))
  simp only[bne_self_eq_false,Bool.false_eq_true,if_false]
  obtain⟨o1,o2⟩:=sE (kf:=kf) (vs:=vs) (xs:=pairsOf vs) (Array.Perm.refl _) (λi j a1 a2 a3=>by
   have:i=j:=by rw[pairsOf_size] at a3;simp at h2;omega
   subst this;exact KeyOrd.kle_refl _)
  exact wpAny_pure (h _ o1 o2)
 ·rw[if_neg h2,if_neg h2]
  have h2' : 2<=vs.length:=by simp at h2;omega
  obtain⟨kd,hS⟩:=hS h2'
  refine wpAny_bind ((hS A _ _ keep6).1 h2' _ ?_)
  refine wpAny_bind (wpAny_mono (lR (O:=O) (kf:=kf) (kd:=kd) (st:=SortSt.mk' kd (vs.toArray.zip vs.toArray) #[] 7 none) (Q:=λ_ st'=>(arrOf st').Perm (pairsOf vs)/\failedOf st'=none/\Asc kf (arrOf st') 0 (pairsOf vs).size)
   (hS A _ _ keep6).2 rfl (λx hx=>?_) rfl rfl ?_ λst' a1 a2 a3=>⟨a1,a2,a3⟩) ?_ λ_ _ e=>e)
  ·have hx':x∈(pairsOf vs).toList:=hx
   rw[pairsOf_toList] at hx'
   exact (ie hx').2
  ·show 0<(pairsOf vs).size
   rw[pairsOf_size];omega
  ·rintro⟨⟨⟩,st'⟩ s' ⟨rfl,hp,hf,hs⟩
   dsimp only
   obtain⟨o1,o2⟩:=sE hp hs
   refine wpAny_bind (seqEpoch_at ho6 rfl ?_)
   refine wpAny_bind (listUpdate_at ho6 rfl ?_ (hsz2:=by refine Nat.le_trans (Nat.le_of_eq ((Array.size_map ..).trans (hp.size_eq.trans (pairsOf_size _)))) ?_;omega))
   rw[hf]
   simp only[bne_self_eq_false,Bool.false_eq_true,if_false]
   exact wpAny_pure (h _ o1 o2)
theorem j5 {x:Value}{Q:Value->Shared->Prop}
  (h:wpAny (model prog w) A.in1 (collect x) (λvs s1=>vs.length<=sizeLine/\∃ (O:KeyOrd) (kf:Value->O.α),(2<=vs.length->oo prog w s1 vs O kf) /\
   ∀ (out:Array Value) h' ep,out.toList.Perm vs->(out.toList.Pairwise λa b=>O.kle (kf a) (kf b))->(∀ b o,s1.heap.get? b=some o->h'.get? b=some o)->h'.get? s1.heap.objs.size=some (seqObj "list" out ep) ->
    Q (.ref s1.heap.objs.size) { s1 with heap:=h' }) E s):wpAny (model prog w) A (call (.builtin "sorted") [x]) Q E s:=by
 refine Calls.call_function_entry kind_sorted plain_sorted entry_sorted (args_sorted1 _) ?_
 unfold Builtin.«sorted»
 refine wpAny_bind (m:=checkCount "sorted" 1 1 _) (wpAny_pure ?_)
 refine wpAny_bind (wpAny_mono h (λvs s1 ⟨hl,O,kf,hS,q⟩=>?_) λ_ _ z=>z)
 refine wpAny_bind (wpAny_newList ?_)
 have hoL:(s1.heap.push (seqObj "list" vs.toArray 0)).get? s1.heap.objs.size=some (seqObj "list" vs.toArray 0):=Heap.get?_push_size _ rfl
 refine wpAny_bind (wpAny_holding (wpAny_call_entry slot_list_sort ⟨_,hoL,rfl⟩ entry_list_sort (pC hoL hl hS (λb o e=>⟨Nat.ne_of_lt (Heap.lt_size e),Heap.get?_push_of_some _ e⟩) λout a1 a2=>⟨_,rfl,?_⟩) (args_list_sort _)))
 obtain⟨ep,hat⟩:=sortedHeap_at (out:=out) hoL
 exact wpAny_pure ⟨_,rfl,q out _ ep a1 a2 (λb o e=>by
  rw[sortedHeap_old (Nat.ne_of_lt (Heap.lt_size e)) (by rw[size_push'];exact Nat.lt_succ_of_lt (Heap.lt_size e))]
  exact Heap.get?_push_of_some _ e) hat⟩
end
structure ItK where
 O:KeyOrd
 keyOf:Value->Option O.α
 dflt:O.α
 ty:String
 nt:(Value.type ty != Value.type "tuple")=true
 typ:∀ v a,keyOf v=some a->typeOf v=pure (.type ty)
 fst:∀ v a,keyOf v=some a->firstOfTuple' v=pure none
 eqB:∀ {prog:Program}{w:World}{A:Around}{E:Value->Shared->Prop}{s:Shared}{x y:Value}{a b:O.α}{Q:Bool->Shared->Prop},keyOf x=some a->keyOf y=some b->Q (!O.blt a b&&!O.blt b a) s->wpAny (model prog w) A (eqBool x y) Q E s
 lt:∀ {prog:Program}{w:World}{A:Around}{E:Value->Shared->Prop}{s:Shared}{x y:Value}{a b:O.α}{Q:Bool->Shared->Prop}(o:Bool),keyOf x=some a->keyOf y=some b->Q (O.blt a b) s->wpAny (model prog w) A (oneLt' o x y) Q E s
def pL:KeyOrd where
 α:=Int
 blt a b:=decide (a<b)
 irrefl a:=by simp
 trans a b c h1 h2:=by simp only[decide_eq_true_eq] at *;omega
 negTrans a b c h:=by simp only[decide_eq_true_eq] at *;omega
 total a b h1 h2:=by simp only[decide_eq_false_iff_not] at *;omega
theorem xI (i j:Int):(i==j)=(!decide (i<j)&&!decide (j<i)):=by
 by_cases e1:i=j
 ·subst e1;simp
 ·have:i<j∨j<i:=by omega
  rcases this with h1 |h1<;>simp[e1,h1]
theorem wY (i j:Str):decide (i=j)=(!decide (i.cps.toList<j.cps.toList)&&!decide (j.cps.toList<i.cps.toList)):=by
 by_cases e1:i=j
 ·subst e1
  have:=List.lt_irrefl i.cps.toList
  simp[this]
 ·have ne:i.cps.toList≠j.cps.toList:=λz=>e1 (by
   cases i;cases j
   have:=Array.toList_inj.mp z
   simp only at this
   rw[this])
  rw[decide_eq_false e1]
  by_cases h1:i.cps.toList<j.cps.toList
  ·simp[h1]
  ·by_cases h2:j.cps.toList<i.cps.toList
   ·simp[h2]
   ·exact absurd (List.le_antisymm (List.not_lt.mp h2) (List.not_lt.mp h1)) ne
def AI (v:Value):Option Int:=match v with | .int i _=>some i |_=>none
def AH (v:Value):Option (List Nat):=match v with | .str x _=>some x.cps.toList |_=>none
theorem gC {v:Value}{i:Int}(h:AI v=some i):∃ t,v = .int i t:=by
 cases v<;>first |(cases h;done) |skip
 cases h;exact⟨_,rfl⟩
theorem gz {v:Value}{i:List Nat}(h:AH v=some i):∃ x t,v = .str x t/\i=x.cps.toList:=by
 cases v<;>first |(cases h;done) |skip
 cases h;exact⟨_,_,rfl,rfl⟩
def intIt:ItK where
 O:=pL
 keyOf:=AI
 dflt:=(0:Int)
 ty:="int"
 nt:=by decide
 typ v a h:=by obtain⟨t,rfl⟩:=gC h;rfl
 fst v a h:=by obtain⟨t,rfl⟩:=gC h;rfl
 eqB {prog w A E s x y a b Q} ha hb h:=by
  obtain⟨t,rfl⟩:=gC ha
  obtain⟨u,rfl⟩:=gC hb
  exact wpAny_eqBool_int (Eq.mpr (congrArg (λz=>Q z s) (xI a b)) h)
 lt {prog w A E s x y a b Q} o ha hb h:=by
  obtain⟨t,rfl⟩:=gC ha
  obtain⟨u,rfl⟩:=gC hb
  cases o with
  |true=>exact oneLt_int h
  |false =>
   rw[oneLt'_eq]
   simp only[Bool.false_eq_true,if_false]
   exact wpAny_bind (show wpAny _ _ (compareOp .Lt (.int _ t) (.int _ u)) _ _ _ from PyProof.Rows.lt_int (wpAny_truthy_bool h))
def strIt:ItK where
 O:=PyProof.Rows.strKind.toKeyOrd
 keyOf:=AH
 dflt:=([]:List Nat)
 ty:="str"
 nt:=by decide
 typ v a h:=by obtain⟨x,t,rfl,_⟩:=gz h;rfl
 fst v a h:=by obtain⟨x,t,rfl,_⟩:=gz h;rfl
 eqB {prog w A E s x y a b Q} ha hb h:=by
  obtain⟨x',t,rfl,rfl⟩:=gz ha
  obtain⟨y',u,rfl,rfl⟩:=gz hb
  exact wpAny_eqBool_str (by rw[wY];exact h)
 lt {prog w A E s x y a b Q} o ha hb h:=by
  obtain⟨x',t,rfl,rfl⟩:=gz ha
  obtain⟨y',u,rfl,rfl⟩:=gz hb
  cases o with
  |true=>exact oneLt_str h
  |false =>
   rw[oneLt'_eq]
   simp only[Bool.false_eq_true,if_false]
   exact wpAny_bind (show wpAny _ _ (compareOp .Lt (.str x' t) (.str y' u)) _ _ _ from PyProof.Rows.lt_str (wpAny_truthy_bool h))
def cO (O:KeyOrd):List O.α->List O.α->Bool
 |[],[]=>false
 |[],_::_=>true
 |_::_,[]=>false
 |a::as,b::bs=>if (!O.blt a b&&!O.blt b a)=true then cO O as bs else O.blt a b
theorem mV {O:KeyOrd}{a b:O.α}(h:(!O.blt a b&&!O.blt b a)=true):a=b:=by
 rw[Bool.and_eq_true] at h
 exact O.total _ _ (by simpa using h.1) (by simpa using h.2)
theorem o9 {O:KeyOrd}(a:O.α):(!O.blt a a&&!O.blt a a)=true:=by rw[O.irrefl];rfl
theorem bZ {O:KeyOrd}(a:O.α)(as bs:List O.α):cO O (a::as) (a::bs)=cO O as bs:=by rw[cO,if_pos (o9 a)]
theorem bu {O:KeyOrd}{a b:O.α}(as bs:List O.α)(h:a≠b):cO O (a::as) (b::bs)=O.blt a b:=by rw[cO,if_neg (λz=>h (mV z))]
theorem uo {O:KeyOrd}{a b:O.α}(h:O.blt a b=true):a≠b:=λz=>by subst z;rw[O.irrefl] at h;cases h
def pD (O:KeyOrd):KeyOrd where
 α:=List O.α
 blt:=cO O
 irrefl a:=by
  induction a with
  |nil=>rfl
  |cons x a ih=>rw[bZ];exact ih
 trans a:=by
  induction a with
  |nil =>
   intro b c h1 h2
   cases b with
   |nil=>cases h1
   |cons y b=>cases c with
    |nil=>cases h2
    |cons z c=>rfl
  |cons x a ih =>
   intro b c h1 h2
   cases b with
   |nil=>cases h1
   |cons y b=>cases c with
    |nil=>cases h2
    |cons z c =>
     by_cases e1:x=y
     ·subst e1
      rw[bZ] at h1
      by_cases e2:x=z
      ·subst e2
       rw[bZ] at h2 ⊢
       exact ih b c h1 h2
      ·rw[bu _ _ e2] at h2 ⊢;exact h2
     ·rw[bu _ _ e1] at h1
      by_cases e2:y=z
      ·subst e2
       rw[bu _ _ e1];exact h1
      ·rw[bu _ _ e2] at h2
       have h3:=O.trans _ _ _ h1 h2
       rw[bu _ _ (uo h3)];exact h3
 negTrans a:=by
  induction a with
  |nil =>
   intro b c h
   cases c with
   |nil=>cases h
   |cons z c=>cases b with
    |nil=>exact .inr rfl
    |cons y b=>exact .inl rfl
  |cons x a ih =>
   intro b c h
   cases c with
   |nil=>cases h
   |cons z c=>cases b with
    |nil=>exact .inr rfl
    |cons y b =>
     by_cases e1:x=z
     ·subst e1
      rw[bZ] at h
      by_cases e2:x=y
      ·subst e2
       rw[bZ,bZ]
       exact ih b c h
      ·rw[bu _ _ e2,bu _ _ (Ne.symm e2)]
       cases h1:O.blt x y with
       |true=>exact .inl rfl
       |false=>cases h2:O.blt y x with
        |true=>exact .inr rfl
        |false=>exact absurd (O.total _ _ h1 h2) e2
     ·rw[bu _ _ e1] at h
      by_cases e2:x=y
      ·subst e2
       rw[bu _ _ e1];exact .inr h
      ·by_cases e3:y=z
       ·subst e3
        rw[bu _ _ e2];exact .inl h
       ·rw[bu _ _ e2,bu _ _ e3]
        exact O.negTrans _ _ _ h
 total a:=by
  induction a with
  |nil =>
   intro b h1 h2
   cases b with
   |nil=>rfl
   |cons y b=>cases h1
  |cons x a ih =>
   intro b h1 h2
   cases b with
   |nil=>cases h2
   |cons y b =>
    by_cases e:x=y
    ·subst e
     rw[bZ] at h1 h2
     rw[ih b h1 h2]
    ·rw[bu _ _ e] at h1
     rw[bu _ _ (Ne.symm e)] at h2
     exact absurd (O.total _ _ h1 h2) e
inductive KeysAre (κ:ItK):List Value->List κ.O.α->Prop
 |nil:KeysAre κ [] []
 |cons {v:Value}{a : κ.O.α}{vs:List Value}{as:List κ.O.α} : κ.keyOf v=some a->KeysAre κ vs as->KeysAre κ (v::vs) (a::as)
def TupK (κ:ItK)(h:Heap)(v:Value)(as:List κ.O.α):Prop:=∃ a o its n,v = .ref a/\h.get? a=some o/\o.cls = .type "tuple"/\o.data = .seq its n/\KeysAre κ its.toList as
theorem TupK.keeps {κ:ItK}{h h':Heap}{v:Value}{as:List κ.O.α}(t:TupK κ h v as)(k:∀ b o,h.get? b=some o->h'.get? b=some o):TupK κ h' v as:=by
 obtain⟨a,o,its,n,e,ho,hc,hd,hK⟩:=t
 exact⟨a,o,its,n,e,k _ _ ho,hc,hd,hK⟩
section
variable {prog:Program}{w:World}{A:Around}{E:Value->Shared->Prop}{s:Shared}{κ:ItK}
theorem nw {f:Bool}{x y:Value}{as bs:List κ.O.α}{Q:Bool->Shared->Prop}(hx:TupK κ s.heap x as)(hy:TupK κ s.heap y bs)(q:Q (cO κ.O as bs) s):wpAny (model prog w) A (keyLt' (tuples' f) x y) Q E s:=by
 obtain⟨a,o,xs,n,rfl,ho,hc,hd,hK⟩:=hx
 obtain⟨b,o2,ys,n2,rfl,ho2,hc2,hd2,hK2⟩:=hy
 refine wpAny_bind (listItems_at ho hd ?_)
 refine wpAny_bind (listItems_at ho2 hd2 ?_)
 refine wpAny_bind ?_
 refine wpAny_forIn_list _ (λrest r s'=>r.1=none/\s'=s/\∃ k xs' ys' as' bs',rest=(List.zip xs' ys').zipIdx k/\KeysAre κ xs' as'/\KeysAre κ ys' bs'/\cO κ.O as' bs'=cO κ.O as bs/\decide (xs'.length<ys'.length)=decide (xs.size<ys.size)) _ ?_ ?_ _ _ ⟨rfl,rfl,0,xs.toList,ys.toList,as,bs,rfl,hK,hK2,rfl,by simp⟩
 ·rintro⟨⟨u,v⟩,i⟩ rest r s' ⟨hr,rfl,k,xs',ys',as',bs',hz,h1,h2,hl,hlen⟩
  cases h1 with
  |nil=>simp at hz
  | @cons u' a' xs'' as'' k1 h1' =>
   cases h2 with
   |nil=>simp at hz
   | @cons v' b' ys'' bs'' k2 h2' =>
    rw[List.zip_cons_cons,List.zipIdx_cons] at hz
    simp only[List.cons.injEq,Prod.mk.injEq] at hz
    obtain⟨⟨⟨rfl,rfl⟩,rfl⟩,rfl⟩:=hz
    refine wpAny_bind (κ.eqB k1 k2 ?_)
    by_cases e:a'=b'
    ·subst e
     rw[o9]
     simp only[Bool.not_true,Bool.false_eq_true,if_false]
     rw[bZ] at hl
     exact wpAny_pure ⟨rfl,rfl,i+1,xs'',ys'',as'',bs'',rfl,h1',h2',hl,by rw[← hlen];simp⟩
    ·have e0:(!κ.O.blt a' b'&&!κ.O.blt b' a')=false:=by
      cases hb:(!κ.O.blt a' b'&&!κ.O.blt b' a') with
      |false=>rfl
      |true=>exact absurd (mV hb) e
     rw[e0]
     simp only[Bool.not_false,if_true]
     rw[bu _ _ e] at hl
     refine wpAny_bind (κ.lt _ k1 k2 ?_)
     rw[hl]
     exact wpAny_pure (wpAny_pure q)
 ·rintro⟨r1,r2⟩ s' ⟨hr,rfl,k,xs',ys',as',bs',hz,h1,h2,hl,hlen⟩
  simp only at hr
  subst hr
  refine wpAny_pure ?_
  show Q (decide (xs.size<ys.size)) s'
  rw[← hlen]
  have e:decide (xs'.length<ys'.length)=cO κ.O as' bs':=by
   cases h1 with
   |nil=>cases h2 with
    |nil=>rfl
    |cons _ _=>simp[cO]
   |cons _ _=>cases h2 with
    |nil=>simp[cO]
    |cons _ _=>simp at hz
  rw[e,hl]
  exact q
theorem pA:∀ {vs:List Value}{as:List κ.O.α},KeysAre κ vs as->vs.mapM firstOfTuple'=pure (vs.map λ_=>none)
 |_,_,.nil=>by simp
 |_,_,.cons h r=>by rw[List.mapM_cons,κ.fst _ _ h,pA r];simp
theorem pz:∀ {vs:List Value}{as:List κ.O.α},KeysAre κ vs as->vs.mapM typeOf=pure (vs.map λ_=>Value.type κ.ty)
 |_,_,.nil=>by simp
 |_,_,.cons h r=>by rw[List.mapM_cons,κ.typ _ _ h,pz r];simp
theorem yn {vs:List Value}{as:List κ.O.α}(h:KeysAre κ vs as)(h0 : 0<vs.length):oneTypeOnly' vs.toArray=pure (some (.type κ.ty)):=by
 rw[oneTypeOnly'_eq,List.mapM_toArray,pz h]
 simp only[map_pure,pure_bind]
 have hall:((List.map (λ_=>Value.type κ.ty) vs).toArray.all λx=>x==Value.type κ.ty)=true:=by
  simp only[List.all_toArray,List.all_map,List.all_eq_true]
  intro _ _
  simp
 have h0':(List.map (λ_=>Value.type κ.ty) vs).toArray[0]?=some (Value.type κ.ty):=by
  cases vs with
  |nil=>simp at h0
  |cons v vs=>simp
 rw[h0']
 simp only[hall,if_true]
theorem rf {vs:List Value}{as:List κ.O.α}(h:KeysAre κ vs as)(h0 : 0<vs.length):keyKind' vs.toArray=pure oneType':=by
 rw[keyKind'_eq,List.mapM_toArray,pA h]
 simp only[map_pure,pure_bind]
 obtain⟨v,vr,rfl⟩:∃ v vr,vs=v::vr:=by
  cases vs with
  |nil=>simp at h0
  |cons v vs=>exact⟨v,vs,rfl⟩
 rw[if_neg (by simp),if_neg (by simp),yn h h0]
 rfl
theorem KeysAre.mem {vs:List Value}{as:List κ.O.α}(h:KeysAre κ vs as){v:Value}(hv:v∈vs):∃ a,κ.keyOf v=some a:=by
 induction h with
 |nil=>simp at hv
 |cons k _ ih =>
  rcases List.mem_cons.mp hv with e |hv
  ·subst e;exact⟨_,k⟩
  ·exact ih hv
theorem ir {s1:Shared}{vs:List Value}{as:List κ.O.α}(h:KeysAre κ vs as):oo prog w s1 vs κ.O (λv=>(κ.keyOf v).getD κ.dflt):=by
 refine⟨oneType',λA E s6 k=>⟨λh2 Q' q=>?_,λx y gx gy st Q hk q=>?_⟩⟩
 ·rw[rf h (by omega)]
  exact wpAny_pure q
 ·obtain⟨a,ea⟩:=h.mem gx
  obtain⟨b,eb⟩:=h.mem gy
  dsimp only at q
  rw[ea,eb] at q
  rw[lt'_eq]
  refine wpS_bind (wpS_get ?_)
  rw[hk,keyLt'_oneType]
  exact wpS_bind (wpS_lift (wpAny_attempt (κ.lt true ea eb ⟨rfl,wpS_pure q⟩)))
inductive TupsAre (κ:ItK) (h:Heap):List Value->List (List κ.O.α)->Prop
 |nil:TupsAre κ h [] []
 |cons {v:Value}{a : κ.O.α}{as:List κ.O.α}{vs:List Value}{ass:List (List κ.O.α)}:TupK κ h v (a::as)->TupsAre κ h vs ass->TupsAre κ h (v::vs) ((a::as)::ass)
theorem TupsAre.keeps {h h':Heap}{vs:List Value}{ass:List (List κ.O.α)}(t:TupsAre κ h vs ass)(k:∀ b o,h.get? b=some o->h'.get? b=some o):TupsAre κ h' vs ass:=by
 induction t with
 |nil=>exact .nil
 |cons q _ ih=>exact .cons (q.keeps k) ih
theorem TupsAre.mem {h:Heap}{vs:List Value}{ass:List (List κ.O.α)}(t:TupsAre κ h vs ass){v:Value}(hv:v∈vs):∃ as,TupK κ h v as:=by
 induction t with
 |nil=>simp at hv
 |cons q _ ih =>
  rcases List.mem_cons.mp hv with e |hv
  ·subst e;exact⟨_,q⟩
  ·exact ih hv
theorem uI {v:Value}{a : κ.O.α}{as:List κ.O.α}{Q:Option Value->Shared->Prop}(t:TupK κ s.heap v (a::as))(q:∀ u,κ.keyOf u=some a->Q (some u) s):wpAny (model prog w) A (firstOfTuple' v) Q E s:=by
 obtain⟨b,o,its,n,rfl,ho,hc,hd,hK⟩:=t
 generalize hl:its.toList=l at hK
 cases hK with
 | @cons u _ us _ k r =>
  refine wpAny_bind (wpAny_typeOf ⟨o,ho,hc⟩ ?_)
  rw[if_neg (by decide)]
  refine wpAny_bind (listItems_at ho hd (wpAny_pure ?_))
  have e:its[0]?=some u:=by rw[← Array.getElem?_toList,hl];rfl
  rw[e]
  exact q u k
theorem ux {vs:List Value}{ass:List (List κ.O.α)}(t:TupsAre κ s.heap vs ass):∀ {Q:List (Option Value)->Shared->Prop},(∀ us as,KeysAre κ us as->us.length=vs.length->Q (us.map some) s)->wpAny (model prog w) A (vs.mapM firstOfTuple') Q E s:=by
 induction t with
 |nil=>intro Q q;exact wpAny_pure (q [] [] .nil rfl)
 |cons h _ ih =>
  intro Q q
  rw[List.mapM_cons]
  refine wpAny_bind (uI h λu ku=>wpAny_bind (ih λus as hK hl=>wpAny_pure ?_))
  exact q (u::us) (_::as) (.cons ku hK) (by simp[hl])
theorem filterMap_some:∀ (us:List Value),((us.map some).toArray.filterMap id)=us.toArray:=by
 intro us
 rw[List.filterMap_toArray]
 congr 1
 induction us with
 |nil=>rfl
 |cons u us ih=>simp[ih]
theorem uB {vs:List Value}{ass:List (List κ.O.α)}(t:TupsAre κ s.heap vs ass)(h0 : 0<vs.length){Q:SortKind->Shared->Prop}(q:Q (tuples' true) s):wpAny (model prog w) A (keyKind' vs.toArray) Q E s:=by
 rw[keyKind'_eq,List.mapM_toArray]
 refine wpAny_bind (wpAny_bind (ux t λus as hK hl=>wpAny_pure ?_))
 have e:((us.map some).toArray.all λx=>x.isSome)=true:=by simp
 show wpAny _ _ (if ((us.map some).toArray.all λx=>x.isSome)=true then _ else _) _ _ _
 rw[if_pos e]
 refine wpAny_bind (wpAny_rule ?_)
 rw[filterMap_some,yn hK (by omega)]
 refine wpAny_bind (wpAny_pure (wpAny_pure ?_))
 show Q (tuples' (Value.type κ.ty != Value.type "tuple")) s
 rw[κ.nt]
 exact q
def kfT (κ:ItK)(h:Heap)(v:Value):List κ.O.α:=match v with
 | .ref a=>(match h.get? a with
  |some o=>(match o.data with
   | .seq its _=>its.toList.map λu=>(κ.keyOf u).getD κ.dflt
   |_=>[])
  |none=>[])
 |_=>[]
theorem KeysAre.map_key {vs:List Value}{as:List κ.O.α}(h:KeysAre κ vs as):vs.map (λu=>(κ.keyOf u).getD κ.dflt)=as:=by
 induction h with
 |nil=>rfl
 |cons k _ ih=>rw[List.map_cons,k,ih];rfl
theorem rg {h:Heap}{v:Value}{as:List κ.O.α}(t:TupK κ h v as):kfT κ h v=as:=by
 obtain⟨b,o,its,n,rfl,ho,hc,hd,hK⟩:=t
 unfold kfT
 dsimp only
 rw[ho]
 dsimp only
 rw[hd]
 exact hK.map_key
theorem oT {s1:Shared}{vs:List Value}{ass:List (List κ.O.α)}(t:TupsAre κ s1.heap vs ass):oo prog w s1 vs (pD κ.O) (kfT κ s1.heap):=by
 refine⟨tuples' true,λA E s6 k=>⟨λh2 Q' q=>uB (t.keeps k) (by omega) q,λx y gx gy st Q hk q=>?_⟩⟩
 obtain⟨as,ta⟩:=t.mem gx
 obtain⟨bs,tb⟩:=t.mem gy
 rw[rg ta,rg tb] at q
 rw[lt'_eq]
 refine wpS_bind (wpS_get ?_)
 rw[hk]
 exact wpS_bind (wpS_lift (wpAny_attempt (nw (ta.keeps k) (tb.keeps k) ⟨rfl,wpS_pure q⟩)))
end
end L2
namespace L2
open PySem PySem.Spec PyProof.Rows
abbrev Key:=Sum Int Str
def mK:Key->Value->Bool
 | .inl k,v=>Value.isInt k v
 | .inr x,v=>Value.isStrOf x v
def BF (w:World):Key->Int
 | .inl k=>hashInt k
 | .inr x=>hashStr w x
theorem aT:∀ {k:Key}{v:Value},mK k v=true->(∃ i t,k=Sum.inl i/\v=Value.int i t)∨(∃ x t,k=Sum.inr x/\v=Value.str x t)
 | .inl i,v,h=>by
  obtain⟨t,e⟩:=Value.isInt_shape (k:=i) (v:=v) h
  exact .inl ⟨i,t,rfl,e⟩
 | .inr x,v,h=>by
  obtain⟨t,e⟩:=Value.isStrOf_shape (x:=x) (v:=v) h
  exact .inr ⟨x,t,rfl,e⟩
theorem uD (i:Int)(t:Tok):mK (.inl i) (.int i t)=true:=by simp[mK,Value.isInt]
theorem uC (x:Str)(t:Tok):mK (.inr x) (.str x t)=true:=by simp[mK,Value.isStrOf]
theorem zy (a b:Int):decide ((Sum.inl a:Key)=Sum.inl b)=(a==b):=by
 by_cases e:a=b
 ·subst e;simp
 ·have h:¬ (Sum.inl a:Key)=Sum.inl b:=λq=>e (Sum.inl.inj q)
  rw[decide_eq_false h]
  exact (beq_eq_false_iff_ne.mpr e).symm
theorem zv (a b:Str):decide ((Sum.inr a:Key)=Sum.inr b)=decide (a=b):=by
 by_cases e:a=b
 ·subst e;simp
 ·have h:¬ (Sum.inr a:Key)=Sum.inr b:=λq=>e (Sum.inr.inj q)
  rw[decide_eq_false h,decide_eq_false e]
theorem zx (a:Int)(b:Str):decide ((Sum.inl a:Key)=Sum.inr b)=false:=decide_eq_false (λq=>nomatch q)
theorem zw (a:Str)(b:Int):decide ((Sum.inr a:Key)=Sum.inl b)=false:=decide_eq_false (λq=>nomatch q)
def bn (prog:Program)(w:World):PySem.KeyKind prog w Key where
 is:=mK
 hash:=BF w
 inj:=λv a b ha hb=>by
  rcases aT ha with ⟨i,t,rfl,rfl⟩ |⟨x,t,rfl,rfl⟩
  ·rcases aT hb with ⟨j,u,rfl,e⟩ |⟨y,u,rfl,e⟩
   ·injection e with e1 _;rw[e1]
   ·exact nomatch e
  ·rcases aT hb with ⟨j,u,rfl,e⟩ |⟨y,u,rfl,e⟩
   ·exact nomatch e
   ·injection e with e1 _;rw[e1]
 byValue:=λk v h=>by
  rcases aT h with ⟨i,t,rfl,rfl⟩ |⟨x,t,rfl,rfl⟩<;>rfl
 pyHash:=λhv h=>by
  rcases aT hv with ⟨i,t,rfl,rfl⟩ |⟨x,t,rfl,rfl⟩
  ·exact wpAny_pyHash_int h
  ·exact wpAny_pyHash_str h
 eqBool:=λhu hv h=>by
  rcases aT hu with ⟨i,t,rfl,rfl⟩ |⟨x,t,rfl,rfl⟩
  ·rcases aT hv with ⟨j,u,rfl,rfl⟩ |⟨y,u,rfl,rfl⟩
   ·rw[zy] at h;exact wpAny_eqBool_int h
   ·rw[zx] at h;exact SeqAt.EqAt.int_str i t y u _ _ _ _ h
  ·rcases aT hv with ⟨j,u,rfl,rfl⟩ |⟨y,u,rfl,rfl⟩
   ·rw[zw] at h;exact SeqAt.EqAt.str_int x t j u _ _ _ _ h
   ·rw[zv] at h;exact wpAny_eqBool_str h
 «strs»:=λk x t v h=>by
  rcases aT h with ⟨i,u,rfl,e⟩ |⟨y,u,rfl,e⟩
  ·exact nomatch e
  ·injection e with e1 _
   subst e1
   cases v<;>rfl
theorem pi (prog:Program)(w:World)(i:Int)(t:Tok):(bn prog w).is (.inl i) (.int i t)=true:=uD i t
theorem ph (prog:Program)(w:World)(x:Str)(t:Tok):(bn prog w).is (.inr x) (.str x t)=true:=uC x t
inductive V where
 |non |bl (b:Bool) |int (i:Int) |str (x:Str) |byt (b:Array UInt8) |flt (b:UInt64) |ref (a:Addr) |ty (n:String)
 deriving DecidableEq
def RelV:V->Value->Prop
 | .non,u=>u=Value.none
 | .bl b,u=>u=Value.bool b
 | .int i,u => ∃ t,u=Value.int i t
 | .str x,u => ∃ t,u=Value.str x t
 | .byt b,u => ∃ t,u=Value.bytes b t
 | .flt b,u => ∃ t,u=Value.float b t
 | .ref a,u=>u=Value.ref a
 | .ty n,u=>u=Value.type n
abbrev Vals:List V->List Value->Prop:=Paired RelV
theorem Vals.length {xs:List V}{us:List Value}(r:Vals xs us):xs.length=us.length:=Paired.length r
theorem Vals.get:∀ {xs:List V}{us:List Value}{i:Nat}{x:V},Vals xs us->xs[i]?=some x->∃ u,us[i]?=some u/\RelV x u
 |_,_,_,_,.nil,e=>by simp at e
 |_,_,0,_,.cons r _,e=>by simp at e;subst e;exact⟨_,rfl,r⟩
 |_,_,i+1,x,.cons _ t,e=>by
  obtain⟨u,h1,h2⟩:=Vals.get (i:=i) (x:=x) t (by simpa using e)
  exact⟨u,by simpa using h1,h2⟩
theorem Vals.set {x:V}{u:Value}(r:RelV x u):∀ {xs:List V}{us:List Value}(i:Nat),Vals xs us->Vals (xs.set i x) (us.set i u)
 |_,_,_,.nil => .nil
 |_,_,0,.cons _ t => .cons r t
 |_,_,i+1,.cons q t => .cons q (Vals.set r i t)
theorem Vals.append:∀ {xs ys:List V}{us ws:List Value},Vals xs us->Vals ys ws->Vals (xs++ys) (us++ws)
 |_,_,_,_,.nil,s=>s
 |_,_,_,_,.cons r t,s => .cons r (Vals.append t s)
theorem Vals.take:∀ {xs:List V}{us:List Value}(n:Nat),Vals xs us->Vals (xs.take n) (us.take n)
 |_,_,0,_ => .nil
 |_,_,_+1,.nil => .nil
 |_,_,n+1,.cons r t => .cons r (Vals.take n t)
theorem Vals.drop:∀ {xs:List V}{us:List Value}(n:Nat),Vals xs us->Vals (xs.drop n) (us.drop n)
 |_,_,0,r=>r
 |_,_,_+1,.nil => .nil
 |_,_,n+1,.cons _ t=>Vals.drop n t
def RelO:Option V->Option Value->Prop
 |some v,some u=>RelV v u
 |none,none=>True
 |_,_=>False
def KV {κ:Type}:List (κ×V)->List (κ×Value)->Prop:=Paired λ(p : κ×V) (q : κ×Value)=>p.1=q.1/\RelV p.2 q.2
def kV:Key->V
 | .inl i => .int i
 | .inr x => .str x
inductive HO where
 |lst (xs:List V)
 |tup (xs:List V)
 |dK (kvs:List (Key×V)) |dT (kvs:List (List Key×V)) |dN (kvs:List (PyData×Addr×V))
 |set (S:Int->Bool) (n:Nat)
 |ins (C dx:Addr) (fs:List (Str×V))
 |own (x:Addr)
 |xd (fs:List (Str×V))
 |met (f x:Addr)
 |rng (lo hi:Int)
 |frz (o:Obj) (u:HO)
 |tbl (ps:Array Value)
 |ext (φ:Heap->Prop)
abbrev Hp:=Addr->Option HO
noncomputable def upd (H:Hp) (a:Addr) (o:HO):Hp:=λb=>if b=a then some o else H b
theorem upd_same {H:Hp}{a:Addr}{o:HO}:upd H a o a=some o:=by unfold upd;rw[if_pos rfl]
theorem au {H:Hp}{a b:Addr}{o:HO}(h:b≠a):upd H a o b=H b:=by unfold upd;rw[if_neg h]
theorem AD {H:Hp}{a b:Addr}{o u:HO}(h:H a=some o)(h':H b=some u)(d:o≠u):a≠b:=by
 intro e;subst e;rw[h] at h';exact d (Option.some.inj h')
theorem aB {H:Hp}{a b:Addr}{o:HO}(h:H a=some o)(h':H b=none):a≠b:=by
 intro e;subst e;rw[h] at h';cases h'
def TupN (h:Heap)(a:Addr)(its:Array Value):Prop:=∃ n,h.get? a=some { cls:=.type "tuple",data:=.seq its n }
theorem TupN.tup {h:Heap}{a:Addr}{its:Array Value}(x:TupN h a its):IsTup h a its:=let ⟨n,e⟩:=x;⟨_,e,rfl,n,rfl⟩
theorem TupN.new (h:Heap)(its:Array Value):TupN (h.push { cls:=.type "tuple",data:=.seq its }) h.objs.size its:=⟨_,Heap.get?_push_size _ rfl⟩
section
variable (P:Program) (w:World)
def ObjOk (H:Hp)(h:Heap)(a:Addr):HO->Prop
 | .lst xs=>xs.length<=sizeLine/\∃ (its:List Value) (n:Nat),Vals xs its/\h.get? a=some { cls:=.type "list",data:=.seq its.toArray n }
 | .tup xs=>xs.length<=sizeLine/\∃ its:List Value,Vals xs its/\TupN h a its.toArray
 | .dK kvs=>kvs.length<=sizeLine/\(a==sysModules)=false/\∃ vs,KV kvs vs/\h.DictOf (bn P w) a vs
 | .dT kvs=>kvs.length<=sizeLine/\(a==sysModules)=false/\∃ xs:List (List Key×Addr×Value),
   Paired (λ(p:List Key×V) (q:List Key×Addr×Value)=>p.1=q.1/\H q.2.1=some (.tup (p.1.map kV))/\RelV p.2 q.2.2) kvs xs /\
   ∃ o es ep,h.get? a=some o/\o.ExactDict/\o.data = .dict es ep/\es.toList=xs.map (entryOfKey (tupleKind (bn P w)))/\(xs.map (·.1)).Nodup
 | .dN kvs=>kvs.length<=sizeLine/\(a==sysModules)=false/\∃ xs:List (PyData×Addr×Value),Paired (λp q=>p.1=q.1/\p.2.1=q.2.1/\RelV p.2.2 q.2.2) kvs xs /\
   ∃ o es ep,h.get? a=some o/\o.ExactDict/\o.data = .dict es ep/\es.toList=xs.map (entryOfKey (iQ P w))/\(xs.map (·.1)).Nodup
 | .set S n=>h.SetOf (intKind P w) a S n
 | .ins C dx fs=>H dx=some (.own a)/\fs.length<=1000/\dx≠a/\h.get? a=some (PySem.W.instObj C dx) /\
   ∃ mA,h.Ns1 dx mA/\(∀ f,RelO (fs.lookup f) (mA f))/\PySem.Within mA (fs.map (·.1))
 | .own _ => ∃ o,h.get? a=some o
 | .xd fs => ∃ mA,h.Ns1 a mA/\∀ f,RelO (fs.lookup f) (mA f)
 | .rng lo hi => ∃ t u v,h.get? a=some { cls:=.type "range",data:=.fields #[.int lo t,.int hi u,.int 1 v] }
 | .frz o u=>h.get? a=some o/\ObjOk H h a u
 | .tbl ps=>h.get? a=some { cls:=.none,data:=.fields ps }
 | .met f x=>h.get? a=some (PySem.W.methodObj (.ref f) (.ref x))
 | .ext φ => φ h/\(∃ o,h.get? a=some o)/\∀ h1 h2:Heap,φ h1->(∀ o,h1.get? a=some o->h2.get? a=some o)->φ h2
def HOk (H:Hp)(h:Heap):Prop:=∀ a o,H a=some o->ObjOk P w H h a o
end
section
variable {P:Program}{w:World}{H H':Hp}{h h':Heap}{a:Addr}{o:HO}
theorem ObjOk.lt (x:ObjOk P w H h a o):a<h.objs.size:=by
 cases o with
 |lst xs=>obtain⟨_,_,_,_,e⟩:=x;exact Heap.lt_size e
 |tup xs=>obtain⟨_,_,_,_,e⟩:=x;exact Heap.lt_size e
 |dK kvs=>obtain⟨_,_,_,_,o,_,_,e,_⟩:=x;exact Heap.lt_size e
 |dT kvs=>obtain⟨_,_,_,_,o,_,_,e,_⟩:=x;exact Heap.lt_size e
 |dN kvs=>obtain⟨_,_,_,_,o,_,_,e,_⟩:=x;exact Heap.lt_size e
 |set S n=>obtain⟨o,_,_,_,e,_⟩:=x;exact Heap.lt_size e
 |ins C dx fs=>obtain⟨_,_,_,e,_⟩:=x;exact Heap.lt_size e
 |own y=>obtain⟨_,e⟩:=x;exact Heap.lt_size e
 |xd fs=>obtain⟨_,⟨_,_,_,e,_⟩,_⟩:=x;exact Heap.lt_size e
 |rng lo hi=>obtain⟨_,_,_,e⟩:=x;exact Heap.lt_size e
 |frz ob u=>obtain⟨e,_⟩:=x;exact Heap.lt_size e
 |tbl ps=>exact Heap.lt_size (show h.get? a=some _ from x)
 |met f y=>exact Heap.lt_size (show h.get? a=some _ from x)
 |ext φ=>obtain⟨_,⟨_,e⟩,_⟩:=x;exact Heap.lt_size e
theorem Paired.mapP {α β:Type}{F G : α->β->Prop}:∀ {l₁:List α}{l₂:List β},Paired F l₁ l₂->(∀ a b,F a b->G a b)->Paired G l₁ l₂
 |_,_,.nil,_ => .nil
 |_,_,.cons r t,f => .cons (f _ _ r) (Paired.mapP t f)
theorem ObjOk.stay (x:ObjOk P w H h a o)(k:∀ b u,(b=a∨H b=some (.own a))->h.get? b=some u->h'.get? b=some u)
  (ho:∀ b,H b=some (.own a)->H' b=some (.own a)) (ht:∀ b xs,H b=some (.tup xs)->H' b=some (.tup xs)):ObjOk P w H' h' a o:=by
 induction o with
 |lst xs=>obtain⟨z,its,n,r,e⟩:=x;exact⟨z,its,n,r,k _ _ (.inl rfl) e⟩
 |tup xs=>obtain⟨z,its,r,n,e⟩:=x;exact⟨z,its,r,n,k _ _ (.inl rfl) e⟩
 |dK kvs=>obtain⟨z,y,vs,r,ob,es,ep,e,c⟩:=x;exact⟨z,y,vs,r,ob,es,ep,k _ _ (.inl rfl) e,c⟩
 |dT kvs =>
  obtain⟨z,y,xs,r,ob,es,ep,e,c⟩:=x
  exact⟨z,y,xs,Paired.mapP r λp q z=>⟨z.1,ht _ _ z.2.1,z.2.2⟩,ob,es,ep,k _ _ (.inl rfl) e,c⟩
 |dN kvs=>obtain⟨z,y,xs,r,ob,es,ep,e,c⟩:=x;exact⟨z,y,xs,r,ob,es,ep,k _ _ (.inl rfl) e,c⟩
 |set S n=>obtain⟨ob,es,ep,t,e,c⟩:=x;exact⟨ob,es,ep,t,k _ _ (.inl rfl) e,c⟩
 |ins C dx fs =>
  obtain⟨d,z,ne,e,mA,⟨od,es,ep,e2,c⟩,r⟩:=x
  exact⟨ho _ d,z,ne,k _ _ (.inl rfl) e,mA,⟨od,es,ep,k _ _ (.inr d) e2,c⟩,r⟩
 |own y=>obtain⟨ob,e⟩:=x;exact⟨ob,k _ _ (.inl rfl) e⟩
 |xd fs=>obtain⟨mA,⟨od,es,ep,e,c⟩,r⟩:=x;exact⟨mA,⟨od,es,ep,k _ _ (.inl rfl) e,c⟩,r⟩
 |rng lo hi=>obtain⟨t,u,v,e⟩:=x;exact⟨t,u,v,k _ _ (.inl rfl) e⟩
 |frz ob u ih=>obtain⟨e,q⟩:=x;exact⟨k _ _ (.inl rfl) e,ih q⟩
 |tbl ps =>
  have e:h.get? a=some { cls:=.none,data:=.fields ps }:=x
  show h'.get? a=some { cls:=.none,data:=.fields ps }
  exact k a _ (.inl rfl) e
 |met f y =>
  have e:h.get? a=some (PySem.W.methodObj (.ref f) (.ref y)):=x
  show h'.get? a=some (PySem.W.methodObj (.ref f) (.ref y))
  exact k a _ (.inl rfl) e
 |ext φ=>obtain⟨p,⟨o,e⟩,st⟩:=x;exact⟨st _ _ p λo q=>k _ _ (.inl rfl) q,⟨o,k _ _ (.inl rfl) e⟩,st⟩
theorem HOk.lt (x:HOk P w H h)(e:H a=some o):a<h.objs.size:=(x a o e).lt
theorem HOk.fresh (x:HOk P w H h)(e:h.objs.size<=a):H a=none:=by
 cases q:H a with
 |none=>rfl
 |some u=>exact absurd (Nat.lt_of_lt_of_le (x.lt q) e) (Nat.lt_irrefl _)
theorem HOk.kept (x:HOk P w H h)(k:∀ b u,h.get? b=some u->h'.get? b=some u):HOk P w H h':=λa o e =>
 (x a o e).stay (λb u _ q=>k b u q) (λ_ q=>q) λ_ _ q=>q
theorem HOk.laid (x:HOk P w H h)(k:∀ b u,h.get? b=some u->h'.get? b=some u)(hp:h.objs.size<=a)(new:ObjOk P w (upd H a o) h' a o):HOk P w (upd H a o) h':=λb u e=>by
 have hn:=x.fresh hp
 by_cases hb:b=a
 ·subst hb;rw[upd_same] at e;cases e;exact new
 ·rw[au hb] at e
  exact (x b u e).stay (λc v _ q=>k c v q) (λc q=>by rw[au (aB q hn)];exact q) λc xs q=>by rw[au (aB q hn)];exact q
end
def Rd (H:Hp)(a:Addr)(u:HO):Prop:=H a=some u∨∃ o,H a=some (.frz o u)
theorem Rd.ok {P:Program}{w:World}{H:Hp}{h:Heap}{a:Addr}{u:HO}(r:Rd H a u)(x:HOk P w H h):ObjOk P w H h a u:=by
 rcases r with r |⟨o,r⟩
 ·exact x a u r
 ·obtain⟨_,q⟩:=x a _ r
  exact q
def Mut:Option HO->Prop
 |some (.lst _)=>True
 |some (.dK _)=>True
 |some (.dT _)=>True
 |some (.dN _)=>True
 |some (.set _ _)=>True
 |some (.ins _ _ _)=>True
 |some (.ext _)=>True
 |_=>False
section
variable {P:Program}{w:World}{H:Hp}{h h':Heap}{x e:Addr}{o':HO}
theorem HOk.write (ok:HOk P w H h)(mu:Mut (H x))(he:e=x∨H e=some (.own x))(k:∀ b u,b≠e->h.get? b=some u->h'.get? b=some u)(heo:∃ u,h'.get? e=some u)
  (new:ObjOk P w (upd H x o') h' x o'):HOk P w (upd H x o') h':=λb u q=>by
 have nown:∀ c y,H c=some (.own y)->c≠x:=λc y r z=>by subst z;rw[r] at mu;exact mu
 have ntup:∀ c xs,H c=some (.tup xs)->c≠x:=λc xs r z=>by subst z;rw[r] at mu;exact mu
 by_cases hb:b=x
 ·subst hb;rw[upd_same] at q;cases q;exact new
 ·rw[au hb] at q
  by_cases hbe:b=e
  ·have q':H b=some (.own x):=by
    rcases he with z |z
    ·exact absurd (hbe.trans z) hb
    ·rw[hbe];exact z
   rw[q] at q';cases q'
   obtain⟨v,hv⟩:=heo
   exact⟨v,by rw[hbe];exact hv⟩
  ·refine (ok b u q).stay (λc v hc r=>k c v ?_ r) (λc r=>by rw[au (nown c b r)];exact r) λc xs r=>by rw[au (ntup c xs r)];exact r
   rcases hc with rfl |hc
   ·exact hbe
   ·rintro rfl
    rcases he with z |z
    ·exact nown c b hc z
    ·rw[hc] at z;cases z;exact hb rfl
end
structure Un (fs ex:List Addr) (H H':Hp) (h h':Heap):Prop where
 keep:∀ b o,h.get? b=some o->H b=none->b∉fs->b∉ex->h'.get? b=some o
 slot:∀ b o,h.get? b=some o->H b=none->b∈fs->b∉ex->∃ sl,h'.get? b=some { o with slots:=sl }
 free:∀ b o,h.get? b=some o->H b=none->b∉ex->H' b=none
 there:∀ b o,h.get? b=some o->b∉ex->∃ o',h'.get? b=some o'
 tups:∀ b xs,H b=some (.tup xs)->H' b=some (.tup xs)
 frzs:∀ b o u,H b=some (.frz o u)->H' b=some (.frz o u)
 tbls:∀ b ps,H b=some (.tbl ps)->∃ more,H' b=some (.tbl (ps++more))
section
variable {fs fs' ex ex':List Addr}{H H1 H2:Hp}{h h1 h2 h':Heap}{a x e:Addr}{o:HO}
theorem Un.any (u:Un fs ex H H1 h h1){b:Addr}{ob:Obj}(q:h.get? b=some ob)(n:H b=none)(hx:b∉ex):∃ sl,h1.get? b=some { ob with slots:=sl }:=by
 by_cases hb:b∈fs
 ·exact u.slot b ob q n hb hx
 ·exact⟨ob.slots,u.keep b ob q n hb hx⟩
theorem Un.kept (k:∀ b u,h.get? b=some u->h'.get? b=some u):Un fs ex H H h h':=
 ⟨λb ob q _ _ _=>k b ob q,λb ob q _ _ _=>⟨ob.slots,k b ob q⟩,λ_ _ _ n _=>n,λb ob q _=>⟨ob,k b ob q⟩,λ_ _ q=>q,λ_ _ _ q=>q,λ_ ps q=>⟨#[],by rw[q];simp⟩⟩
theorem Un.refl:Un fs ex H H h h:=Un.kept λ_ _ q=>q
theorem Un.laid (k:∀ b u,h.get? b=some u->h'.get? b=some u)(hp:h.objs.size<=a)(hn:H a=none):Un fs ex H (upd H a o) h h' where
 keep:=λb u q _ _ _=>k b u q
 slot:=λb u q _ _ _=>⟨u.slots,k b u q⟩
 free:=λb u q n _=>by rw[au (Nat.ne_of_lt (Nat.lt_of_lt_of_le (Heap.lt_size q) hp))];exact n
 there:=λb u q _=>⟨u,k b u q⟩
 tups:=λb xs q=>by rw[au (aB q hn)];exact q
 frzs:=λb u xs q=>by rw[au (aB q hn)];exact q
 tbls:=λb ps q=>⟨#[],by rw[au (aB q hn),q];simp⟩
theorem Un.write (mu:Mut (H x))(he:e=x∨H e=some (.own x))(k:∀ b u,b≠e->h.get? b=some u->h'.get? b=some u)(heo:∃ u,h'.get? e=some u):Un fs ex H (upd H x o) h h':=by
 have hx:∀ b,H b=none->b≠x:=λb n z=>by subst z;rw[n] at mu;exact mu
 have hb:∀ b,H b=none->b≠e:=λb n z=>by
  subst z
  rcases he with r |r
  ·exact hx b n r
  ·rw[n] at r;cases r
 have hm:∀ b u,H b=some u->¬ Mut (some u)->b≠x:=λb u q nm z=>by subst z;rw[q] at mu;exact nm mu
 refine⟨λb u q n _ _=>k b u (hb b n) q,λb u q n _ _=>⟨u.slots,k b u (hb b n) q⟩,λb u q n _=>by rw[au (hx b n)];exact n,λb u q _=>?_,
  λb xs q=>by rw[au (hm b _ q λz=>z)];exact q,λb u xs q=>by rw[au (hm b _ q λz=>z)];exact q,λb ps q=>⟨#[],by rw[au (hm b _ q λz=>z),q];simp⟩⟩
 by_cases hbe:b=e
 ·subst hbe;exact heo
 ·exact⟨u,k b u hbe q⟩
end
def trk (h:Heap)(H:Hp):List Addr:=(List.range h.objs.size).filter λa=>(H a).isSome
def nZ (h:Heap)(H:Hp):Heap:=PySem.W.hideAll h (trk h H)
theorem uF (h:Heap)(H:Hp):(nZ h H).objs.size=h.objs.size:=PySem.W.hideAll_size _ _
theorem v7 {h:Heap}{H:Hp}{b:Addr}{o:Obj}(e:h.get? b=some o)(n:H b=none):(nZ h H).get? b=some o:=
 PySem.W.hideAll_get _ e λhm=>by
  have q:(H b).isSome=true:=(List.mem_filter.mp hm).2
  rw[n] at q;simp at q
theorem xz {h:Heap}{H:Hp}{b:Addr}{o:Obj}(e:(nZ h H).get? b=some o):h.get? b=some o/\H b=none:=by
 have e':h.get? b=some o:=PySem.W.of_hideAll (trk h H) e
 refine⟨e',?_⟩
 cases q:H b with
 |none=>rfl
 |some x =>
  have hm:b∈trk h H:=List.mem_filter.mpr ⟨List.mem_range.mpr (Heap.lt_size e'),by simp[q]⟩
  have z:(nZ h H).get? b=none:=PySem.W.hideAll_none (trk h H) hm
  rw[z] at e;cases e
def ya (g h:Heap)(L:Addr):List (Addr×Obj):=(List.range h.objs.size).filterMap λa=>if a=L∨(g.get? a).isSome=true then none else (h.get? a).map λo=>(a,o)
def rest (g h:Heap)(L d:Addr):List (Addr×Obj):=(ya g h L).filter λp=>decide (p.1≠d)
structure Mod (K:PySem.W.Frag) (mg:Str->Option Value) (base:Heap):Prop where
 kin:K.In base
 glob:base.Ns mainGlobals mg
 blt:∃ mb,base.Ns builtinsNs mb/\∀ x:Str,x≠"__name__"->mb x=bootBuiltins x
 nolimit:base.NoLimit
structure Cx where
 prog:Program
 w:World
 K:PySem.W.Frag
 mg:Str->Option Value
 base:Heap
 A:Around
 N:List Str
 s₀:Shared
 H₀:Hp
 env:Env
 outer:List Env
 stack:List Env
 ex:List Addr
 fn:Str->Bool
 calm:Bool
 pn:List (Addr×Obj)
 xe:Value->Shared->Prop
def frs (l:List Env):List Addr:=l.filterMap (·.frame)
abbrev Cx.fs (X:Cx):List Addr:=frs X.outer
def Vis (sc:Scope)(x:Str):Prop:=sc.names.lookup x=some .local∨sc.names.lookup x=some .cell∨sc.names.lookup x=some .free
def Loc (sc:Scope)(x:Str):Prop:=sc.names.lookup x=some .local∨sc.names.lookup x=some .cell
def Look (env:Env)(h:Heap)(m:Str->Option Value)(x:Str)(u:Value):Prop:=
 (env.kindOf x=some .local/\m x=some u)∨((env.kindOf x=some .cell∨env.kindOf x=some .free)/\∃ c,env.cells.lookup x=some c/\h.IsCell c (some u))
structure Cx.Ok (X:Cx):Prop where
 mod:Mod X.K X.mg X.base
 kind:X.env.scope.kind = .function
 glob:X.env.globals=mainGlobals
 blt:X.env.builtins=builtinsNs
 above:X.s₀.heap.objs.size<=X.env.locals
 inj:∀ x y c,X.env.cells.lookup x=some c->X.env.cells.lookup y=some c->x=y
 has:∀ x,(X.env.kindOf x=some .cell∨X.env.kindOf x=some .free)->∃ c,X.env.cells.lookup x=some c
 cab:∀ x c,X.fn x=true->X.env.cells.lookup x=some c->X.s₀.heap.objs.size<=c
 hd:X.calm=true->X.A.handled=none
 frames:X.A.frames=some X.stack
 stk:X.stack=X.outer∨(X.stack=X.env::X.outer/\X.env.frame=some X.env.locals)
 exf:∀ b∈X.ex,b≠X.env.locals/\∀ x c,X.env.cells.lookup x=some c->c≠b
 bs:∀ b o,X.base.get? b=some o->X.s₀.heap.get? b=some o/\X.H₀ b=none
 bsz:X.base.objs.size<=X.s₀.heap.objs.size
 noex:∀ b o,X.base.get? b=some o->b∉X.ex
 exfs:∀ b∈X.ex,b∉X.fs
 funs:X.s₀.heap.FunFrames X.base X.outer
 frf:∀ b∈X.fs,X.H₀ b=none
structure Inv (X:Cx) (pins:List (Addr×Obj)) (σ:List (Option V)) (H:Hp) (s:Shared):Prop where
 ok:X.Ok
 os:s.os=X.s₀.os
 bare:AllBare s.gens
 base:Un X.fs X.ex X.H₀ H X.s₀.heap s.heap
 loc:∃ m,s.heap.Ns X.env.locals m/\∀ (i:Nat) (x:Str) (v:V),X.N[i]?=some x->σ[i]?=some (some v)->Vis X.env.scope x->∃ u,RelV v u/\Look X.env s.heap m x u
 cell:∀ x c,X.env.cells.lookup x=some c->∃ v,s.heap.IsCell c v
 free:H X.env.locals=none
 freeC:∀ x c,X.env.cells.lookup x=some c->H c=none
 pin:∀ p∈X.pn++pins,s.heap.get? p.1=some p.2/\H p.1=none/\p.1≠X.env.locals/\p.1∉X.fs/\∀ v,p.2.data≠.cell v
 hok:HOk X.prog X.w H s.heap
 len : σ.length=X.N.length
section
variable {X:Cx}{pins:List (Addr×Obj)}{σ:List (Option V)}{H H':Hp}{s:Shared}{h':Heap}
theorem Cx.Ok.nofr (ok:X.Ok){b:Addr}{o:Obj}(e:X.base.get? b=some o):b∉X.fs:=λhb=>by
 have:=(ok.funs.mem hb).1
 rw[e] at this;cases this
theorem Inv.bs (I:Inv X pins σ H s):∀ b o,X.base.get? b=some o->s.heap.get? b=some o/\H b=none:=λb o e =>
 ⟨I.base.keep b o (I.ok.bs b o e).1 (I.ok.bs b o e).2 (I.ok.nofr e) (I.ok.noex b o e),I.base.free b o (I.ok.bs b o e).1 (I.ok.bs b o e).2 (I.ok.noex b o e)⟩
theorem Inv.bk (I:Inv X pins σ H s):∀ b o,X.base.get? b=some o->s.heap.get? b=some o:=λb o e=>(I.bs b o e).1
theorem Inv.mod (I:Inv X pins σ H s):Mod X.K X.mg X.base:=I.ok.mod
theorem Inv.kIn (I:Inv X pins σ H s):X.K.In s.heap:=I.ok.mod.kin.keeps I.bk
theorem Inv.lt (I:Inv X pins σ H s):X.env.locals<s.heap.objs.size:=let ⟨_,hn,_⟩:=I.loc;hn.lt
theorem Inv.sz (I:Inv X pins σ H s):X.s₀.heap.objs.size<=s.heap.objs.size:=Nat.le_trans I.ok.above (Nat.le_of_lt I.lt)
theorem Inv.nofs (I:Inv X pins σ H s){a:Addr}(h:s.heap.objs.size<=a):a∉X.fs:=λhb=>by
 obtain⟨_,o,ho,_⟩:=I.ok.funs.mem hb
 exact absurd (Nat.lt_of_lt_of_le (Heap.lt_size ho) (Nat.le_trans I.sz h)) (Nat.lt_irrefl _)
theorem Inv.cne (I:Inv X pins σ H s):∀ x c,X.env.cells.lookup x=some c->c≠X.env.locals:=λx c e z=>by
 obtain⟨v,o,ho,hd⟩:=I.cell x c e
 obtain⟨m,⟨o',es,ep,ho',hd',_⟩,_⟩:=I.loc
 rw[z,ho'] at ho;cases ho;rw[hd'] at hd;cases hd
theorem Inv.funs (I:Inv X pins σ H s):s.heap.FunFrames X.base X.outer:=by
 have all:∀ (l:List Env),(∀ b∈frs l,b∈X.fs)->X.s₀.heap.FunFrames X.base l->s.heap.FunFrames X.base l:=by
  intro l
  induction l with
  |nil=>intro _ _;trivial
  |cons env r ih =>
   intro hs hl
   obtain⟨hk,⟨L,o,hf,hn,ho,hd⟩,hr⟩:=hl
   have hL:L∈X.fs:=hs L (by unfold frs;rw[List.filterMap_cons,hf];exact List.mem_cons_self)
   obtain⟨sl,e⟩:=I.base.slot L o ho (I.ok.frf L hL) hL λz=>I.ok.exfs L z hL
   exact⟨hk,⟨L,_,hf,hn,e,hd⟩,ih (λb hb=>hs b (by unfold frs;rw[List.filterMap_cons,hf];exact List.mem_cons_of_mem _ hb)) hr⟩
 exact all X.outer (λ_ hb=>hb) I.ok.funs
theorem Inv.stack (I:Inv X pins σ H s):s.heap.FunFrames X.base X.stack:=by
 rcases I.ok.stk with e |⟨e,hf⟩
 ·rw[e];exact I.funs
 ·rw[e]
  obtain⟨m,hn,_⟩:=I.loc
  refine .cons (by rw[I.ok.kind];decide) hf hn ?_ I.funs
  exact Heap.get?_none_of_le (Nat.le_trans I.ok.bsz I.ok.above)
theorem Inv.stkSub (I:Inv X pins σ H s):∀ b∈frs X.stack,b∈X.env.locals::X.fs:=λb hb=>by
 rcases I.ok.stk with e |⟨e,hf⟩
 ·rw[e] at hb;exact List.mem_cons_of_mem _ hb
 ·rw[e] at hb
  unfold frs at hb
  rw[List.filterMap_cons,hf] at hb
  exact hb
theorem Inv.stkFree (I:Inv X pins σ H s):∀ b∈frs X.stack,H b=none:=λb hb=>by
 rcases List.mem_cons.mp (I.stkSub b hb) with e |hb
 ·rw[e];exact I.free
 ·obtain⟨_,o,ho,_⟩:=I.ok.funs.mem hb
  exact I.base.free b o ho (I.ok.frf b hb) λz=>I.ok.exfs b z hb
theorem Inv.step {g':Array GenState}{t':Nat}{d':Drawn}{ch:List Addr}(I:Inv X pins σ H s)
  (hch:∀ b∈ch,(b∈X.ex∨X.s₀.heap.objs.size<=b)/\b≠X.env.locals/\(∀ x c,X.env.cells.lookup x=some c->c≠b)/\∀ p∈X.pn++pins,p.1≠b)
  (keep:∀ b o,b≠X.env.locals->b∉X.fs->b∉ch->s.heap.get? b=some o->H b=none->h'.get? b=some o)
  (slot:∀ b o,b≠X.env.locals->b∈X.fs->b∉ch->s.heap.get? b=some o->H b=none->∃ sl,h'.get? b=some { o with slots:=sl }) (free:∀ b o,b∉ch->s.heap.get? b=some o->H b=none->H' b=none)
  (there:∀ b o,b∉ch->s.heap.get? b=some o->∃ o',h'.get? b=some o')
  (tups:∀ b xs,H b=some (.tup xs)->H' b=some (.tup xs)) (frzs:∀ b o u,H b=some (.frz o u)->H' b=some (.frz o u)) (tbls:∀ b ps,H b=some (.tbl ps)->∃ more,H' b=some (.tbl (ps++more)))
  (ns:∀ m,s.heap.Ns X.env.locals m->h'.Ns X.env.locals m) (hok:HOk X.prog X.w H' h') (hg:AllBare g') :
  Inv X pins σ H' { s with heap:=h',gens:=g',drawn:=d',toks:=t' }:=by
 have neL:∀ b o,X.s₀.heap.get? b=some o->b≠X.env.locals:=λb o e=>Nat.ne_of_lt (Nat.lt_of_lt_of_le (Heap.lt_size e) I.ok.above)
 have neC:∀ b o,X.s₀.heap.get? b=some o->b∉X.ex->b∉ch:=λb o e hx hb=>by
  rcases (hch b hb).1 with z |z
  ·exact hx z
  ·exact absurd (Nat.lt_of_lt_of_le (Heap.lt_size e) z) (Nat.lt_irrefl _)
 have cellK:∀ x c,X.env.cells.lookup x=some c->∀ v,s.heap.IsCell c v->h'.IsCell c v:=λx c e v ⟨o,ho,hd⟩=>by
  have nch:c∉ch:=λz=>(hch c z).2.2.1 x c e rfl
  by_cases hc:c∈X.fs
  ·obtain⟨sl,q⟩:=slot c o (I.cne x c e) hc nch ho (I.freeC x c e)
   exact⟨_,q,hd⟩
  ·exact⟨o,keep c o (I.cne x c e) hc nch ho (I.freeC x c e),hd⟩
 refine⟨I.ok,I.os,hg,⟨λb o e n hb hx=>?_,λb o e n hb hx=>?_,λb o e n hx=>?_,λb o e hx=>?_,λb xs e=>tups b xs (I.base.tups b xs e),λb o xs e=>frzs b o xs (I.base.frzs b o xs e),λb ps e=>?_⟩,?_,λx c e=>?_,?_,λx c e=>?_,λp hp=>?_,hok,I.len⟩
 ·exact keep b o (neL b o e) hb (neC b o e hx) (I.base.keep b o e n hb hx) (I.base.free b o e n hx)
 ·obtain⟨sl,e1⟩:=I.base.slot b o e n hb hx
  obtain⟨sl',e2⟩:=slot b _ (neL b o e) hb (neC b o e hx) e1 (I.base.free b o e n hx)
  exact⟨sl',e2⟩
 ·obtain⟨o',e1⟩:=I.base.there b o e hx
  exact free b o' (neC b o e hx) e1 (I.base.free b o e n hx)
 ·obtain⟨o',e1⟩:=I.base.there b o e hx
  exact there b o' (neC b o e hx) e1
 ·obtain⟨m1,e1⟩:=I.base.tbls b ps e
  obtain⟨m2,e2⟩:=tbls b _ e1
  exact⟨m1++m2,by rw[e2,Array.append_assoc]⟩
 ·obtain⟨m,hn,hl⟩:=I.loc
  refine⟨m,ns m hn,λi x v e1 e2 e3=>?_⟩
  obtain⟨u,r,l⟩:=hl i x v e1 e2 e3
  refine⟨u,r,?_⟩
  rcases l with l |⟨k,c,e,z⟩
  ·exact .inl l
  ·exact .inr ⟨k,c,e,cellK x c e _ z⟩
 ·obtain⟨v,z⟩:=I.cell x c e
  exact⟨v,cellK x c e v z⟩
 ·obtain⟨m,⟨o,_,_,ho,_⟩,_⟩:=I.loc
  exact free _ o (λz=>(hch _ z).2.1 rfl) ho I.free
 ·obtain⟨v,o,ho,hd⟩:=I.cell x c e
  exact free c o (λz=>(hch c z).2.2.1 x c e rfl) ho (I.freeC x c e)
 ·obtain⟨e,n,ne,nf,d⟩:=I.pin p hp
  have nch:p.1∉ch:=λz=>(hch p.1 z).2.2.2 p hp rfl
  exact⟨keep p.1 p.2 ne nf nch e n,free p.1 p.2 nch e n,ne,nf,d⟩
theorem Inv.un {t':Nat}(I:Inv X pins σ H s)(u:Un X.fs [] H H' s.heap h')(hok:HOk X.prog X.w H' h'):Inv X pins σ H' { s with heap:=h',toks:=t' }:=by
 obtain⟨m,⟨o,es,ep,ho,r⟩,_⟩:=id I.loc
 obtain⟨sl,hL⟩:=u.any ho I.free (by simp)
 exact I.step (g':=s.gens) (d':=s.drawn) (ch:=[]) (λ_ z=>nomatch z) (λb o _ hb _ e n=>u.keep b o e n hb (by simp)) (λb o _ hb _ e n=>u.slot b o e n hb (by simp)) (λb o _ e n=>u.free b o e n (by simp)) (λb o _ e=>u.there b o e (by simp)) u.tups u.frzs u.tbls (λm' hm=>by
  obtain⟨o',es',ep',ho',r'⟩:=hm
  rw[ho] at ho';cases ho'
  exact⟨_,es',ep',hL,r'⟩) hok I.bare
theorem Inv.call {g':Array GenState}{t':Nat}{d':Drawn}{ch:List Addr}(I:Inv X pins σ H s)(u:Un (frs X.stack) ch H H' s.heap h')(hok:HOk X.prog X.w H' h')(hg:AllBare g')
  (hch:∀ b∈ch,(b∈X.ex∨X.s₀.heap.objs.size<=b)/\b≠X.env.locals/\(∀ x c,X.env.cells.lookup x=some c->c≠b)/\∀ p∈X.pn++pins,p.1≠b) :
  Inv X pins σ H' { s with heap:=h',gens:=g',drawn:=d',toks:=t' }:=by
 obtain⟨m,⟨o,es,ep,ho,r⟩,_⟩:=id I.loc
 obtain⟨sl,hL⟩:=u.any ho I.free λz=>(hch _ z).2.1 rfl
 exact I.step (ch:=ch) hch (λb o hL hb hc e n=>u.keep b o e n (λz=>(List.mem_cons.mp (I.stkSub b z)).elim hL hb) hc) (λb o _ _ hc e n=>u.any e n hc) (λb o hc e n=>u.free b o e n hc) (λb o hc e=>u.there b o e hc) u.tups u.frzs u.tbls (λm' hm=>by
  obtain⟨o',es',ep',ho',r'⟩:=hm
  rw[ho] at ho';cases ho'
  exact⟨_,es',ep',hL,r'⟩) hok hg
theorem Inv.turned {t':Nat}{it:Addr}(I:Inv X pins σ H s)(k:∀ b o,b≠it->s.heap.get? b=some o->h'.get? b=some o)(hn:H it=none)(hL:it≠X.env.locals)
  (h1:it∈X.ex∨X.s₀.heap.objs.size<=it) (h2:∀ x c,X.env.cells.lookup x=some c->c≠it) (h3:∀ p∈X.pn++pins,p.1≠it):Inv X pins σ H { s with heap:=h',toks:=t' }:=by
 have nit:∀ b u,H b=some u->b≠it:=λb u e z=>by rw[z,hn] at e;cases e
 refine I.step (g':=s.gens) (d':=s.drawn) (ch:=[it]) (λb hb=>?_) (λb o _ _ hc e _=>k b o (λz=>hc (by simp[z])) e) (λb o _ _ hc e _=>⟨o.slots,k b o (λz=>hc (by simp[z])) e⟩) (λ_ _ _ _ n=>n)
  (λb o hc e=>⟨o,k b o (λz=>hc (by simp[z])) e⟩) (λ_ _ e=>e) (λ_ _ _ e=>e) (λb ps e=>⟨#[],by rw[e];simp⟩) (λm hm=>?_) (λb u e=>?_) I.bare
 ·have e:b=it:=by simpa using hb
  subst e
  exact⟨h1,hL,h2,h3⟩
 ·obtain⟨o,es,ep,ho,r⟩:=hm
  exact⟨o,es,ep,k _ o (Ne.symm hL) ho,r⟩
 ·refine (I.hok b u e).stay (λc v hc q=>k c v ?_ q) (λ_ q=>q) λ_ _ q=>q
  rcases hc with z |z
  ·rw[z];exact nit b u e
  ·exact nit c _ z
theorem Inv.tok (I:Inv X pins σ H s)(t:Nat):Inv X pins σ H { s with toks:=t }:=I.un (h':=s.heap) (t':=t) Un.refl I.hok
theorem Inv.kept {t':Nat}(I:Inv X pins σ H s)(k:∀ b u,s.heap.get? b=some u->h'.get? b=some u):Inv X pins σ H { s with heap:=h',toks:=t' }:=I.un (Un.kept k) (I.hok.kept k)
theorem Inv.laid {a:Addr}{o:HO}{t':Nat}(I:Inv X pins σ H s)(k:∀ b u,s.heap.get? b=some u->h'.get? b=some u)(hp:s.heap.objs.size<=a)(new:ObjOk X.prog X.w (upd H a o) h' a o) :
  Inv X pins σ (upd H a o) { s with heap:=h',toks:=t' }:=I.un (Un.laid k hp (I.hok.fresh hp)) (I.hok.laid k hp new)
theorem Inv.write {x e:Addr}{o:HO}{t':Nat}(I:Inv X pins σ H s)(mu:Mut (H x))(he:e=x∨H e=some (.own x))(k:∀ b u,b≠e->s.heap.get? b=some u->h'.get? b=some u)(heo:∃ u,h'.get? e=some u)
  (new:ObjOk X.prog X.w (upd H x o) h' x o):Inv X pins σ (upd H x o) { s with heap:=h',toks:=t' }:=I.un (Un.write mu he k heo) (I.hok.write mu he k heo new)
theorem Inv.pins_of {pins':List (Addr×Obj)}(I:Inv X pins σ H s)(h:∀ p∈pins',s.heap.get? p.1=some p.2/\H p.1=none/\p.1≠X.env.locals/\p.1∉X.fs/\∀ v,p.2.data≠.cell v):Inv X pins' σ H s:=
 ⟨I.ok,I.os,I.bare,I.base,I.loc,I.cell,I.free,I.freeC,λp hp=>(List.mem_append.mp hp).elim (λz=>I.pin p (List.mem_append_left _ z)) (h p),I.hok,I.len⟩
theorem o7 {N:List Str}(hN:N.Nodup){i j:Nat}{x:Str}(a:N[i]?=some x)(b:N[j]?=some x):i=j:=by
 obtain⟨h1,e1⟩:=List.getElem?_eq_some_iff.mp a
 obtain⟨h2,e2⟩:=List.getElem?_eq_some_iff.mp b
 exact (List.getElem_inj hN).mp (e1.trans e2.symm)
theorem mj {M:Model}{A:Around}{E:Value->Shared->Prop}{i:Nat}{x:Str}{v:V}{u:Value}{Q:Unit->Shared->Prop}(I:Inv X pins σ H s)(hN:X.N.Nodup)(hi:X.N[i]?=some x)(hx:Loc X.env.scope x)(r:RelV v u)
  (h:∀ s',Inv X pins (σ.set i (some v)) H s'->(∃ a,Heap.SameBut a s.heap s'.heap/\(a=X.env.locals∨X.env.cells.lookup x=some a))->Q () s') (hf:X.fn x=true∨X.env.scope.names.lookup x=some .local:=by first |exact .inl rfl |exact .inr rfl |assumption):wpAny M A (storeName X.env x u) Q E s:=by
 obtain⟨m,hn,hl⟩:=id I.loc
 have hcls:(X.env.scope.kind==.class ||(X.env.scope.kind==.module&&X.env.locals != X.env.globals))=false:=by rw[I.ok.kind];rfl
 have hiσ:i < σ.length:=by rw[I.len];exact (List.getElem?_eq_some_iff.mp hi).1
 have cne:=I.cne
 have tracked:∀ {a:Addr}{h':Heap},(∃ o,s.heap.get? a=some o/\H a=none)->Heap.SameBut a s.heap h'->HOk X.prog X.w H h':=λ{a h'} ha hs b ob e=>by
  obtain⟨_,_,hfree⟩:=ha
  refine (I.hok b ob e).stay (λc w' hc q=>(hs.2 c ?_).trans q) (λ_ q=>q) λ_ _ q=>q
  rintro rfl
  rcases hc with rfl |hc
  ·rw[hfree] at e;cases e
  ·rw[hfree] at hc;cases hc
 rcases hx with hk |hk
 ·refine wpAny_storeName_local hk hn (λh' hn' hs=>?_) hcls
  obtain⟨oL,_,_,hoL,_⟩:=id hn
  refine h _ ⟨I.ok,I.os,I.bare,⟨λb o e n hb hx=>?_,λb o e n hb hx=>?_,I.base.free,λb o e hx=>?_,I.base.tups,I.base.frzs,I.base.tbls⟩,⟨_,hn',λj y v' e1 e2 e3=>?_⟩,λy c e=>?_,I.free,I.freeC,λp hp=>?_,tracked ⟨oL,hoL,I.free⟩ hs,by simpa using I.len⟩ ⟨_,hs,.inl rfl⟩
  ·exact (hs.2 b (Nat.ne_of_lt (Nat.lt_of_lt_of_le (Heap.lt_size e) I.ok.above))).trans (I.base.keep b o e n hb hx)
  ·obtain⟨sl,e1⟩:=I.base.slot b o e n hb hx
   exact⟨sl,(hs.2 b (Nat.ne_of_lt (Nat.lt_of_lt_of_le (Heap.lt_size e) I.ok.above))).trans e1⟩
  ·obtain⟨o',e1⟩:=I.base.there b o e hx
   exact⟨o',(hs.2 b (Nat.ne_of_lt (Nat.lt_of_lt_of_le (Heap.lt_size e) I.ok.above))).trans e1⟩
  ·by_cases hj:j=i
   ·subst hj
    rw[hi] at e1;cases e1
    rw[List.getElem?_set_self hiσ] at e2
    cases e2
    exact⟨u,r,.inl ⟨hk,by simp⟩⟩
   ·rw[List.getElem?_set_ne (Ne.symm hj)] at e2
    obtain⟨u',r',q⟩:=hl j y v' e1 e2 e3
    refine⟨u',r',?_⟩
    rcases q with ⟨k,e⟩ |⟨k,c,e,z⟩
    ·refine .inl ⟨k,?_⟩
     have:y≠x:=λe=>hj (o7 hN e1 (e▸hi))
     simp[this,e]
    ·exact .inr ⟨k,c,e,z.sameBut hs (cne y c e)⟩
  ·obtain⟨w',z⟩:=I.cell y c e
   exact⟨w',z.sameBut hs (cne y c e)⟩
  ·obtain⟨e,n,ne,nf,d⟩:=I.pin p hp
   exact⟨(hs.2 p.1 ne).trans e,n,ne,nf,d⟩
 ·have hfn:X.fn x=true:=by
   rcases hf with z |z
   ·exact z
   ·rw[z] at hk;cases hk
  obtain⟨c,hc⟩:=I.ok.has x (.inl hk)
  obtain⟨w',z⟩:=I.cell x c hc
  refine wpAny_storeName_cell I.ok.kind hk hc z (λh' hc' hs=>?_)
  obtain⟨oc,hoc,hocd⟩:=id z
  refine h { s with heap:=h' } ⟨I.ok,I.os,I.bare,⟨λb o e n hb hx=>?_,λb o e n hb hx=>?_,I.base.free,λb o e hx=>?_,I.base.tups,I.base.frzs,I.base.tbls⟩,⟨m,hn.sameBut hs (Ne.symm (cne x c hc)),λj y v' e1 e2 e3=>?_⟩,λy c' e=>?_,I.free,I.freeC,λp hp=>?_,tracked ⟨oc,hoc,I.freeC x c hc⟩ hs,by simpa using I.len⟩ ⟨c,hs,.inr hc⟩
  ·exact (hs.2 b (Nat.ne_of_lt (Nat.lt_of_lt_of_le (Heap.lt_size e) (I.ok.cab x c hfn hc)))).trans (I.base.keep b o e n hb hx)
  ·obtain⟨sl,e1⟩:=I.base.slot b o e n hb hx
   exact⟨sl,(hs.2 b (Nat.ne_of_lt (Nat.lt_of_lt_of_le (Heap.lt_size e) (I.ok.cab x c hfn hc)))).trans e1⟩
  ·obtain⟨o',e1⟩:=I.base.there b o e hx
   exact⟨o',(hs.2 b (Nat.ne_of_lt (Nat.lt_of_lt_of_le (Heap.lt_size e) (I.ok.cab x c hfn hc)))).trans e1⟩
  ·by_cases hj:j=i
   ·subst hj
    rw[hi] at e1;cases e1
    rw[List.getElem?_set_self hiσ] at e2
    cases e2
    exact⟨u,r,.inr ⟨.inl hk,c,hc,hc'⟩⟩
   ·rw[List.getElem?_set_ne (Ne.symm hj)] at e2
    obtain⟨u',r',q⟩:=hl j y v' e1 e2 e3
    refine⟨u',r',?_⟩
    rcases q with q |⟨k,c',e,z'⟩
    ·exact .inl q
    ·refine .inr ⟨k,c',e,z'.sameBut hs ?_⟩
     rintro rfl
     exact hj (o7 hN e1 (I.ok.inj _ _ _ e hc▸hi))
  ·by_cases hcc:c'=c
   ·subst hcc;exact⟨_,hc'⟩
   ·obtain⟨w2,z2⟩:=I.cell y c' e
    exact⟨w2,z2.sameBut hs hcc⟩
  ·obtain⟨e,n,ne,nf,d⟩:=I.pin p hp
   refine⟨(hs.2 p.1 ?_).trans e,n,ne,nf,d⟩
   intro q
   rw[q,hoc] at e
   have q':oc=p.2:=Option.some.inj e
   exact d w' (by rw[← q'];exact hocd)
theorem oS {M:Model}{A:Around}{E:Value->Shared->Prop}{i:Nat}{x:Str}{v:V}{u:Value}{Q:Unit->Shared->Prop}(I:Inv X pins σ H s)(hN:X.N.Nodup)(hi:X.N[i]?=some x)(hx:Loc X.env.scope x)(r:RelV v u)
  (h:∀ s',Inv X pins (σ.set i (some v)) H s'->Q () s') (hf:X.fn x=true∨X.env.scope.names.lookup x=some .local:=by first |exact .inl rfl |exact .inr rfl |assumption):wpAny M A (storeName X.env x u) Q E s:=
 mj I hN hi hx r (λs' I' _=>h s' I') hf
theorem Inv.call' {s':Shared}{ch:List Addr}(I:Inv X pins σ H s)(ho:s'.os=s.os)(u:Un (frs X.stack) ch H H' s.heap s'.heap)(hok:HOk X.prog X.w H' s'.heap)(hg:AllBare s'.gens)
  (hch:∀ b∈ch,(b∈X.ex∨X.s₀.heap.objs.size<=b)/\b≠X.env.locals/\(∀ x c,X.env.cells.lookup x=some c->c≠b)/\∀ p∈X.pn++pins,p.1≠b):Inv X pins σ H' s':=by
 obtain⟨h',g',d',t',o'⟩:=s'
 have e:o'=s.os:=ho
 subst e
 exact I.call (g':=g') (t':=t') (d':=d') u hok hg hch
end
abbrev XK:=Value->Option Addr->Hp->Prop
abbrev St:=List (Option V)
abbrev VK:=V->Hp->Prop
abbrev TE:=St->Hp->VK->Prop
abbrev TT:=St->Hp->(Bool->Hp->Prop)->Prop
abbrev TA:=St->Hp->(List V->Hp->Prop)->Prop
structure Ends where
 nx:St->Hp->Prop
 rt:VK
 bk:St->Hp->Prop:=λ_ _=>False
 ct:St->Hp->Prop:=λ_ _=>False
abbrev TS:=Ends->St->Hp->Prop
def EP (X:Cx)(pins:List (Addr×Obj))(σ:St)(Q:VK)(u:Value)(s':Shared):Prop:=∃ v H',Inv X pins σ H' s'/\RelV v u/\Q v H'
def TP (X:Cx)(pins:List (Addr×Obj))(σ:St)(Q:Bool->Hp->Prop)(b:Bool)(s':Shared):Prop:=∃ H',Inv X pins σ H' s'/\Q b H'
def AP (X:Cx)(pins:List (Addr×Obj))(σ:St)(Q:List V->Hp->Prop)(us:List Value)(s':Shared):Prop:=∃ vs H',Inv X pins σ H' s'/\Vals vs us/\Q vs H'
def SP (X:Cx)(pins:List (Addr×Obj))(D:Ends)(f:Flow)(s':Shared):Prop:=
 match f with
 | .next => ∃ σ' H',Inv X pins σ' H' s'/\D.nx σ' H'
 | .brk => ∃ σ' H',Inv X pins σ' H' s'/\D.bk σ' H'
 | .cont => ∃ σ' H',Inv X pins σ' H' s'/\D.ct σ' H'
 | .ret u => ∃ v σ' H',Inv X pins σ' H' s'/\RelV v u/\D.rt v H'
def PE (X:Cx)(e:Expr)(t:TE):Prop:=
 ∀ (pins:List (Addr×Obj)) (s:Shared) (σ:St) (H:Hp) (Q:VK),Inv X pins σ H s->t σ H Q->wpAny (model X.prog X.w) X.A (eval e X.env) (EP X pins σ Q) X.xe s
def PT (X:Cx)(e:Expr)(t:TT):Prop:=
 ∀ (pins:List (Addr×Obj)) (s:Shared) (σ:St) (H:Hp) (Q:Bool->Hp->Prop),Inv X pins σ H s->t σ H Q->wpAny (model X.prog X.w) X.A (isTrue e X.env (eval e X.env)) (TP X pins σ Q) X.xe s
def PW (X:Cx)(e:Expr)(t:TT):Prop:=
 ∀ (whole:Sem Value) (pins:List (Addr×Obj)) (s:Shared) (σ:St) (H:Hp) (Q:Bool->Hp->Prop),Inv X pins σ H s->t σ H Q->wpAny (model X.prog X.w) X.A (isTrue e X.env whole) (TP X pins σ Q) X.xe s
theorem PW.pt {X:Cx}{e:Expr}{t:TT}(h:PW X e t):PT X e t:=h _
def PA (X:Cx)(es:List Expr)(t:TA):Prop:=
 ∀ (pos:Pos) (pins:List (Addr×Obj)) (s:Shared) (σ:St) (H:Hp) (Q:List V->Hp->Prop),Inv X pins σ H s->t σ H Q->wpAny (model X.prog X.w) X.A (spliced (backTo pos (starEach es X.env))) (AP X pins σ Q) X.xe s
def PS (X:Cx)(st:Stmt)(t:TS):Prop:=
 ∀ (pins:List (Addr×Obj)) (s:Shared) (σ:St) (H:Hp) (D:Ends),Inv X pins σ H s->t D σ H->wpAny (model X.prog X.w) X.A (exec st X.env) (SP X pins D) X.xe s
def PSs (X:Cx)(st:List Stmt)(t:TS):Prop:=
 ∀ (pins:List (Addr×Obj)) (s:Shared) (σ:St) (H:Hp) (D:Ends),Inv X pins σ H s->t D σ H->wpAny (model X.prog X.w) X.A (execs st X.env) (SP X pins D) X.xe s
theorem thn {α:Type}{t:Sem α}{Q Q' : α->Shared->Prop}{M:Model}{A:Around}{E:Value->Shared->Prop}{s:Shared}(h:wpAny M A t Q E s)(hQ:∀ a s,Q a s->Q' a s):wpAny M A t Q' E s:=wpAny_mono h hQ λ_ _ x=>x
section
variable {X:Cx}
theorem bin {a b:Expr}{ta tb:TE}(ha:PE X a ta)(hb:PE X b tb){pins:List (Addr×Obj)}{s:Shared}{σ:St}{H:Hp}{R:V->V->Hp->Prop}(I:Inv X pins σ H s)(h:ta σ H λx H1=>tb σ H1 λy H2=>R x y H2)
  {α:Type}{Q : α->Shared->Prop}{f:Value->Value->Sem α}
  (hf:∀ v u s2 x y H2,Inv X pins σ H2 s2->RelV x v->RelV y u->R x y H2->wpAny (model X.prog X.w) X.A (f v u) Q X.xe s2) :
  wpAny (model X.prog X.w) X.A (eval a X.env) (λv s₁=>wpAny (model X.prog X.w) X.A (eval b X.env) (λu s₂=>wpAny (model X.prog X.w) X.A (f v u) Q X.xe s₂) X.xe s₁) X.xe s:=by
 refine thn (ha pins s σ H _ I h) λv s1 ⟨x,H1,I1,r1,q1⟩=>?_
 refine thn (hb pins s1 σ H1 _ I1 q1) λu s2 ⟨y,H2,I2,r2,q2⟩=>?_
 exact hf v u s2 x y H2 I2 r1 r2 q2
def Ac (i:Nat):TE:=λσ H Q => ∃ v,σ[i]?=some (some v)/\Q v H
def tC (v:V):TE:=λ_ H Q=>Q v H
theorem vC {i:Nat}{x:Str}{pos:Pos}(hN:X.N[i]?=some x)(hv:Vis X.env.scope x)(hd:(x==("__debug__":Str))=false:=by decide)(hcd:(x==("__classdict__":Str))=false:=by decide):PE X (.Name x pos) (Ac i):=by
 intro pins s σ H Q I h
 obtain⟨v,e,h⟩:=h
 obtain⟨m,hn,hl⟩:=I.loc
 obtain⟨u,r,l⟩:=hl i x v hN e hv
 have fin:EP X pins σ Q u s:=⟨v,H,I,r,h⟩
 rcases l with ⟨hk,hm⟩ |⟨hk,c,hc,hcell⟩
 ·exact wpAny_Name (wpAny_loadName_local I.ok.kind hk hn hm fin) hd
 ·rcases hk with hk |hk
  ·exact wpAny_Name (wpAny_loadName_cell I.ok.kind hk hc hcell fin) hd
  ·exact wpAny_Name (wpAny_loadName_free I.ok.kind hk hc hcell fin hcd) hd
theorem pe_int {i j pos}:PE X (.Constant (.int i) j pos) (tC (.int i)):=λ_ _ _ H _ I h=>wpAny_Constant_int ⟨.int i,H,I.tok _,⟨_,rfl⟩,h⟩
theorem pe_bl {b j pos}:PE X (.Constant (.bool b) j pos) (tC (.bl b)):=λ_ _ _ H _ I h=>Constant_bool ⟨.bl b,H,I,rfl,h⟩
theorem pe_non {j pos}:PE X (.Constant .none j pos) (tC .non):=λ_ _ _ H _ I h=>Constant_none ⟨.non,H,I,rfl,h⟩
theorem pe_str {x j pos}:PE X (.Constant (.str x) j pos) (tC (.str x)):=λ_ _ _ H _ I h=>Calls.Constant_str ⟨.str x,H,I.tok _,⟨_,rfl⟩,h⟩
def Gl (X:Cx)(x:Str):Prop:=X.env.kindOf x=some .globalImplicit
theorem sN {E:Value->Shared->Prop}{pins:List (Addr×Obj)}{s:Shared}{σ:St}{H:Hp}{x:Str}{u:Value}{pos:Pos}{Q:Value->Shared->Prop}(I:Inv X pins σ H s)(hg:Gl X x)(hm:X.mg x=some u)(h:Q u s)
  (hd:(x==("__debug__":Str))=false:=by decide):wpAny (model X.prog X.w) X.A (eval (.Name x pos) X.env) Q E s:=
 Calls.Name_function_global I.ok.kind hg (Calls.loadGlobal_global (by rw[I.ok.glob];exact I.mod.glob.keeps I.bk) hm h) hd
theorem js {E:Value->Shared->Prop}{pins:List (Addr×Obj)}{s:Shared}{σ:St}{H:Hp}{x:Str}{u:Value}{pos:Pos}{Q:Value->Shared->Prop}(I:Inv X pins σ H s)(hg:Gl X x)(hm:X.mg x=none)(hv:bootBuiltins x=some u)(h:Q u s)
  (hn:x≠"__name__":=by decide) (hd:(x==("__debug__":Str))=false:=by decide):wpAny (model X.prog X.w) X.A (eval (.Name x pos) X.env) Q E s:=by
 obtain⟨mb,h1,h2⟩:=I.mod.blt
 exact Calls.Name_function_global I.ok.kind hg (Calls.loadGlobal_builtin (by rw[I.ok.glob];exact I.mod.glob.keeps I.bk) hm (by rw[I.ok.blt];exact h1.keeps I.bk) ((h2 x hn).trans hv) h) hd
variable {a b:Expr}{ta tb:TE}{pos:Pos}
def PC (X:Cx)(op:CmpOp)(a b:Expr)(t:TE):Prop:=
 ∀ (pins:List (Addr×Obj)) (s:Shared) (σ:St) (H:Hp) (Q:VK),Inv X pins σ H s->t σ H Q ->
  wpAny (model X.prog X.w) X.A (eval a X.env) (λv s₁=>wpAny (model X.prog X.w) X.A (eval b X.env) (λu s₂=>wpAny (model X.prog X.w) X.A (compareOp op v u) (EP X pins σ Q) X.xe s₂) X.xe s₁) X.xe s
theorem o8 (b:Expr){op:CmpOp}(h:op≠.In)(h2:op≠.NotIn):behindInMarks op b=false:=by
 have e1:(op==CmpOp.In)=false:=by cases op<;>first |rfl |exact absurd rfl h
 have e2:(op==CmpOp.NotIn)=false:=by cases op<;>first |rfl |exact absurd rfl h2
 cases b<;>simp[behindInMarks,e1,e2]
def tB (t:TE):TT:=λσ H Q=>t σ H λx H1 => ∃ c,x = .bl c/\Q c H1
theorem y9 {op:CmpOp}{t:TE}(h:PC X op a b t)(h1:behindInMarks op b=false:=by first |exact o8 _ (by decide) (by decide) |rfl):PE X (.Compare a [op] [b] pos) t:=λpins s σ H Q I hw=>wpAny_Compare1 (h pins s σ H Q I hw) h1
theorem vt {op:CmpOp}{t:TE}(h:PC X op a b t)(h1:behindInMarks op b=false:=by first |exact o8 _ (by decide) (by decide) |rfl):PT X (.Compare a [op] [b] pos) (tB t):=by
 intro pins s σ H Q I hw
 refine wpAny_isTrue_Compare1 (thn (h pins s σ H _ I hw) λv s1 h1=>thn h1 λu s2 h2=>thn h2 λc s3 ⟨x,H1,I1,r1,q1⟩=>?_) h1
 obtain⟨d,rfl,q⟩:=q1
 cases r1
 exact wpAny_truthy_bool ⟨H1,I1,q⟩
theorem yV {e:Expr}{t:TE}(h:PE X e t)(he:∀ whole,isTrue e X.env whole=(do let v ← whole;standAt e.pos;holding [v] (truthy v)):=by intro _;rfl):PT X e (tB t):=by
 intro pins s σ H Q I hw
 refine isTrue_plain (thn (h pins s σ H _ I hw) λv s1 ⟨x,H1,I1,r1,q1⟩=>?_) (he _)
 obtain⟨d,rfl,q⟩:=q1
 cases r1
 exact wpAny_truthy_bool ⟨H1,I1,q⟩
variable {tA tB':TT}{rest:List Expr}
def tOr (t u:TT):TT:=λσ H Q=>t σ H λc H1=>if c=true then Q true H1 else u σ H1 Q
theorem yS (ha:PT X a tA):PW X (.BoolOp .Or [a] pos) tA:=by
 intro wh pins s σ H Q I h
 refine isTrue_or (thn (ha pins s σ H Q I h) λc s1 e=>?_)
 cases c with
 |false=>exact isTrue_or_nil e
 |true=>exact e
theorem Ar (ha:PT X a tA)(hb:PW X (.BoolOp .Or (b::rest) pos) tB'):PW X (.BoolOp .Or (a::b::rest) pos) (tOr tA tB'):=by
 intro wh pins s σ H Q I h
 refine isTrue_or (thn (ha pins s σ H _ I h) λc s1 ⟨H1,I1,q1⟩=>?_)
 cases c with
 |true=>exact⟨H1,I1,q1⟩
 |false=>exact hb wh pins s1 σ H1 Q I1 q1
def tIf (t:TT)(ta tb:TE):TE:=λσ H Q=>t σ H λc H1=>if c=true then ta σ H1 Q else tb σ H1 Q
theorem vE {c:Expr}(hc:PT X c tA)(ha:PE X a ta)(hb:PE X b tb):PE X (.IfExp c a b pos) (tIf tA ta tb):=by
 intro pins s σ H Q I h
 refine wpAny_IfExp (thn (hc pins s σ H _ I h) λd s1 ⟨H1,I1,q1⟩=>?_)
 cases d with
 |true=>exact ha pins s1 σ H1 Q I1 q1
 |false=>exact hb pins s1 σ H1 Q I1 q1
end
def SqL (K:PySem.W.Frag)(H:Hp)(a:Addr)(xs:List V):Prop:=
 Rd H a (.lst xs) ∨
  ∃ (o:Obj) (its:Array Value) (n:Nat),K.lookup a=some o/\o.cls = .type "list"/\o.dict=none/\o.data = .seq its n/\its.size<=sizeLine/\Vals xs its.toList
def SqT (K:PySem.W.Frag)(H:Hp)(a:Addr)(xs:List V):Prop:=
 Rd H a (.tup xs) ∨
  ∃ (o:Obj) (its:Array Value) (n:Nat),K.lookup a=some o/\o.cls = .type "tuple"/\o.data = .seq its n/\its.size<=sizeLine/\Vals xs its.toList
def Ca:Value->Option V
 | .none=>some .non
 | .bool b=>some (.bl b)
 | .int i _=>some (.int i)
 | .str x _=>some (.str x)
 | .bytes b _=>some (.byt b)
 | .float b _=>some (.flt b)
 | .ref a=>some (.ref a)
 | .type n=>some (.ty n)
 |_=>none
theorem RelV.abs {x:V}{u:Value}(r:RelV x u):Ca u=some x:=by
 cases x with
 |non=>cases r;rfl
 |bl _=>cases r;rfl
 |int _=>obtain⟨t,rfl⟩:=r;rfl
 |str _=>obtain⟨t,rfl⟩:=r;rfl
 |byt _=>obtain⟨t,rfl⟩:=r;rfl
 |flt _=>obtain⟨t,rfl⟩:=r;rfl
 |ref _=>cases r;rfl
 |ty _=>cases r;rfl
theorem RelV.inj {x y:V}{u:Value}(r:RelV x u)(q:RelV y u):x=y:=Option.some.inj (r.abs.symm.trans q.abs)
theorem Vals.inj:∀ {xs ys:List V}{us:List Value},Vals xs us->Vals ys us->xs=ys
 |_,_,_,.nil,.nil=>rfl
 |_,_,_,.cons r t,.cons r' t'=>by rw[r.inj r',Vals.inj t t']
section
variable {X:Cx}{pins:List (Addr×Obj)}{σ:St}{H:Hp}{s:Shared}{a:Addr}{xs ys:List V}
theorem Inv.list (I:Inv X pins σ H s)(h:SqL X.K H a xs):∃ its:List Value,Vals xs its/\PlainL s.heap a its.toArray/\xs.length<=sizeLine:=by
 rcases h with h |⟨o,its,n,hk,hc,hd,hs,hz,r⟩
 ·obtain⟨z,its,n,r,e⟩:=h.ok I.hok
  exact⟨its,r,⟨_,n,e,rfl,rfl,rfl⟩,z⟩
 ·refine⟨its.toList,r,⟨o,n,I.kIn a o hk,hc,hd,by simpa using hs⟩,?_⟩
  have e:=r.length
  simp only[Array.length_toList] at e
  omega
theorem Inv.tuple (I:Inv X pins σ H s)(h:SqT X.K H a xs):∃ its:List Value,Vals xs its/\IsTup s.heap a its.toArray/\xs.length<=sizeLine:=by
 rcases h with h |⟨o,its,n,hk,hc,hs,hz,r⟩
 ·obtain⟨z,its,r,p⟩:=h.ok I.hok
  exact⟨its,r,p.tup,z⟩
 ·refine⟨its.toList,r,⟨o,I.kIn a o hk,hc,n,by simpa using hs⟩,?_⟩
  have e:=r.length
  simp only[Array.length_toList] at e
  omega
theorem Inv.list_inj (I:Inv X pins σ H s)(h:SqL X.K H a xs)(h':SqL X.K H a ys):xs=ys:=by
 obtain⟨its,r,⟨o,n,e,_,_,d⟩,_⟩:=I.list h
 obtain⟨its',r',⟨o',n',e',_,_,d'⟩,_⟩:=I.list h'
 rw[e] at e';cases e'
 rw[d] at d'
 injection d' with d1 _
 have:its=its':=by simpa using congrArg Array.toList d1
 subst this
 exact r.inj r'
theorem Inv.tuple_inj (I:Inv X pins σ H s)(h:SqT X.K H a xs)(h':SqT X.K H a ys):xs=ys:=by
 obtain⟨its,r,⟨o,e,_,n,d⟩,_⟩:=I.tuple h
 obtain⟨its',r',⟨o',e',_,n',d'⟩,_⟩:=I.tuple h'
 rw[e] at e';cases e'
 rw[d] at d'
 injection d' with d1 _
 have:its=its':=by simpa using congrArg Array.toList d1
 subst this
 exact r.inj r'
end
abbrev Cx.wish (X:Cx)(E:Value->Shared->Prop):Cx:={ X with xe:=E }
abbrev Cx.nox (X:Cx):Cx:=X.wish λ_ _=>False
theorem Cx.Ok.wish {X:Cx}(ok:X.Ok)(E:Value->Shared->Prop):(X.wish E).Ok:=
 ⟨ok.mod,ok.kind,ok.glob,ok.blt,ok.above,ok.inj,ok.has,ok.cab,ok.hd,ok.frames,ok.stk,ok.exf,ok.bs,ok.bsz,ok.noex,ok.exfs,ok.funs,ok.frf⟩
theorem Cx.Ok.unwish {X:Cx}{E:Value->Shared->Prop}(ok:(X.wish E).Ok):X.Ok:=
 ⟨ok.mod,ok.kind,ok.glob,ok.blt,ok.above,ok.inj,ok.has,ok.cab,ok.hd,ok.frames,ok.stk,ok.exf,ok.bs,ok.bsz,ok.noex,ok.exfs,ok.funs,ok.frf⟩
section
variable {X:Cx}{pins:List (Addr×Obj)}{σ:St}{H:Hp}{s:Shared}{E:Value->Shared->Prop}
theorem Inv.wish (I:Inv X pins σ H s)(E:Value->Shared->Prop):Inv (X.wish E) pins σ H s:=⟨I.ok.wish E,I.os,I.bare,I.base,I.loc,I.cell,I.free,I.freeC,I.pin,I.hok,I.len⟩
theorem Inv.unwish (I:Inv (X.wish E) pins σ H s):Inv X pins σ H s:=⟨I.ok.unwish,I.os,I.bare,I.base,I.loc,I.cell,I.free,I.freeC,I.pin,I.hok,I.len⟩
theorem SP.unwish {D:Ends}{f:Flow}{s':Shared}(h:SP (X.wish E) pins D f s'):SP X pins D f s':=by
 cases f with
 |next=>obtain⟨σ',H',I,q⟩:=h;exact⟨σ',H',I.unwish,q⟩
 |brk=>obtain⟨σ',H',I,q⟩:=h;exact⟨σ',H',I.unwish,q⟩
 |cont=>obtain⟨σ',H',I,q⟩:=h;exact⟨σ',H',I.unwish,q⟩
 |ret u=>obtain⟨v,σ',H',I,r,q⟩:=h;exact⟨v,σ',H',I.unwish,r,q⟩
theorem PSs.nox {st:List Stmt}{t:TS}(h:PSs X.nox st t):PSs X st t:=λpins s σ H D I hw =>
 wpAny_mono (h pins s σ H D (I.wish _) hw) (λ_ _ q=>q.unwish) λ_ _ z=>False.elim z
end
section
variable {X:Cx}{st:Stmt}{rest:List Stmt}{t u:TS}{e:Expr}{te:TE}{pos:Pos}
def Af:TS:=λD σ H=>D.nx σ H
def Ad (t u:TS):TS:=λD σ H=>t { D with nx:=u D } σ H
theorem pss_nil:PSs X [] Af:=λ_ _ σ H _ I h=>wpAny_execs_nil ⟨σ,H,I,h⟩
theorem vx (h1:PS X st t)(h2:PSs X rest u):PSs X (st::rest) (Ad t u):=by
 intro pins s σ H D I h
 refine wpAny_execs_cons (thn (h1 pins s σ H { D with nx:=u D } I h) λf s1 q=>?_)
 cases f with
 |next =>
  obtain⟨σ',H',I',q⟩:=q
  exact h2 pins s1 σ' H' D I' q
 |ret v=>exact q
 |brk=>exact q
 |cont=>exact q
theorem xi (h1:PS X st t):PSs X [st] t:=by
 intro pins s σ H D I h
 refine wpAny_execs_cons (thn (h1 pins s σ H D I h) λf s1 q=>?_)
 cases f with
 |next=>exact wpAny_execs_nil q
 |ret v=>exact q
 |brk=>exact q
 |cont=>exact q
theorem Inv.quiet {pins:List (Addr×Obj)}{σ:St}{H:Hp}{s:Shared}(I:Inv X pins σ H s):interactive X.env=false:=by simp[interactive,I.ok.kind]
def Ai (te:TE):TS:=λD σ H=>te σ H λ_ H1=>D.nx σ H1
theorem xk (he:PE X e te)(hs:swapsWith e none pos.line X.env=pure false:=by rfl):PS X (.Expr e pos) (Ai te):=by
 intro pins s σ H D I h
 exact wpAny_Expr_any (thn (he pins s σ H _ I h) λv s1 ⟨x,H1,I1,r1,q1⟩=>⟨σ,H1,I1,q1⟩) I.quiet hs
def Bo (te:TE):TS:=λD σ H=>te σ H D.rt
theorem yX (he:PE X e te):PS X (.Return (some e) pos) (Bo te):=by
 intro pins s σ H D I h
 exact wpAny_Return_some (thn (he pins s σ H _ I h) λv s1 ⟨x,H1,I1,r1,q1⟩=>⟨x,σ,H1,I1,r1,q1⟩)
def Bq (c:TT)(t u:TS):TS:=λD σ H=>c σ H λb H1=>if b=true then t D σ H1 else u D σ H1
theorem As {c:Expr}{a b:List Stmt}{tc:TT}(hc:PT X c tc)(ha:PSs X a t)(hb:PSs X b u):PS X (.If c a b pos) (Bq tc t u):=by
 intro pins s σ H D I h
 refine wpAny_If (thn (hc pins s σ H _ I h) λd s1 ⟨H1,I1,q1⟩=>?_)
 cases d with
 |true=>exact ha pins s1 σ H1 D I1 q1
 |false=>exact hb pins s1 σ H1 D I1 q1
end
abbrev TG:=V->St->Hp->(St->Hp->Prop)->Prop
abbrev TGs:=List V->St->Hp->(St->Hp->Prop)->Prop
def PG (X:Cx)(target:Expr)(t:TG):Prop:=
 ∀ (pins:List (Addr×Obj)) (s:Shared) (σ:St) (H:Hp) (v:V) (u:Value) (Q:St->Hp->Prop),Inv X pins σ H s->RelV v u->t v σ H Q ->
  wpAny (model X.prog X.w) X.A (assign target X.env u) (λ_ s' => ∃ σ' H',Inv X pins σ' H' s'/\Q σ' H') X.xe s
def PGs (X:Cx)(ts:List Expr)(t:TGs):Prop:=
 ∀ (pins:List (Addr×Obj)) (s:Shared) (σ:St) (H:Hp) (vs:List V) (us:List Value) (Q:St->Hp->Prop),Inv X pins σ H s->Vals vs us->t vs σ H Q ->
  wpAny (model X.prog X.w) X.A (assignInOrder ((assignEach ts X.env).map (·.2)) us) (λ_ s' => ∃ σ' H',Inv X pins σ' H' s'/\Q σ' H') X.xe s
abbrev zX:=V->V->V->Hp->(Hp->Prop)->Prop
def A_ (X:Cx)(t:zX):Prop:=
 ∀ (pins:List (Addr×Obj)) (s:Shared) (σ:St) (H:Hp) (o i v:V) (ov iv u:Value) (Q:Hp->Prop),Inv X pins σ H s->RelV o ov->RelV i iv->RelV v u->t o i v H Q ->
  wpAny (model X.prog X.w) X.A (setItem ov iv u) (λ_ s' => ∃ H',Inv X pins σ H' s'/\Q H') X.xe s
section
variable {X:Cx}{pos:Pos}
def yq (i:Nat):TG:=λv σ H Q=>Q (σ.set i (some v)) H
theorem xp {i:Nat}{x:Str}(hN:X.N.Nodup)(hi:X.N[i]?=some x)(hx:Loc X.env.scope x)(hf:X.fn x=true∨X.env.scope.names.lookup x=some .local:=by first |exact .inl rfl |exact .inr rfl |assumption):PG X (.Name x pos) (yq i):=by
 intro pins s σ H v u Q I r h
 exact wpAny_assign_Name (oS I hN hi hx r (λs' I'=>⟨_,H,I',h⟩) hf)
def BK:TGs:=λvs σ H Q=>vs=[]/\Q σ H
def AO (t:TG)(u:TGs):TGs:=λvs σ H Q => ∃ v r,vs=v::r/\t v σ H λσ' H'=>u r σ' H' Q
theorem pgs_nil:PGs X [] BK:=by
 intro pins s σ H vs us Q I r h
 obtain⟨e,h⟩:=h
 subst e
 cases r
 exact assignInOrder_nil ⟨σ,H,I,h⟩
theorem vB {e:Expr}{es:List Expr}{t:TG}{u:TGs}(h1:PG X e t)(h2:PGs X es u)
  (hs:(assignEach (e::es) X.env).map (·.2)=assign e X.env::(assignEach es X.env).map (·.2):=by rfl):PGs X (e::es) (AO t u):=by
 intro pins s σ H vs us Q I r h
 obtain⟨v,vr,e1,h⟩:=h
 subst e1
 cases r with
 |cons r rr =>
  rw[hs]
  refine assignInOrder_cons (thn (h1 pins s σ H _ _ _ I r h) λ_ s1 ⟨σ1,H1,I1,q1⟩=>?_)
  exact h2 pins s1 σ1 H1 _ _ Q I1 rr q1
def BI (K:PySem.W.Frag)(n:Nat)(t:TGs):TG:=λv σ H Q => ∃ a xs,v = .ref a/\SqT K H a xs/\xs.length=n/\t xs σ H Q
theorem y4 {es:List Expr}{k:Nat}{t:TGs}{n:Nat}(hc:X.calm=true)(h:PGs X es t)
  (hn:(assignEach es X.env).length=n:=by rfl) (hst:(assignEach es X.env).findIdx? (·.1)=none:=by rfl):PG X (.Tuple es k pos) (BI X.K n t):=by
 intro pins s σ H v u Q I r hw
 obtain⟨a,xs,e1,hq,hl,hw⟩:=hw
 subst e1
 cases r
 obtain⟨its,rv,ht,hz⟩:=I.tuple hq
 refine assign_Tuple_tuple (I.ok.hd hc) ht (by simp[hn,← hl,rv.length]) hst λh' hx=>?_
 have I1:Inv X pins σ H { s with heap:=h' }:=I.kept (t':=s.toks) λb o e=>hx b o (Nat.ne_of_lt (Heap.lt_size e)) e
 exact h pins _ σ H xs _ Q I1 (by simpa using rv) hw
def BJ (to ti:TE)(t:zX):TG:=λv σ H Q=>to σ H λo H1=>ti σ H1 λi H2=>t o i v H2 λH3=>Q σ H3
theorem y6 {o i:Expr}{to ti:TE}{t:zX}(ho:PE X o to)(hi:PE X i ti)(hs:A_ X t)
  (ha:∀ v,assign (.Subscript o i pos) X.env v=(do
   let ov ← holding [v] (eval o X.env)
   let iv ← holding [v,ov] (eval i X.env)
   standAt pos
   holding [v,ov,iv] (setItem ov iv v)
   release [v,ov,iv] []):=by intro _;rfl):PG X (.Subscript o i pos) (BJ to ti t):=by
 intro pins s σ H v u Q I r h
 rw[ha]
 refine wpAny_bind (wpAny_holding (thn (ho pins s σ H _ I h) λov s1 ⟨x,H1,I1,r1,q1⟩=>?_))
 refine wpAny_bind (wpAny_holding (thn (hi pins s1 σ H1 _ I1 q1) λiv s2 ⟨y,H2,I2,r2,q2⟩=>?_))
 refine wpAny_bind (wpAny_standAt (wpAny_bind (wpAny_holding (thn (hs pins s2 σ H2 x y v ov iv u _ I2 r1 r2 r q2) λ_ s3 ⟨H3,I3,q3⟩=>?_))))
 exact wpAny_release ⟨σ,H3,I3,q3⟩
def Ak (te:TE)(g:TG):TS:=λD σ H=>te σ H λx H1=>g x σ H1 D.nx
theorem vy {tg e:Expr}{te:TE}{g:TG}(he:PE X e te)(hg:PG X tg g)(hs:swapsWithSole [tg] e pos.line X.env=pure false:=by rfl)(hw:swappedStores [tg] e X.env=pure none:=by rfl)
  (h1:(assignEach [tg] X.env).map (·.2)=[assign tg X.env]:=by rfl):PS X (.Assign [tg] e pos) (Ak te g):=by
 intro pins s σ H D I h
 refine wpAny_Assign_stores (thn (he pins s σ H _ I h) λv s1 ⟨x,H1,I1,r1,q1⟩=>?_) hs hw
 rw[h1]
 exact thn (hg pins s1 σ H1 x v _ I1 r1 q1) λ_ s2 q=>q
theorem yW {i:Nat}{x:Str}{e:Expr}{te:TE}{pos':Pos}(hN:X.N.Nodup)(hi:X.N[i]?=some x)(hx:Loc X.env.scope x)(he:PE X e te)(hs:swapsWith e (some (.Name x pos')) pos.line X.env=pure false:=by rfl)(hf:X.fn x=true∨X.env.scope.names.lookup x=some .local:=by first |exact .inl rfl |exact .inr rfl |assumption) :
  PS X (.Assign [.Name x pos'] e pos) (Ak te (yq i)):=by
 intro pins s σ H D I h
 refine wpAny_Assign_Name (thn (he pins s σ H _ I h) λv s1 ⟨y,H1,I1,r1,q1⟩=>?_) hs
 exact oS I1 hN hi hx r1 (λs2 I2=>⟨_,H1,I2,q1⟩) hf
end
structure It where
 go:Nat->Hp->Prop
 yld:Nat->Hp->V->Hp->Prop
 stop:Nat->Hp->Prop
def ge (X:Cx)(pins:List (Addr×Obj))(H:Hp)(b:Addr):Prop:=
 H b=none/\b≠X.env.locals/\b∉X.fs/\(b∈X.ex∨X.s₀.heap.objs.size<=b)/\(∀ x c,X.env.cells.lookup x=some c->c≠b)/\∀ p∈X.pn++pins,p.1≠b
theorem Inv.fpOk {X:Cx}{pins:List (Addr×Obj)}{σ:St}{H H':Hp}{s:Shared}{b:Addr}(I:Inv X pins σ H s)(hb:s.heap.objs.size<=b)(hn:H' b=none):ge X pins H' b:=by
 refine⟨hn,Nat.ne_of_gt (Nat.lt_of_lt_of_le I.lt hb),I.nofs hb,.inr (Nat.le_trans I.sz hb),λx c e z=>?_,λp hp z=>?_⟩
 ·obtain⟨v,q⟩:=I.cell x c e
  exact absurd (Nat.lt_of_lt_of_le q.lt (by rw[z];exact hb)) (Nat.lt_irrefl _)
 ·exact absurd (Nat.lt_of_lt_of_le (Heap.lt_size (I.pin p hp).1) (by rw[z];exact hb)) (Nat.lt_irrefl _)
structure Turn (P:Program) (w:World) (K:PySem.W.Frag) (tg:Expr) (J:It) (fp:List Addr) (it:Addr) (tn:Nat->Heap->Prop):Prop where
 mem:it∈fp
 obj:∀ i h,tn i h->∀ b∈fp,∃ o,h.get? b=some o/\∀ v,o.data≠.cell v
 keep:∀ i h h',tn i h->(∀ b∈fp,∀ o,h.get? b=some o->h'.get? b=some o)->tn i h'
 item:∀ (X:Cx),X.prog=P->X.w=w->X.K=K->X.calm=true->∀ (i:Nat) (pins:List (Addr×Obj)) (s:Shared) (σ:St) (H:Hp) (E:Value->Shared->Prop),Inv X pins σ H s->(∀ b∈fp,ge X pins H b)->tn i s.heap->J.go i H ->
  wpAny (model P w) X.A (pyNext (.ref it)) (λr s1 => ∃ u,r=some u /\
   wpAny (model P w) X.A (letOwnedTupleGo tg (.ref it) u) (λ_ s2 => ∃ x H',Inv X pins σ H' s2/\RelV x u/\J.yld i H x H'/\tn (i+1) s2.heap/\∀ b∈fp,H' b=none) E s1) E s
 done:∀ (X:Cx),X.prog=P->X.w=w->X.K=K->X.calm=true->∀ (i:Nat) (pins:List (Addr×Obj)) (s:Shared) (σ:St) (H:Hp) (E:Value->Shared->Prop),Inv X pins σ H s->(∀ b∈fp,ge X pins H b)->tn i s.heap->J.stop i H ->
  wpAny (model P w) X.A (pyNext (.ref it)) (λr s1=>r=none/\Inv X pins σ H s1) E s
 self:∀ (A:Around) (i:Nat) (s:Shared) (Q:Value->Shared->Prop) (E:Value->Shared->Prop),tn i s.heap->Q (.ref it) s->wpAny (model P w) A (pyIter (.ref it)) Q E s
abbrev TI:=St->Hp->(It->Hp->Prop)->Prop
def PIE (X:Cx)(pins:List (Addr×Obj))(σ:St)(tg:Expr)(R:It->Hp->Prop)(itv:Value)(s2:Shared):Prop:=
 ∃ (it:Addr) (fp:List Addr) (tn:Nat->Heap->Prop) (J:It) (H':Hp),itv = .ref it/\Inv X pins σ H' s2/\Turn X.prog X.w X.K tg J fp it tn/\tn 0 s2.heap/\(∀ b∈fp,ge X pins H' b)/\R J H'
def PI (X:Cx)(tg iter:Expr)(wi:TI):Prop:=
 ∀ (pins:List (Addr×Obj)) (s:Shared) (σ:St) (H:Hp) (R:It->Hp->Prop),Inv X pins σ H s->wi σ H R ->
  wpAny (model X.prog X.w) X.A (eval iter X.env) (λv s1=>wpAny (model X.prog X.w) X.A (pyIter v) (PIE X pins σ tg R) X.xe s1) X.xe s
theorem sT {M:Model}{A:Around}{E:Value->Shared->Prop}{s:Shared}{tg:Expr}{it:Addr}{u:Value}{o:Obj}{n:String}{vs:Array Value}{Q:Unit->Shared->Prop}(ho:s.heap.get? it=some o)(hc:o.cls = .type n)(hd:o.data = .fields vs)
  (hn:["enumerate","zip","dict_itemiterator","dict_reverseitemiterator","odict_iterator","itertools.zip_longest","itertools.pairwise"].contains n=false) (hQ:Q () s):wpAny M A (letOwnedTupleGo tg (.ref it) u) Q E s:=by
 unfold letOwnedTupleGo
 cases tg<;>first
  |exact wpAny_pure hQ
  |(cases u<;>first
    |exact wpAny_pure hQ
    |(refine wpAny_bind (wpAny_load ho ?_)
      rw[hc,hd]
      show wpAny M A (if (["enumerate","zip","dict_itemiterator","dict_reverseitemiterator","odict_iterator","itertools.zip_longest","itertools.pairwise"].contains n&&vs[0]?==some (rawInt _))=true then _ else _) Q E s
      rw[if_neg (by intro h;rw[hn,Bool.false_and] at h;cases h)]
      exact wpAny_pure hQ))
def Itl (K:PySem.W.Frag)(a:Addr):It:=
 ⟨λi H => ∃ xs x,SqL K H a xs/\xs[i]?=some x,λi H x H'=>H'=H/\∀ xs,SqL K H a xs->xs[i]?=some x,λi H => ∃ xs,SqL K H a xs/\xs.length<=i⟩
def Itt (K:PySem.W.Frag)(a:Addr):It:=
 ⟨λi H => ∃ xs x,SqT K H a xs/\xs[i]?=some x,λi H x H'=>H'=H/\∀ xs,SqT K H a xs->xs[i]?=some x,λi H => ∃ xs,SqT K H a xs/\xs.length<=i⟩
def Itr (lo:Int)(n:Nat):It:=⟨λi _=>i<n,λi H x H'=>H'=H/\x = .int (lo+i),λi _=>n<=i⟩
theorem tU {P:Program}{w:World}{K:PySem.W.Frag}{tg:Expr}(a it:Addr):Turn P w K tg (Itl K a) [it] it (λi h=>h.IsListIter it a i) where
 mem:=by simp
 obj:=λi h st b hb=>by
  have e:b=it:=by simpa using hb
  subst e
  obtain⟨o,e,c,d⟩:=st
  exact⟨o,e,λv z=>by rw[d] at z;cases z⟩
 keep:=λi h h' st k=>st.at λo e=>k it (by simp) o e
 item:=by
  intro X hP hw hK hc i pins s σ H E I hf st hg
  subst hP hw hK
  obtain⟨xs,x,hq,hx⟩:=hg
  obtain⟨its,rv,p,hz⟩:=I.list hq
  obtain⟨u,hu,ru⟩:=rv.get hx
  obtain⟨f0,f1,f2,f3,f4,f5⟩:=hf it (by simp)
  refine wpAny_pyNext_list_item st p.isList (x:=u) (by simpa using hu) λh' st' sb=>?_
  have I1:Inv X pins σ H { s with heap:=h' }:=I.turned (t':=s.toks) (λb o hb e=>(sb.2 b hb).trans e) f0 f1 f3 f4 f5
  obtain⟨o,e,c,d⟩:=id st'
  exact⟨u,rfl,sT (s:={ s with heap:=h' }) e c d (by decide) ⟨x,H,I1,ru,⟨rfl,λys hy=>by rw[I.list_inj hy hq];exact hx⟩,st',λb hb=>(hf b hb).1⟩⟩
 done:=by
  intro X hP hw hK hc i pins s σ H E I hf st hg
  subst hP hw hK
  obtain⟨xs,hq,hx⟩:=hg
  obtain⟨its,rv,p,hz⟩:=I.list hq
  obtain⟨f0,f1,f2,f3,f4,f5⟩:=hf it (by simp)
  have hl:=rv.length
  exact wpAny_pyNext_list_end (I.ok.hd hc) st p.isList (by simp;omega) λh' eb=>⟨rfl,I.turned (t':=s.toks) (λb o hb e=>eb b o hb e) f0 f1 f3 f4 f5⟩
 self:=λ_ _ _ _ _ st h=>wpAny_pyIter_listiter st h
theorem qw {P:Program}{w:World}{K:PySem.W.Frag}{tg:Expr}(a it:Addr):Turn P w K tg (Itt K a) [it] it (λi h=>h.IsTupleIter it a i) where
 mem:=by simp
 obj:=λi h st b hb=>by
  have e:b=it:=by simpa using hb
  subst e
  obtain⟨o,e,c,d⟩:=st
  exact⟨o,e,λv z=>by rw[d] at z;cases z⟩
 keep:=λi h h' st k=>st.at λo e=>k it (by simp) o e
 item:=by
  intro X hP hw hK hc i pins s σ H E I hf st hg
  subst hP hw hK
  obtain⟨xs,x,hq,hx⟩:=hg
  obtain⟨its,rv,p,hz⟩:=I.tuple hq
  obtain⟨u,hu,ru⟩:=rv.get hx
  obtain⟨f0,f1,f2,f3,f4,f5⟩:=hf it (by simp)
  refine wpAny_pyNext_tuple_item st (show s.heap.IsTuple a its.toArray from p) (x:=u) (by simpa using hu) λh' st' sb=>?_
  have I1:Inv X pins σ H { s with heap:=h' }:=I.turned (t':=s.toks) (λb o hb e=>(sb.2 b hb).trans e) f0 f1 f3 f4 f5
  obtain⟨o,e,c,d⟩:=id st'
  exact⟨u,rfl,sT (s:={ s with heap:=h' }) e c d (by decide) ⟨x,H,I1,ru,⟨rfl,λys hy=>by rw[I.tuple_inj hy hq];exact hx⟩,st',λb hb=>(hf b hb).1⟩⟩
 done:=by
  intro X hP hw hK hc i pins s σ H E I hf st hg
  subst hP hw hK
  obtain⟨xs,hq,hx⟩:=hg
  obtain⟨its,rv,p,hz⟩:=I.tuple hq
  obtain⟨f0,f1,f2,f3,f4,f5⟩:=hf it (by simp)
  have hl:=rv.length
  exact wpAny_pyNext_tuple_end (I.ok.hd hc) st (show s.heap.IsTuple a its.toArray from p) (by simp;omega) λh' eb=>⟨rfl,I.turned (t':=s.toks) (λb o hb e=>eb b o hb e) f0 f1 f3 f4 f5⟩
 self:=λ_ _ _ _ _ st h=>wpAny_pyIter_tupleiter st h
theorem qx {P:Program}{w:World}{K:PySem.W.Frag}{tg:Expr}(it:Addr)(lo:Int)(n:Nat):Turn P w K tg (Itr lo n) [it] it (λi h=>IsRangeIter h it (lo+(i:Nat)*1) ((n:Int)-(i:Nat)) 1) where
 mem:=by simp
 obj:=λi h st b hb=>by
  have e:b=it:=by simpa using hb
  subst e
  exact⟨_,st,λv z=>by
   have z':Data.fields _=Data.cell v:=z
   cases z'⟩
 keep:=λi h h' st k=>k it (by simp) _ st
 item:=by
  intro X hP hw hK hc i pins s σ H E I hf st hg
  subst hP hw hK
  obtain⟨f0,f1,f2,f3,f4,f5⟩:=hf it (by simp)
  have W:=Walks.range (prog:=X.prog) (w:=X.w) (I.ok.hd hc) it lo 1 n
  refine W.item i s _ _ hg st λv h' tk hv st' kk=>?_
  obtain⟨t,rfl⟩:=hv
  have I1:Inv X pins σ H { s with heap:=h',toks:=tk }:=I.turned (λb o hb e=>kk b o (by simpa using hb) e) f0 f1 f3 f4 f5
  refine⟨_,rfl,sT (s:={ s with heap:=h',toks:=tk }) (n:="range_iterator") st' rfl rfl (by decide) ⟨.int (lo+i),H,I1,⟨t,?_⟩,⟨rfl,rfl⟩,st',λb hb=>(hf b hb).1⟩⟩
  rw[Int.mul_one]
 done:=by
  intro X hP hw hK hc i pins s σ H E I hf st hg
  subst hP hw hK
  obtain⟨f0,f1,f2,f3,f4,f5⟩:=hf it (by simp)
  exact wpAny_pyNext_range_end (I.ok.hd hc) st (by have:n<=i:=hg;omega) λh' eb=>⟨rfl,I.turned (t':=s.toks) (λb o hb e=>eb b o hb e) f0 f1 f3 f4 f5⟩
 self:=λ_ _ _ _ _ st h=>wpAny_pyIter_rangeiter st h
section
variable {X:Cx}{tg:Expr}
def AN (K:PySem.W.Frag)(tl:TE):TI:=λσ H R=>tl σ H λx H1 => ∃ a,x = .ref a/\(∃ xs,SqL K H1 a xs)/\R (Itl K a) H1
def BH (K:PySem.W.Frag)(tl:TE):TI:=λσ H R=>tl σ H λx H1 => ∃ a,x = .ref a/\(∃ xs,SqT K H1 a xs)/\R (Itt K a) H1
theorem xo {l:Expr}{tl:TE}(hl:PE X l tl):PI X tg l (AN X.K tl):=by
 intro pins s σ H R I h
 refine thn (hl pins s σ H _ I h) λv s1 ⟨x,H1,I1,r1,q1⟩=>?_
 obtain⟨a,e,⟨xs,hq⟩,q⟩:=q1
 subst e
 cases r1
 obtain⟨its,rv,p,hz⟩:=I1.list hq
 refine wpAny_pyIter_list p.isList ?_
 refine⟨s1.heap.objs.size,[s1.heap.objs.size],_,_,H1,rfl,I1.kept (t':=s1.toks) λb o e=>Heap.get?_push_of_some _ e,tU a _,⟨_,Heap.get?_push_size _ rfl,rfl,rfl⟩,λb hb=>?_,q⟩
 have e:b=s1.heap.objs.size:=by simpa using hb
 subst e
 exact I1.fpOk (Nat.le_refl _) (I1.hok.fresh (Nat.le_refl _))
theorem y3 {l:Expr}{tl:TE}(hl:PE X l tl):PI X tg l (BH X.K tl):=by
 intro pins s σ H R I h
 refine thn (hl pins s σ H _ I h) λv s1 ⟨x,H1,I1,r1,q1⟩=>?_
 obtain⟨a,e,⟨xs,hq⟩,q⟩:=q1
 subst e
 cases r1
 obtain⟨its,rv,p,hz⟩:=I1.tuple hq
 refine wpAny_pyIter_tuple (show s1.heap.IsTuple a its.toArray from p) ?_
 refine⟨s1.heap.objs.size,[s1.heap.objs.size],_,_,H1,rfl,I1.kept (t':=s1.toks) λb o e=>Heap.get?_push_of_some _ e,qw a _,⟨_,Heap.get?_push_size _ rfl,rfl,rfl⟩,λb hb=>?_,q⟩
 have e:b=s1.heap.objs.size:=by simpa using hb
 subst e
 exact I1.fpOk (Nat.le_refl _) (I1.hok.fresh (Nat.le_refl _))
theorem vq {pins:List (Addr×Obj)}{σ:St}{H:Hp}{s:Shared}{R:It->Hp->Prop}{E:Value->Shared->Prop}{lo hi:Int}{t u v:Tok}{tk:Nat}(I:Inv X pins σ H s)(h1 : -(2 ^ 62)<=lo)(h2:lo<2 ^ 62)(h3 : -(2 ^ 62)<=hi)(h4:hi<2 ^ 62)
  (q:R (Itr lo (hi-lo).toNat) H):wpAny (model X.prog X.w) X.A (pyIter (.ref s.heap.objs.size)) (PIE X pins σ tg R) E { s with heap:=s.heap.push { cls:=.type "range",data:=.fields #[.int lo t,.int hi u,.int 1 v] },toks:=tk }:=by
 refine wpAny_pyIter_range (IsRange.new ..) (small_one h1 h2 h3 h4) ?_
 have I1:Inv X pins σ H { s with heap:=s.heap.push { cls:=.type "range",data:=.fields #[.int lo t,.int hi u,.int 1 v] },toks:=tk }:=I.kept λb o e=>Heap.get?_push_of_some _ e
 refine⟨(s.heap.push { cls:=.type "range",data:=.fields #[.int lo t,.int hi u,.int 1 v] }).objs.size,[(s.heap.push { cls:=.type "range",data:=.fields #[.int lo t,.int hi u,.int 1 v] }).objs.size],_,_,H,rfl,
  I1.kept (t':=tk) λb o e=>Heap.get?_push_of_some _ e,qx _ lo (hi-lo).toNat,?_,λb hb=>?_,q⟩
 ·have e1:lo+((0:Nat):Int)*1=lo:=by simp
  have e2:(((hi-lo).toNat:Nat):Int)-((0:Nat):Int)=Builtin.Range.rangeSize lo hi 1:=by rw[rangeSize_one];split<;>omega
  show IsRangeIter _ _ (lo+((0:Nat):Int)*1) ((((hi-lo).toNat:Nat):Int)-((0:Nat):Int)) 1
  rw[e1,e2]
  exact Heap.get?_push_size _ rfl
 ·have e:b=(s.heap.push { cls:=.type "range",data:=.fields #[.int lo t,.int hi u,.int 1 v] }).objs.size:=by simpa using hb
  subst e
  exact I1.fpOk (Nat.le_refl _) (I1.hok.fresh (Nat.le_refl _))
def AM (ta:TA):TI:=λσ H R=>ta σ H λvs H1 => ∃ j:Int,vs=[.int j]/\-(2 ^ 62)<=j/\j<2 ^ 62/\R (Itr 0 j.toNat) H1
theorem uh {a:Expr}{ta:TA}{p pos:Pos}(hg:Gl X "range")(hm:X.mg "range"=none)(ha:PA X [a] ta)(hs:starEach [a] X.env=[(false,eval a X.env)]:=by rfl):PI X tg (.Call (.Name "range" p) [a] [] pos) (AM ta):=by
 intro pins s σ H R I h
 refine Call_ (js I hg hm boot_range (PyProof.Rows.callWith_type1 (thn (ha pos pins s σ H _ I h) λus s1 ⟨vs,H1,I1,r1,q1⟩=>?_) hs rfl))
 obtain⟨j,e,q1,q2,q⟩:=q1
 subst e
 cases r1 with
 |cons r rr =>
  cases rr
  obtain⟨t,rfl⟩:=r
  exact call_range_1 (vq I1 (by omega) (by omega) q1 q2 (by simpa using q))
def Br (wi:TI)(g:TG)(tb:TS):TS:=λD σ H=>wi σ H λJ H1 => ∃ W:Nat->Nat->St->Hp->Prop,(∃ m,W 0 m σ H1)/\∀ i m σ H,W i m σ H ->
 (J.stop i H/\D.nx σ H)∨(J.go i H/\∃ N:St->Hp->Prop,(∀ σ' H',N σ' H'->∃ m',m'<m/\W (i+1) m' σ' H')/\∀ x H',J.yld i H x H'->g x σ H' λσ2 H2=>tb { D with nx:=N,ct:=N,bk:=D.nx } σ2 H2)
def jm (fp:List Addr)(h:Heap):List (Addr×Obj):=fp.filterMap λb=>(h.get? b).map λo=>(b,o)
theorem fj {fp:List Addr}{h:Heap}{b:Addr}{o:Obj}(hb:b∈fp)(e:h.get? b=some o):(b,o)∈jm fp h:=List.mem_filterMap.mpr ⟨b,hb,by rw[e];rfl⟩
theorem um {fp:List Addr}{h:Heap}{p:Addr×Obj}(hp:p∈jm fp h):p.1∈fp/\h.get? p.1=some p.2:=by
 obtain⟨b,hb,e⟩:=List.mem_filterMap.mp hp
 cases q:h.get? b with
 |none=>rw[q] at e;cases e
 |some o =>
  rw[q] at e
  have e':(b,o)=p:=Option.some.inj e
  subst e'
  exact⟨hb,q⟩
theorem Inv.pinned {pins:List (Addr×Obj)}{σ:St}{H:Hp}{s:Shared}{fp:List Addr}(I:Inv X pins σ H s)(hf:∀ b∈fp,ge X pins H b)(ho:∀ b∈fp,∃ o,s.heap.get? b=some o/\∀ v,o.data≠.cell v):Inv X (pins++jm fp s.heap) σ H s:=
 I.pins_of λp hp=>(List.mem_append.mp hp).elim (λz=>I.pin p (List.mem_append_right _ z)) λz=>by
  obtain⟨hb,e⟩:=um z
  obtain⟨f0,f1,f2,_⟩:=hf p.1 hb
  obtain⟨o,e',d⟩:=ho p.1 hb
  rw[e] at e';cases e'
  exact⟨e,f0,f1,f2,d⟩
theorem Inv.unpinned {pins pl:List (Addr×Obj)}{σ:St}{H:Hp}{s:Shared}(I:Inv X (pins++pl) σ H s):Inv X pins σ H s:=I.pins_of λp hp=>I.pin p (List.mem_append_right _ (List.mem_append_left _ hp))
theorem yY {iter:Expr}{body:List Stmt}{wi:TI}{g:TG}{tb:TS}{pos:Pos}(hp:PassesOwn (model X.prog X.w) X.A X.env X.xe)(hc:X.calm=true)(hi:PI X tg iter wi)(hg:PG X tg g)(hb:PSs X body tb)
  (hs:∀ x,foldedSetIterable iter X.env x=pure x:=by intro _;rfl):PS X (.For tg iter body [] pos) (Br wi g tb):=by
 intro pins s σ H D I h
 refine wpAny_For (thn (hi pins s σ H _ I h) λv s1 h1=>thn h1 λitv s2 h2=>?_) hs
 obtain⟨it,fp,tn,J,H2,e,I2,T,st2,f2,W,⟨m0,w0⟩,turn⟩:=h2
 subst e
 have stat:∀ {H':Hp},(∀ b∈fp,H' b=none)->∀ b∈fp,ge X pins H' b:=λhn b hb=>⟨hn b hb,(f2 b hb).2⟩
 refine codeAny_forLoop_any (λn s' => ∃ i σ' H',Inv X pins σ' H' s'/\tn i s'.heap/\(∀ b∈fp,H' b=none)/\W i n σ' H') ?_ m0 ⟨0,σ,H2,I2,st2,λb hb=>(f2 b hb).1,w0⟩
 rintro n s3 ⟨i,σ3,H3,I3,st3,fr3,w3⟩
 rcases turn i n σ3 H3 w3 with ⟨stop,qn⟩ |⟨go,N,hN,step⟩
 ·refine wpAny_passesOwn hp (thn (T.done X rfl rfl rfl hc i pins s3 σ3 H3 X.xe I3 (stat fr3) st3 stop) λr s4 ⟨hr,I4⟩=>?_)
  subst hr
  exact wpAny_execs_nil ⟨σ3,H3,I4,qn⟩
 ·refine wpAny_passesOwn hp (thn (T.item X rfl rfl rfl hc i pins s3 σ3 H3 X.xe I3 (stat fr3) st3 go) λr s4 ⟨u,hr,h4⟩=>?_)
  subst hr
  refine wpAny_passesOwn hp (thn h4 λ_ s5 ⟨x,H5,I5,r5,y5,st5,fr5⟩=>?_)
  have I5':=I5.pinned (stat fr5) (T.obj _ _ st5)
  refine wpAny_passesOwn hp (thn (hg _ s5 σ3 H5 x u _ I5' r5 (step x H5 y5)) λ_ s6 ⟨σ6,H6,I6,q6⟩=>?_)
  refine wpAny_passesOwn hp (thn (hb _ s6 σ6 H6 _ I6 q6) λf s7 q7=>?_)
  have again:∀ {σ7:St}{H7:Hp},Inv X (pins++jm fp s5.heap) σ7 H7 s7->N σ7 H7->∃ m,m<n/\∃ i σ' H',Inv X pins σ' H' s7/\tn i s7.heap/\(∀ b∈fp,H' b=none)/\W i m σ' H':=λ{σ7 H7} I7 n7=>by
   obtain⟨m',hm,w7⟩:=hN σ7 H7 n7
   refine⟨m',hm,i+1,σ7,H7,I7.unpinned,T.keep _ _ _ st5 λb hb o e=>(I7.pin (b,o) (List.mem_append_right _ (List.mem_append_right _ (fj hb e)))).1,λb hb=>?_,w7⟩
   obtain⟨o,e,d⟩:=T.obj _ _ st5 b hb
   exact (I7.pin (b,o) (List.mem_append_right _ (List.mem_append_right _ (fj hb e)))).2.1
  cases f with
  |next=>obtain⟨σ7,H7,I7,n7⟩:=q7;exact again I7 n7
  |cont=>obtain⟨σ7,H7,I7,n7⟩:=q7;exact again I7 n7
  |brk=>obtain⟨σ7,H7,I7,q7⟩:=q7;exact⟨σ7,H7,I7.unpinned,q7⟩
  |ret v=>obtain⟨x7,σ7,H7,I7,r7,q7⟩:=q7;exact⟨x7,σ7,H7,I7.unpinned,r7,q7⟩
end
abbrev R2:=V->V->Hp->VK->Prop
def OpR (X:Cx)(f:Value->Value->Sem Value)(r:R2):Prop:=
 ∀ (pins:List (Addr×Obj)) (s:Shared) (σ:St) (H:Hp) (x y:V) (v u:Value) (Q:VK),Inv X pins σ H s->RelV x v->RelV y u->r x y H Q ->
  wpAny (model X.prog X.w) X.A (f v u) (EP X pins σ Q) X.xe s
def UnR (X:Cx)(f:Value->Sem Value)(r:V->Hp->VK->Prop):Prop:=
 ∀ (pins:List (Addr×Obj)) (s:Shared) (σ:St) (H:Hp) (x:V) (v:Value) (Q:VK),Inv X pins σ H s->RelV x v->r x H Q ->
  wpAny (model X.prog X.w) X.A (f v) (EP X pins σ Q) X.xe s
def gR (X:Cx)(f:Value)(r:List V->Hp->VK->Prop):Prop:=
 ∀ (pins:List (Addr×Obj)) (s:Shared) (σ:St) (H:Hp) (xs:List V) (us:List Value) (Q:VK),Inv X pins σ H s->Vals xs us->r xs H Q ->
  wpAny (model X.prog X.w) X.A (call f us) (EP X pins σ Q) X.xe s
def tOp (r:R2)(ta tb:TE):TE:=λσ H Q=>ta σ H λx H1=>tb σ H1 λy H2=>r x y H2 Q
def tUn (r:V->Hp->VK->Prop)(ta:TE):TE:=λσ H Q=>ta σ H λx H1=>r x H1 Q
def rI (C:Int->Int->Prop)(g:Int->Int->V):R2:=λx y H Q => ∃ i j,x = .int i/\y = .int j/\C i j/\Q (g i j) H
def rI0 (g:Int->Int->V):R2:=λx y H Q => ∃ i j,x = .int i/\y = .int j/\Q (g i j) H
def rU (g:Int->V):V->Hp->VK->Prop:=λx H Q => ∃ i,x = .int i/\Q (g i) H
section
variable {X:Cx}{a b c:Expr}{ta tb tc:TE}{pos:Pos}
theorem zS (ha:PE X a ta)(hb:PE X b tb){pins:List (Addr×Obj)}{s:Shared}{σ:St}{H:Hp}{R:V->V->Hp->Prop}(I:Inv X pins σ H s)
  (h:ta σ H λx H1=>tb σ H1 λy H2=>R x y H2) {Q:Value->Shared->Prop}{f:Value->Value->Sem Value}
  (hf:∀ v u s2 x y H2,Inv X pins σ H2 s2->RelV x v->RelV y u->R x y H2->wpAny (model X.prog X.w) X.A (f v u) Q X.xe s2) :
  wpAny (model X.prog X.w) X.A (eval a X.env) (λv s₁=>wpAny (model X.prog X.w) X.A (eval b X.env) (λu s₂=>wpAny (model X.prog X.w) X.A (f v u) Q X.xe s₂) X.xe s₁) X.xe s:=by
 refine thn (ha pins s σ H _ I h) λv s1 ⟨x,H1,I1,r1,q1⟩=>?_
 refine thn (hb pins s1 σ H1 _ I1 q1) λu s2 ⟨y,H2,I2,r2,q2⟩=>?_
 exact hf v u s2 x y H2 I2 r1 r2 q2
theorem yj {op:Operator}{r:R2}(ho:OpR X (binaryOp op) r)(ha:PE X a ta)(hb:PE X b tb):PE X (.BinOp a op b pos) (tOp r ta tb):=by
 intro pins s σ H Q I h
 exact wpAny_BinOp (zS ha hb I h λv u s2 x y H2 I2 rx ry q=>ho pins s2 σ H2 x y v u Q I2 rx ry q)
theorem Aw {op:UnaryOp}{r:V->Hp->VK->Prop}(ho:UnR X (unaryOp op) r)(ha:PE X a ta):PE X (.UnaryOp op a pos) (tUn r ta):=by
 intro pins s σ H Q I h
 exact UnaryOp_ (thn (ha pins s σ H _ I h) λv s1 ⟨x,H1,I1,r1,q1⟩=>ho pins s1 σ H1 x v Q I1 r1 q1)
theorem opI {f:Value->Value->Sem Value}{C:Int->Int->Prop}{g:Int->Int->Int}
  (rule:∀ (i j:Int) (t u:Tok) (s:Shared) (Q:Value->Shared->Prop) (E:Value->Shared->Prop),C i j->Q (.int (g i j) s.toks) { s with toks:=s.toks+1 }->wpAny (model X.prog X.w) X.A (f (.int i t) (.int j u)) Q E s) :
  OpR X f (rI C λi j => .int (g i j)):=by
 intro pins s σ H x y v u Q I rx ry h
 obtain⟨i,j,rfl,rfl,hc,q⟩:=h
 obtain⟨t,rfl⟩:=rx
 obtain⟨t',rfl⟩:=ry
 exact rule i j t t' s _ _ hc ⟨.int (g i j),H,I.tok _,⟨_,rfl⟩,q⟩
theorem Ay {f:Value->Value->Sem Value}{g:Int->Int->Int}
  (rule:∀ (i j:Int) (t u:Tok) (s:Shared) (Q:Value->Shared->Prop) (E:Value->Shared->Prop),Q (.int (g i j) s.toks) { s with toks:=s.toks+1 }->wpAny (model X.prog X.w) X.A (f (.int i t) (.int j u)) Q E s) :
  OpR X f (rI0 λi j => .int (g i j)):=by
 intro pins s σ H x y v u Q I rx ry h
 obtain⟨i,j,rfl,rfl,q⟩:=h
 obtain⟨t,rfl⟩:=rx
 obtain⟨t',rfl⟩:=ry
 exact rule i j t t' s _ _ ⟨.int (g i j),H,I.tok _,⟨_,rfl⟩,q⟩
theorem BB {f:Value->Value->Sem Value}{g:Int->Int->Bool}
  (rule:∀ (i j:Int) (t u:Tok) (s:Shared) (Q:Value->Shared->Prop) (E:Value->Shared->Prop),Q (.bool (g i j)) s->wpAny (model X.prog X.w) X.A (f (.int i t) (.int j u)) Q E s) :
  OpR X f (rI0 λi j => .bl (g i j)):=by
 intro pins s σ H x y v u Q I rx ry h
 obtain⟨i,j,rfl,rfl,q⟩:=h
 obtain⟨t,rfl⟩:=rx
 obtain⟨t',rfl⟩:=ry
 exact rule i j t t' s _ _ ⟨.bl (g i j),H,I,rfl,q⟩
def Cd (i j:Int):Prop:=0<j/\j<1073741824
def CMul (i j:Int):Prop:=(-(2 ^ 64)<i/\i<2 ^ 64)∨(-(2 ^ 64)<j/\j<2 ^ 64)
theorem CMul.ok {i j:Int}(h:CMul i j):IntMulOk i j:=by
 rcases h with ⟨h1,h2⟩ |⟨h1,h2⟩
 ·exact .of_left (intBits_le_64 h1 h2)
 ·exact .of_right (intBits_le_64 h1 h2)
theorem zm:OpR X (binaryOp .Add) (rI0 λi j => .int (i+j)):=Ay λ_ _ _ _ _ _ _ q=>add_int q
theorem zb:OpR X (binaryOp .Sub) (rI0 λi j => .int (i-j)):=Ay λ_ _ _ _ _ _ _ q=>sub_int q
theorem zj:OpR X (binaryOp .Mult) (rI CMul λi j => .int (i*j)):=opI λ_ _ _ _ _ _ _ hc q=>mul_int q hc.ok
theorem xx:OpR X (binaryOp .FloorDiv) (rI Cd λi j => .int (i / j)):=opI λi j _ _ _ _ _ hc q=>by
 have h1:(0:Int)<j:=hc.1
 have h2:j<1073741824:=hc.2
 exact floordiv_int (by omega) (by rw[Int.fdiv_eq_ediv_of_nonneg i (by omega)];exact q) (.inl (PyProof.noPylong_small (by omega)))
theorem zk:OpR X (binaryOp .Mod) (rI (λ_ j => 0<j) λi j => .int (i % j)):=opI λi j _ _ _ _ _ hc q=>by
 have h1:(0:Int)<j:=hc
 exact mod_int' (by omega) (by rw[Int.fmod_eq_emod_of_nonneg i (by omega)];exact q)
theorem unI {f:Value->Sem Value}{g:Int->Int}
  (rule:∀ (i:Int) (t:Tok) (s:Shared) (Q:Value->Shared->Prop) (E:Value->Shared->Prop),Q (.int (g i) s.toks) { s with toks:=s.toks+1 }->wpAny (model X.prog X.w) X.A (f (.int i t)) Q E s) :
  UnR X f (rU λi => .int (g i)):=by
 intro pins s σ H x v Q I rx h
 obtain⟨i,rfl,q⟩:=h
 obtain⟨t,rfl⟩:=rx
 exact rule i t s _ _ ⟨.int (g i),H,I.tok _,⟨_,rfl⟩,q⟩
theorem yx:UnR X (unaryOp .USub) (rU λi => .int (-i)):=unI λ_ _ _ _ _ q=>neg_int q
end
section
variable {X:Cx}{a b c:Expr}{ta tb tc:TE}{pos:Pos}
theorem zF {pins:List (Addr×Obj)}{σ:St}{H:Hp}{s:Shared}{Q:VK}{k k':Bool}(I:Inv X pins σ H s)(q:Q (.bl k) H)(e:k=k'):EP X pins σ Q (.bool k') s:=by
 subst e
 exact⟨.bl k,H,I,rfl,q⟩
theorem Ax:OpR X (compareOp .Lt) (rI0 λi j => .bl (decide (i<j))):=BB λ_ _ _ _ _ _ _ q=>lt_int q
theorem ul:OpR X (compareOp .Lt) (λx y H Q => ∃ i j,x = .str i/\y = .str j/\Q (.bl (decide (i.cps.toList<j.cps.toList))) H):=by
 intro pins s σ H x y v u Q I rx ry h
 obtain⟨i,j,rfl,rfl,q⟩:=h
 obtain⟨t,rfl⟩:=rx
 obtain⟨t',rfl⟩:=ry
 exact lt_str (zF I q rfl)
theorem vI (b:Expr){op:CmpOp}(h:op≠.In:=by decide)(h2:op≠.NotIn:=by decide):behindInMarks op b=false:=by
 have e1:(op==CmpOp.In)=false:=by cases op<;>first |rfl |exact absurd rfl h
 have e2:(op==CmpOp.NotIn)=false:=by cases op<;>first |rfl |exact absurd rfl h2
 cases b<;>simp[behindInMarks,e1,e2]
theorem xv {op:CmpOp}{r:R2}(ho:OpR X (compareOp op) r)(ha:PE X a ta)(hb:PE X b tb)(hm:behindInMarks op b=false):PE X (.Compare a [op] [b] pos) (tOp r ta tb):=by
 intro pins s σ H Q I h
 exact wpAny_Compare1 (zS ha hb I h λv u s2 x y H2 I2 rx ry q=>ho pins s2 σ H2 x y v u Q I2 rx ry q) hm
def tTest (t:TE):TT:=λσ H Q=>t σ H λx H' => ∃ k,x = .bl k/\Q k H'
theorem xh {op:CmpOp}{r:R2}(ho:OpR X (compareOp op) r)(ha:PE X a ta)(hb:PE X b tb)(hm:behindInMarks op b=false):PT X (.Compare a [op] [b] pos) (tTest (tOp r ta tb)):=by
 intro pins s σ H Q I h
 refine wpAny_isTrue_Compare1 (thn (ha pins s σ H _ I h) λv s1 ⟨x,H1,I1,r1,q1⟩=>thn (hb pins s1 σ H1 _ I1 q1) λu s2 ⟨y,H2,I2,r2,q2⟩ =>
  thn (ho pins s2 σ H2 x y v u _ I2 r1 r2 q2) λc s3 ⟨z,H3,I3,r3,k,e,q3⟩=>?_) hm
 subst e
 cases r3
 exact wpAny_truthy_bool ⟨H3,I3,q3⟩
theorem jr:(sizeLine:Nat)<2 ^ 63:=by rw[sizeLine_eq];decide
theorem qU:OpR X (binaryOp .Add) (λx y H Q => ∃ i j,x = .str i/\y = .str j/\i.length+j.length<=sizeLine/\Q (.str (i++j)) H):=by
 intro pins s σ H x y v u Q I rx ry h
 obtain⟨i,j,rfl,rfl,hz,q⟩:=h
 obtain⟨t,rfl⟩:=rx
 obtain⟨t',rfl⟩:=ry
 exact add_str (λt' tk=>⟨.str (i++j),H,I.tok _,⟨_,rfl⟩,q⟩) hz
theorem vals1 {x:V}{us:List Value}(r:Vals [x] us):∃ u,us=[u]/\RelV x u:=by
 cases r with
 |cons r1 r2=>cases r2;exact⟨_,rfl,r1⟩
theorem vals2 {x y:V}{us:List Value}(r:Vals [x,y] us):∃ u w',us=[u,w']/\RelV x u/\RelV y w':=by
 cases r with
 |cons r1 r2 =>
  cases r2 with
  |cons r3 r4=>cases r4;exact⟨_,_,rfl,r1,r3⟩
theorem m5:gR X (.type "int") (λxs H Q=>(∃ i,xs=[.int i]/\Q (.int i) H)∨∃ k,xs=[.bl k]/\Q (.int (if k then 1 else 0)) H):=by
 intro pins s σ H xs us Q I r h
 rcases h with ⟨i,rfl,q⟩ |⟨k,rfl,q⟩
 ·obtain⟨u,rfl,t,rfl⟩:=vals1 r
  exact call_int_int ⟨.int i,H,I,⟨_,rfl⟩,q⟩
 ·obtain⟨u,rfl,r1⟩:=vals1 r
  cases r1
  exact call_int_bool ⟨.int (if k then 1 else 0),H,I.tok _,⟨_,rfl⟩,q⟩
end
structure ObjM (h:Heap) (x dx C:Addr) (mA:Str->Option Value):Prop where
 obj:h.get? x=some (PySem.W.instObj C dx)
 ns:h.Ns1 dx mA
 ne:dx≠x
theorem uy {h:Heap}{dx:Addr}{mA:Str->Option Value}(n:h.Ns1 dx mA):∃ od,h.get? dx=some od/\∀ name,PySem.W.lookIn name od=some (mA name):=by
 obtain⟨o,es,ep,ho,hd,hk,_,hm⟩:=n
 refine⟨o,ho,λname=>?_⟩
 have e:=hm name
 unfold nsFind findBy at e
 rw[← Array.find?_toList] at e
 unfold PySem.W.lookIn
 rw[hd]
 dsimp only
 split
 ·rename_i y q
  rw[q] at e
  exact congrArg some e
 ·rename_i q
  rw[q] at e
  have a:es.toList.any (·.refKey)=false:=by
   rw[List.any_eq_false]
   intro y hy
   obtain⟨z,t,hkey⟩:=hk y (Array.mem_toList_iff.mp hy)
   simp[DictEntry.refKey,hkey]
  have a':¬ es.toList.any (·.refKey)=true:=by rw[a];exact Bool.false_ne_true
  rw[if_neg a']
  exact congrArg some e
theorem ObjM.look {h:Heap}{x dx C:Addr}{mA:Str->Option Value}(I:ObjM h x dx C mA):∃ od,PySem.W.InstAt h x (PySem.W.instObj C dx) C (some od)/\∀ name,PySem.W.lookIn name od=some (mA name):=
 let ⟨od,ho,hl⟩:=uy I.ns
 ⟨od,⟨I.obj,rfl,rfl,ho⟩,hl⟩
section
variable {prog:Program}{w:World}{A:Around}{E:Value->Shared->Prop}{s:Shared}{K:PySem.W.Frag}{x dx C f:Addr}{mA:Str->Option Value}{name:Str}{v:Value}
theorem get_map {expr:Bool}{Q:Value->Shared->Prop}(X:K.In s.heap)(I:ObjM s.heap x dx C mA)(hg:PySem.W.plainGet K C name=true)(hh:PySem.W.hasDictIn K C=true)
  (ha:PySem.W.findIn K (.ref C) name=some none) (hv:mA name=some v) (hv':PySem.W.handedIn v=true) (h:Q v { s with toks:=s.toks+1 }) :
  wpAny (model prog w) A (getAttr (.ref x) name expr) Q E s:=by
 obtain⟨od,J,hl⟩:=I.look
 exact PySem.W.get_value X J (PySem.W.plainGet_of hg).1 (PySem.W.findObj_own hh ha rfl (by rw[hl,hv])) hv' h
theorem wa {pl:Sem Bool}{Q:Value×List Value->Shared->Prop}(X:K.In s.heap)(I:ObjM s.heap x dx C mA)(hg:PySem.W.plainGet K C name=true)
  (hf:PySem.W.findIn K (.ref C) name=some (some (.ref f))) (ht:PySem.W.isFn K (.ref f)=true) (hv:mA name=none) (h:Q (.ref f,[.ref x]) s) :
  wpAny (model prog w) A (getMethod (.ref x) name pl) Q E s:=by
 obtain⟨od,J,hl⟩:=I.look
 exact PySem.W.method_fn X J (PySem.W.plainGet_of hg).1 (PySem.W.plainGet_of hg).2 hf (beq_iff_eq.mp ht) (by show (PySem.W.lookIn name od).map (·.isSome)=some false;rw[hl,hv];rfl) h
theorem w6 {ns:List Str}{Q:Unit->Shared->Prop}(X:K.In s.heap)(I:ObjM s.heap x dx C mA)
  (hs:PySem.W.findIn K (.ref C) "__setattr__"=some (some (.builtin "object.__setattr__"))) (hp:PySem.W.plainOver K C=true) (ht:PySem.W.takerIn K C name=some none) (hh:PySem.W.hasDictIn K C=true)
  (hw:PySem.Within mA ns) (hsz:ns.length<=sizeLine)
  (h:∀ h',ObjM h' x dx C (λy=>if y=name then some v else mA y)->Heap.SameBut dx s.heap h'->Q () { s with heap:=h',toks:=s.toks+2 }) :
  wpAny (model prog w) A (setAttr (.ref x) name v) Q E s:=by
 obtain⟨od,J,hl⟩:=I.look
 refine PySem.W.set_plain X J hs (PySem.W.osa_open (s:={ s with toks:=s.toks+1 }) (r:=none) X J hp ht λb=>?_)
 obtain⟨cd,hc,hd'⟩:=PySem.W.any_some hh
 have hx:s.heap.get? x=some ⟨.ref C,some dx,.plain,#[]⟩:=I.obj
 refine wpAny_bind (wpAny_pure (wpAny_bind (wpAny_bind (wpAny_loadPart hx (wpAny_bind (PySem.W.Looks.here (s:={ s with toks:=s.toks+1 }) (PySem.W.looks_clsIn X hc) ?_))))))
 rw[hd']
 refine wpAny_pure (a:=some dx) (wpAny_bind (wpAny_pure (wpAny_bind ?_)))
 refine wpAny_nsSet1 (s:={ s with toks:=s.toks+1 }) I.ns λh' hn2 hs2=>?_
 obtain⟨oD,esD,epD,hoD,hdD,hcD⟩:=hn2.count (PySem.Within.cons name v hw)
 refine wpAny_bind (wpAny_lookBehind hoD (by rw[hdD];exact pastItsLine_dict (Nat.le_trans hcD (by rw[List.length_cons];omega))) ?_)
 exact wpAny_pure (h _ ⟨(hs2.2 _ (Ne.symm I.ne)).trans I.obj,hn2,I.ne⟩ hs2)
theorem vW {R:Result->Shared->Prop}{vs:List Value}{kw:List (Str×Value)}(X:K.In s.heap)(hm:PySem.W.makesIn K C=true)
  (hi:PySem.W.findIn K (.ref C) "__init__"=some (some (.ref f))) (hf:PySem.W.typeIn K (.ref f)=some (.type "function"))
  (h:codeAny (model prog w) (A.under (.builtin "type.__call__" ⟨.ref C::vs,kw⟩)) (.call (.ref f) ⟨.ref (s.heap.objs.size+1)::vs,kw⟩) (PySem.W.InitBack (s.heap.objs.size+1) R)
   { s with heap:=(s.heap.push PySem.W.emptyDict).push (PySem.W.instObj C s.heap.objs.size) }) :
  codeAny (model prog w) A (.call (.ref C) ⟨vs,kw⟩) R s:=by
 obtain⟨hh,g,d,t,os⟩:=s
 exact PySem.W.make_core (PySem.W.makes_of X hm) (PySem.W.looks_findIn X hi) (λself=>PySem.W.bind_fn X self hf) (.inl rfl) h
end
def dY (f:Str)(v:V):List (Str×V)->List (Str×V)
 |[]=>[(f,v)]
 |(g,x)::r=>if g=f then (g,v)::r else (g,x)::dY f v r
theorem jR (f g:Str)(v:V):∀ fs:List (Str×V),(dY f v fs).lookup g=if g=f then some v else fs.lookup g
 |[]=>by
  show List.lookup g [(f,v)]=_
  by_cases h:g=f
  ·have hb:(g==f)=true:=beq_iff_eq.mpr h
   simp only[List.lookup,hb,if_pos h]
  ·have hb:(g==f)=false:=beq_eq_false_iff_ne.mpr h
   simp only[List.lookup,hb,if_neg h]
 |(k,x)::r=>by
  have ih:=jR f g v r
  rw[show dY f v ((k,x)::r)=(if k=f then (k,v)::r else (k,x)::dY f v r) from rfl]
  by_cases hk:k=f
  ·rw[if_pos hk]
   by_cases h:g=k
   ·have hb:(g==k)=true:=beq_iff_eq.mpr h
    simp only[List.lookup,hb,if_pos (h.trans hk)]
   ·have hb:(g==k)=false:=beq_eq_false_iff_ne.mpr h
    simp only[List.lookup,hb,if_neg (λe:g=f=>h (e.trans hk.symm))]
  ·rw[if_neg hk]
   by_cases h:g=k
   ·have hb:(g==k)=true:=beq_iff_eq.mpr h
    simp only[List.lookup,hb,if_neg (λe:g=f=>hk (h.symm.trans e))]
   ·have hb:(g==k)=false:=beq_eq_false_iff_ne.mpr h
    simp only[List.lookup,hb]
    exact ih
theorem ju (f:Str)(v:V):∀ fs:List (Str×V),f∈(dY f v fs).map (·.1)/\∀ g,g∈fs.map (·.1)->g∈(dY f v fs).map (·.1)
 |[]=>⟨by simp[dY],λg h=>by simp at h⟩
 |(k,x)::r=>by
  obtain⟨i1,i2⟩:=ju f v r
  rw[show dY f v ((k,x)::r)=(if k=f then (k,v)::r else (k,x)::dY f v r) from rfl]
  by_cases hk:k=f
  ·rw[if_pos hk]
   subst hk
   exact⟨by simp,λg h=>by simpa using h⟩
  ·rw[if_neg hk]
   refine⟨?_,λg h=>?_⟩
   ·rw[List.map_cons]
    exact List.mem_cons_of_mem _ i1
   ·rw[List.map_cons] at h ⊢
    rcases List.mem_cons.mp h with e |e
    ·exact List.mem_cons.mpr (.inl e)
    ·exact List.mem_cons_of_mem _ (i2 g e)
theorem jT (f:Str)(v:V):∀ fs:List (Str×V),(dY f v fs).length<=fs.length+1
 |[]=>by simp[dY]
 |(k,x)::r=>by
  have ih:=jT f v r
  rw[show dY f v ((k,x)::r)=(if k=f then (k,v)::r else (k,x)::dY f v r) from rfl]
  by_cases hk:k=f
  ·rw[if_pos hk,List.length_cons,List.length_cons];omega
  ·rw[if_neg hk,List.length_cons,List.length_cons];omega
theorem RelO.some_of {v:V}{o:Option Value}(r:RelO (some v) o):∃ u,o=some u/\RelV v u:=by
 cases o with
 |none=>exact (show False from r).elim
 |some u=>exact⟨u,rfl,r⟩
theorem RelO.none_of {o:Option Value}(r:RelO none o):o=none:=by
 cases o with
 |none=>rfl
 |some u=>exact (show False from r).elim
theorem uG {v:V}{u:Value}(r:RelV v u):PySem.W.handedIn u=true:=by
 cases v with
 |non=>cases (show u=Value.none from r);rfl
 |bl b=>cases (show u=Value.bool b from r);rfl
 |int i=>obtain⟨t,e⟩:=(show ∃ t,u=Value.int i t from r);cases e;rfl
 |str x=>obtain⟨t,e⟩:=(show ∃ t,u=Value.str x t from r);cases e;rfl
 |byt b=>obtain⟨t,e⟩:=(show ∃ t,u=Value.bytes b t from r);cases e;rfl
 |flt b=>obtain⟨t,e⟩:=(show ∃ t,u=Value.float b t from r);cases e;rfl
 |ref a=>cases (show u=Value.ref a from r);rfl
 |ty n=>cases (show u=Value.type n from r);rfl
section
variable {P:Program}{w:World}{H H':Hp}{h h':Heap}{a C dx:Addr}{fs fs':List (Str×V)}
theorem nY (hok:HOk P w H h)(e:H a=some (.ins C dx fs)):∃ mA,ObjM h a dx C mA/\(∀ f,RelO (fs.lookup f) (mA f))/\PySem.Within mA (fs.map (·.1))/\fs.length<=1000/\H dx=some (.own a):=by
 obtain⟨d,z,ne,ob,mA,n,r,q⟩:=(show ObjOk P w H h a (.ins C dx fs) from hok a _ e)
 exact⟨mA,⟨ob,n,ne⟩,r,q,z,d⟩
end
structure Cls (K:PySem.W.Frag) (C:Addr):Prop where
 pg:PySem.W.plainGet K C Str.empty=true
 hd:PySem.W.hasDictIn K C=true
 po:PySem.W.plainOver K C=true
 sa:PySem.W.findIn K (.ref C) "__setattr__"=some (some (.builtin "object.__setattr__"))
theorem Cls.get {K:PySem.W.Frag}{C:Addr}(c:Cls K C)(f:Str):PySem.W.plainGet K C f=true:=c.pg
def NoAttr (K:PySem.W.Frag)(C:Addr)(f:Str):Prop:=PySem.W.findIn K (.ref C) f=some none
theorem NoAttr.taker {K:PySem.W.Frag}{C:Addr}{f:Str}(n:NoAttr K C f):PySem.W.takerIn K C f=some none:=by
 unfold PySem.W.takerIn
 rw[show PySem.W.findIn K (.ref C) f=some none from n]
 rfl
structure Con (K:PySem.W.Frag) (C:Addr) (f:Str) (v:V) (u:Value):Prop where
 at_:PySem.W.findIn K (.ref C) f=some (some u)
 rel:RelV v u
 get:PySem.W.specialIn K u "__get__"=some none
 cp:PySem.W.copiedNames.contains f=false
structure Meth (K:PySem.W.Frag) (C:Addr) (m:Str) (f:Addr):Prop where
 at_:PySem.W.findIn K (.ref C) m=some (some (.ref f))
 fn:PySem.W.isFn K (.ref f)=true
 kp:PySem.W.keepIn K (.ref f)=true
section
variable {X:Cx}{pins:List (Addr×Obj)}{σ:St}{H:Hp}{s:Shared}{a C dx:Addr}{fs:List (Str×V)}{f:Str}{v:V}{A:Around}{E:Value->Shared->Prop}
theorem rA {b:Bool}{Q:Value->Shared->Prop}(I:Inv X pins σ H s)(e:H a=some (.ins C dx fs))(c:Cls X.K C)(n:NoAttr X.K C f)(l:fs.lookup f=some v)
  (h:∀ u s',Inv X pins σ H s'->RelV v u->Q u s'):wpAny (model X.prog X.w) A (getAttr (.ref a) f b) Q E s:=by
 obtain⟨mA,O,r,_,_,_⟩:=nY I.hok e
 obtain⟨u,hu,ru⟩:=RelO.some_of (v:=v) (o:=mA f) (by rw[← l];exact r f)
 exact get_map I.kIn O (c.get f) c.hd n hu (uG ru) (h u _ (I.tok _) ru)
theorem lc {m:Str}{g:Addr}{pl:Sem Bool}{Q:Value×List Value->Shared->Prop}(I:Inv X pins σ H s)(e:H a=some (.ins C dx fs))(c:Cls X.K C)(k:Meth X.K C m g)(l:fs.lookup m=none)
  (h:Q (.ref g,[.ref a]) s):wpAny (model X.prog X.w) A (getMethod (.ref a) m pl) Q E s:=by
 obtain⟨mA,O,r,_,_,_⟩:=nY I.hok e
 have hn:mA m=none:=RelO.none_of (by rw[← l];exact r m)
 exact wa I.kIn O (c.get m) k.at_ k.fn hn h
theorem qK {y:V}{u:Value}{Q:Unit->Shared->Prop}(I:Inv X pins σ H s)(e:H a=some (.ins C dx fs))(c:Cls X.K C)(n:NoAttr X.K C f)(hl:fs.length<1000)(ry:RelV y u)
  (h:∀ s',Inv X pins σ (upd H a (.ins C dx (dY f y fs))) s'->Q () s'):wpAny (model X.prog X.w) A (setAttr (.ref a) f u) Q E s:=by
 obtain⟨mA,O,r,wi,_,ho⟩:=nY I.hok e
 have hz:(fs.map (·.1)).length<=sizeLine:=by rw[List.length_map,sizeLine_eq];omega
 refine w6 I.kIn O c.sa c.po n.taker c.hd wi hz λh' O' sb=>h _ ?_
 have hd:∃ o,h'.get? dx=some o:=let ⟨o,_,_,e',_⟩:=O'.ns;⟨o,e'⟩
 refine I.write (x:=a) (e:=dx) (by rw[e];exact True.intro) (.inr ho) (λb q hb z=>(sb.2 b hb).trans z) hd ?_
 refine⟨by rw[au O.ne];exact ho,?_,O.ne,O'.obj,_,O'.ns,λg=>?_,λg hg=>?_⟩
 ·have:=jT f y fs;omega
 ·show RelO ((dY f y fs).lookup g) (if g=f then some u else mA g)
  rw[jR]
  by_cases q:g=f
  ·rw[if_pos q,if_pos q];exact ry
  ·rw[if_neg q,if_neg q];exact r g
 ·by_cases q:g=f
  ·rw[q];exact (ju f y fs).1
  ·refine (ju f y fs).2 g (wi g λz=>hg ?_)
   show (if g=f then some u else mA g)=none
   rw[if_neg q];exact z
theorem Inv.made (I:Inv X pins σ H s):Inv X pins σ (upd (upd H s.heap.objs.size (.own (s.heap.objs.size+1))) (s.heap.objs.size+1) (.ins C s.heap.objs.size []))
  { s with heap:=(s.heap.push PySem.W.emptyDict).push (PySem.W.instObj C s.heap.objs.size) }:=by
 have e1:(s.heap.push PySem.W.emptyDict).get? s.heap.objs.size=some PySem.W.emptyDict:=Heap.get?_push_size s.heap rfl
 have e2:((s.heap.push PySem.W.emptyDict).push (PySem.W.instObj C s.heap.objs.size)).get? (s.heap.objs.size+1)=some (PySem.W.instObj C s.heap.objs.size):=by
  have:=Heap.get?_push_size (s.heap.push PySem.W.emptyDict) (o:=PySem.W.instObj C s.heap.objs.size) rfl
  rwa [Heap.size_push] at this
 have e3:(s.heap.push PySem.W.emptyDict).Ns s.heap.objs.size (λ_=>none):=⟨PySem.W.emptyDict,#[],_,e1,rfl,(λe he=>absurd he (by simp)),λ_=>rfl⟩
 have I1:=I.laid (a:=s.heap.objs.size) (o:=.own (s.heap.objs.size+1)) (h':=s.heap.push PySem.W.emptyDict) (t':=s.toks) (λb u q=>Heap.get?_push_of_some _ q) (Nat.le_refl _) ⟨_,e1⟩
 refine I1.laid (a:=s.heap.objs.size+1) (o:=.ins C s.heap.objs.size []) (t':=s.toks) (λb u q=>Heap.get?_push_of_some _ q) (Nat.le_of_eq (Heap.size_push _ _)) ?_
 have ne:s.heap.objs.size≠s.heap.objs.size+1:=Nat.ne_of_lt (Nat.lt_succ_self _)
 refine⟨by rw[au ne,upd_same],Nat.zero_le _,ne,e2,λ_=>none,(Heap.Ns1.of_empty e3).at λo q=>Heap.get?_push_of_some _ q,λ_=>True.intro,λy hy=>absurd rfl hy⟩
theorem x9 {prog:Program}{w:World}{env:Env}{e:Expr}{f:Str}{pos:Pos}{s:Shared}{Q:Value->Shared->Prop}(hb:attributeBase e f env (eval e env)=eval e env)
  (h:wpAny (model prog w) A (eval e env) (λo s₁=>wpAny (model prog w) A (getAttr o f true) Q E s₁) E s):wpAny (model prog w) A (eval (.Attribute e f pos) env) Q E s:=
 Attribute_any_ h (by rw[arm_eval_Attribute,hb])
end
def Bs (K:PySem.W.Frag)(ta:TE)(f:Str):TE:=λσ H Q=>ta σ H λx H1 => ∃ a C dx fs v,x = .ref a/\H1 a=some (.ins C dx fs)/\Cls K C/\NoAttr K C f/\fs.lookup f=some v/\Q v H1
def Bu (K:PySem.W.Frag)(ta tv:TE)(f:Str):TS:=λD σ H=>tv σ H λy H1=>ta σ H1 λx H2 => ∃ a C dx fs,x = .ref a/\H2 a=some (.ins C dx fs)/\Cls K C/\NoAttr K C f/\fs.length<1000 /\
 D.nx σ (upd H2 a (.ins C dx (dY f y fs)))
section
variable {X:Cx}{o e value:Expr}{f:Str}{pos pos' tpos:Pos}{ta tv:TE}
theorem y8 (he:PE X e ta)(hb:attributeBase e f X.env (eval e X.env)=eval e X.env):PE X (.Attribute e f pos) (Bs X.K ta f):=by
 intro pins s σ H Q I h
 refine x9 hb (thn (he pins s σ H _ I h) λu s1 ⟨x,H1,I1,rx,a,C,dx,fs,v,ex,ea,c,n,l,q⟩=>?_)
 subst ex
 obtain rfl:u=Value.ref a:=rx
 exact rA I1 ea c n l λu' s2 I2 ru=>⟨v,H1,I2,ru,q⟩
theorem yZ (ha:PE X o ta)(hv:PE X value tv)(hs:swapsWith value (some (.Attribute o f pos')) pos.line X.env=pure false):PS X (.Assign [.Attribute o f pos'] value pos) (Bu X.K ta tv f):=by
 intro pins s σ H D I h
 refine plainObj_wpAny_Assign_Attribute (thn (hv pins s σ H _ I h) λu s1 ⟨y,H1,I1,ry,q⟩=>thn (ha pins s1 σ H1 _ I1 q) λov s2 ⟨x,H2,I2,rx,a,C,dx,fs,ex,ea,c,n,l,q2⟩=>?_) hs
 subst ex
 obtain rfl:ov=Value.ref a:=rx
 exact qK I2 ea c n l ry λs3 I3=>⟨σ,_,I3,q2⟩
theorem yo {pl:Sem Bool}{m:Str}{apos:Pos}{args:List Expr}{pins:List (Addr×Obj)}{s:Shared}{σ:St}{H:Hp}{Q:Value->Shared->Prop}{te:TE}(he:PE X e te)(I:Inv X pins σ H s)
  (h:te σ H λx H1 => ∃ a C dx fs g,x = .ref a/\H1 a=some (.ins C dx fs)/\Cls X.K C/\Meth X.K C m g/\fs.lookup m=none /\
   ∀ s1,Inv X pins σ H1 s1->wpAny (model X.prog X.w) X.A (callWith pos (.ref g) [.ref a] (backTo pos (starEach args X.env)) (backToKw pos (keywordEach [] X.env))) Q X.xe s1)
  (ht:eval (.Call (.Attribute e m apos) args [] pos) X.env=(do
   let ov ← eval e X.env
   standAt apos.atName
   let (f,first) ← holding [ov] (getMethod ov m pl)
   callWith pos f first (backTo pos (starEach args X.env)) (backToKw pos (keywordEach [] X.env)))) :
  wpAny (model X.prog X.w) X.A (eval (.Call (.Attribute e m apos) args [] pos) X.env) Q X.xe s:=by
 refine PySem.W.methodCall_KW (pl:=pl) (thn (he pins s σ H _ I h) λu s1 ⟨x,H1,I1,rx,a,C,dx,fs,g,ex,ea,c,k,l,q⟩=>?_) ht
 subst ex
 obtain rfl:u=Value.ref a:=rx
 exact lc I1 ea c k l (q s1 I1)
end
section
variable {X:Cx}{pins:List (Addr×Obj)}{σ:St}{H:Hp}{s:Shared}{A:Around}{E:Value->Shared->Prop}{Q:Value->Shared->Prop}{c:Value}{b:Bool}
inductive TyOf (K:PySem.W.Frag) (H:Hp):V->Value->Prop where
 |non:TyOf K H .non (.type "NoneType")
 |bl (x:Bool):TyOf K H (.bl x) (.type "bool")
 |int (i:Int):TyOf K H (.int i) (.type "int")
 |str (x:Str):TyOf K H (.str x) (.type "str")
 |flt (x:UInt64):TyOf K H (.flt x) (.type "float")
 |lst {a:Addr}{xs:List V}(e:H a=some (.lst xs)):TyOf K H (.ref a) (.type "list")
 |frz {a:Addr}{o:Obj}{xs:List V}(e:H a=some (.frz o (.lst xs))):TyOf K H (.ref a) (.type "list")
 |tup {a:Addr}{xs:List V}(e:H a=some (.tup xs)):TyOf K H (.ref a) (.type "tuple")
 |dK {a:Addr}{kvs:List (Key×V)}(e:H a=some (.dK kvs)):TyOf K H (.ref a) (.type "dict")
 |dT {a:Addr}{kvs:List (List Key×V)}(e:H a=some (.dT kvs)):TyOf K H (.ref a) (.type "dict")
 |ins {a C dx:Addr}{fs:List (Str×V)}(e:H a=some (.ins C dx fs)) (cl:Cls K C) (ha:PySem.W.findIn K (.ref C) "__class__"=some (some (.builtin "object.__class__")))
   (hn:PySem.W.specialIn K (.builtin "object.__class__") "__get__"=some (some (.builtin "getset_descriptor.__get__"))) (htk:PySem.W.takesIn K (.builtin "object.__class__")=some true)
   (hm:PySem.W.mroIn K C (.type "object")=some true):TyOf K H (.ref a) (.ref C)
end
structure Room (k:Nat) (A:Around):Prop where
 hd:A.handled=none
 dp:A.depth+3*k+5<recursionLimit
 un:A.units+16*k+200<cLine
 gd:A.guards=some []
theorem Room.mono {j k:Nat}{A:Around}(r:Room k A)(h:j<=k):Room j A:=⟨r.hd,by have:=r.dp;omega,by have:=r.un;omega,r.gd⟩
theorem Room.deeper {k:Nat}{A:Around}(r:Room (k+1) A)(env:Env):Room k (A.deeper env):=
 ⟨r.hd,by have:=r.dp;show A.depth+1+3*k+5 < _;omega,by have:=r.un;show A.units+3+16*k+200 < _;omega,r.gd⟩
theorem rc {A:Around}{C:Addr}{us:List Value}{kw:List (Str×Value)}:(A.under (.builtin "type.__call__" ⟨.ref C::us,kw⟩)).depth=A.depth+1:=by
 first |rfl |simp[Around.under,Code.weight,Code.isCreation,Code.isGuard,Code.isCaller,Code.frames,Code.isFrame,guardIds]
theorem q_ {A:Around}{C:Addr}{us:List Value}{kw:List (Str×Value)}:(A.under (.builtin "type.__call__" ⟨.ref C::us,kw⟩)).units=A.units+1:=by
 first |rfl |simp[Around.under,Code.cUnits,Code.frames,Code.isFrame]
theorem pB {A:Around}{C:Addr}{us:List Value}{kw:List (Str×Value)}:(A.under (.builtin "type.__call__" ⟨.ref C::us,kw⟩)).guards=A.guards:=by
 first |rfl |simp[Around.under,Code.guards,Code.isGuard,guardIds,pushGuards]
theorem Room.make {k:Nat}{A:Around}(r:Room (k+1) A)(C:Addr)(us:List Value)(kw:List (Str×Value)):Room k (A.under (.builtin "type.__call__" ⟨.ref C::us,kw⟩)):=
 ⟨r.hd,by have:=r.dp;rw[rc];omega,by have:=r.un;rw[q_];omega,by rw[pB];exact r.gd⟩
theorem Room.depth {k:Nat}{A:Around}(r:Room k A):A.depth<recursionLimit:=by have:=r.dp;omega
theorem Room.units {k:Nat}{A:Around}(r:Room k A):A.units+64<cLine:=by have:=r.un;omega
def nE:TA:=λ_ H Q=>Q [] H
def yd (ta:TE)(tr:TA):TA:=λσ H Q=>ta σ H λx H1=>tr σ H1 λxs H2=>Q (x::xs) H2
section
variable {X:Cx}{e:Expr}{es:List Expr}{te:TE}{t:TA}{pos:Pos}
theorem pa_nil:PA X [] nE:=λ_ _ _ _ H Q I h=>Calls.spliced_nil ⟨[],H,I,.nil,h⟩
theorem dJ (ha:PE X e te)(hr:PA X es t)(hs:starEach (e::es) X.env=(false,eval e X.env)::starEach es X.env:=by rfl):PA X (e::es) (yd te t):=by
 intro pos pins s σ H Q I h
 rw[hs]
 show wpAny _ _ (spliced ((false,eval e X.env)::backTo pos (starEach es X.env))) _ _ s
 refine Calls.spliced_cons (thn (ha pins s σ H _ I h) λu s1 ⟨x,H1,I1,r1,q1⟩=>?_)
 exact thn (hr pos pins s1 σ H1 _ I1 q1) λus s2 ⟨xs,H2,I2,r2,q2⟩=>⟨x::xs,H2,I2,.cons r1 r2,q2⟩
def Bn (t:TA):TE:=λσ H Q=>t σ H λxs H1=>xs.length<=sizeLine/\∀ p,H1 p=none->Q (.ref p) (upd H1 p (.tup xs))
def Bp (t:TA):TE:=λσ H Q=>t σ H λxs H1=>xs.length<=sizeLine/\∀ p,H1 p=none->Q (.ref p) (upd H1 p (.lst xs))
theorem y7 {x1}(h:PA X es t):PE X (.Tuple es x1 pos) (Bn t):=by
 intro pins s σ H Q I hq
 refine wpAny_Tuple_spliced (thn (h pos pins s σ H _ I hq) λus s1 ⟨xs,H1,I1,r,z,q⟩=>⟨by rw[← r.length];exact z,?_⟩)
 have hf:H1 s1.heap.objs.size=none:=I1.hok.fresh (Nat.le_refl _)
 refine⟨.ref s1.heap.objs.size,upd H1 s1.heap.objs.size (.tup xs),I1.laid (t':=s1.toks) (λb u e=>Heap.get?_push_of_some _ e) (Nat.le_refl _) ?_,rfl,q _ hf⟩
 exact⟨z,us,r,TupN.new _ _⟩
theorem qR (h:PA X es t):PE X (.List es pos) (Bp t):=by
 intro pins s σ H Q I hq
 refine wpAny_List_spliced (thn (h pos pins s σ H _ I hq) λus s1 ⟨xs,H1,I1,r,z,q⟩=>⟨by rw[← r.length];exact z,?_⟩)
 have hf:H1 s1.heap.objs.size=none:=I1.hok.fresh (Nat.le_refl _)
 refine⟨.ref s1.heap.objs.size,upd H1 s1.heap.objs.size (.lst xs),I1.laid (t':=s1.toks) (λb u e=>Heap.get?_push_of_some _ e) (Nat.le_refl _) ?_,rfl,q _ hf⟩
 exact⟨z,us,0,r,Heap.get?_push_size _ rfl⟩
end
abbrev Sp:=List V->Hp->VK->XK->Prop
abbrev CXT:=List Env->Hp->Shared->XK->Value->Shared->Prop
structure Env0 (P:Program) (w:World) (K:PySem.W.Frag) (mg:Str->Option Value) (base:Heap) (A:Around) (outer:List Env) (s:Shared) (H:Hp):Prop where
 frames:A.frames=some outer
 mod:Mod K mg base
 bs:∀ b o,base.get? b=some o->s.heap.get? b=some o/\H b=none
 bsz:base.objs.size<=s.heap.objs.size
 funs:s.heap.FunFrames base outer
 frf:∀ b∈frs outer,H b=none
 hok:HOk P w H s.heap
 bare:AllBare s.gens
def CE (outer:List Env)(P:Program)(w:World)(H:Hp)(s:Shared)(Q:VK)(u:Value)(s':Shared):Prop:=
 ∃ v H',s'.os=s.os/\AllBare s'.gens/\Un (frs outer) [] H H' s.heap s'.heap/\HOk P w H' s'.heap/\RelV v u/\Q v H'
def CR (CX:CXT)(outer:List Env)(P:Program)(w:World)(H:Hp)(s:Shared)(Q:VK)(E:XK)(r:Result)(s':Shared):Prop:=
 match r with
 | .ok (.ret u)=>CE outer P w H s Q u s'
 | .ok _=>False
 | .error e=>CX outer H s E e s'
structure FnOk (P:Program) (w:World) (K:PySem.W.Frag) (mg:Str->Option Value) (base:Heap) (CX:CXT) (k:Nat) (f:Addr) (fd:FuncData) (ps:List Str) (sp:Sp):Prop where
 len:∀ vs H Q E,sp vs H Q E->vs.length=ps.length
 run:∀ (A:Around) (outer:List Env) (s:Shared) (H:Hp) (args:Args) (us:List Value) (vs:List V) (Q:VK) (E:XK),Room k A->Env0 P w K mg base A outer s H->BindsTo s fd args (ps.zip us)->Vals vs us->sp vs H Q E ->
  codeAny (model P w) A (.call (.ref f) args) (CR CX outer P w H s Q E) s
theorem FnOk.imp {P:Program}{w:World}{K:PySem.W.Frag}{mg:Str->Option Value}{base:Heap}{CX:CXT}{k:Nat}{f:Addr}{fd:FuncData}{ps:List Str}{sp sp':Sp}(F:FnOk P w K mg base CX k f fd ps sp)
  (h:∀ vs H Q E,sp' vs H Q E->sp vs H Q E):FnOk P w K mg base CX k f fd ps sp':=
 ⟨λvs H Q E q=>F.len vs H Q E (h _ _ _ _ q),λA outer s H args us vs Q E hr he hb hv hs=>F.run A outer s H args us vs Q E hr he hb hv (h _ _ _ _ hs)⟩
theorem Env0.make {P:Program}{w:World}{K:PySem.W.Frag}{mg:Str->Option Value}{base:Heap}{A:Around}{outer:List Env}{s:Shared}{H:Hp}(e:Env0 P w K mg base A outer s H)(C:Addr)(us:List Value)(kw:List (Str×Value)) :
  Env0 P w K mg base (A.under (.builtin "type.__call__" ⟨.ref C::us,kw⟩)) outer s H:=⟨by first |exact e.frames |(simpa [Around.under,Code.envs,Code.isFrame,pushEnvs] using e.frames),e.mod,e.bs,e.bsz,e.funs,e.frf,e.hok,e.bare⟩
section
variable {X:Cx}{pins:List (Addr×Obj)}{σ:St}{H:Hp}{s s':Shared}
theorem Inv.env0 (I:Inv X pins σ H s):Env0 X.prog X.w X.K X.mg X.base X.A X.stack s H:=
 ⟨I.ok.frames,I.ok.mod,I.bs,Nat.le_trans I.ok.bsz I.sz,I.stack,I.stkFree,I.hok,I.bare⟩
theorem Inv.after {Q:VK}{u:Value}(I:Inv X pins σ H s)(h:CE X.stack X.prog X.w H s Q u s'):EP X pins σ Q u s':=by
 obtain⟨v,H',os,bare,un,hok,r,q⟩:=h
 obtain⟨hh,g,d,t,os'⟩:=s'
 obtain rfl:os'=s.os:=os
 exact⟨v,H',I.call (h':=hh) (g':=g) (d':=d) (t':=t) (ch:=[]) un hok bare (λb z=>absurd z (by simp)),r,q⟩
end
def ye (sp:Sp)(dvs:List V)(E:XK)(t:TA):TE:=λσ H Q=>t σ H λvs H1=>sp (vs++dvs) H1 Q E
def Ag (C:Addr)(m:Str)(sp:Sp)(dvs:List V)(E:XK)(ta:TE)(t:TA):TE:=λσ H Q=>ta σ H λx H1 => ∃ a dx fs,x = .ref a/\H1 a=some (.ins C dx fs)/\fs.lookup m=none /\
 t σ H1 λvs H2=>sp (x::(vs++dvs)) H2 Q E
def Ah (C:Addr)(sp:Sp)(dvs:List V)(E:XK)(t:TA):TE:=λσ H Q=>t σ H λvs H1 => ∀ x dx,H1 x=none->H1 dx=none->dx≠x ->
 sp (.ref x::(vs++dvs)) (upd (upd H1 dx (.own x)) x (.ins C dx [])) (λv H2=>v = .non/\Q (.ref x) H2) E
def Binds (K:PySem.W.Frag)(fd:FuncData)(ps:List Str)(ds:List Value):Prop:=
 ∀ (s:Shared) (us:List Value),K.In s.heap->(us++ds).length=ps.length->BindsTo s fd ⟨us,[]⟩ (ps.zip (us++ds))
theorem Binds.all {K:PySem.W.Frag}{fd:FuncData}{ps:List Str}(h:∀ us:List Value,us.length=ps.length->bindArgs fd ⟨us,[]⟩=pure (ps.zip us)):Binds K fd ps []:=λs us _ hl=>by
 rw[List.append_nil] at hl ⊢
 exact .of_eq (h us hl)
def Passes (CX:CXT)(X:Cx)(E:XK):Prop:=∀ (pins:List (Addr×Obj)) (σ:St) (H:Hp) (s:Shared) (e:Value) (s':Shared),Inv X pins σ H s->CX X.stack H s E e s'->X.xe e s'
section
variable {X:Cx}{CX:CXT}{k:Nat}{f C:Addr}{fd:FuncData}{ps:List Str}{sp:Sp}{dvs:List V}{ds:List Value}{E:XK}{x m:Str}{p pos apos:Pos}{e o:Expr}{es:List Expr}{ta:TE}{t:TA}
theorem vm {pins:List (Addr×Obj)}{σ:St}{H:Hp}{s:Shared}{Q:VK}{us:List Value}{vs:List V}(F:FnOk X.prog X.w X.K X.mg X.base CX k f fd ps sp)(hr:Room k X.A)(hb:Binds X.K fd ps ds)(hd:Vals dvs ds)(hx:Passes CX X E)
  (I:Inv X pins σ H s) (r:Vals vs us) (h:sp (vs++dvs) H Q E):wpAny (model X.prog X.w) X.A (call (.ref f) us) (EP X pins σ Q) X.xe s:=by
 have r2:Vals (vs++dvs) (us++ds):=r.append hd
 have hl:(us++ds).length=ps.length:=by rw[← r2.length];exact F.len _ _ _ _ h
 refine wpAny_call (codeAny_mono (F.run X.A X.stack s H ⟨us,[]⟩ (us++ds) (vs++dvs) Q E hr I.env0 (hb s us I.kIn hl) r2 h) λr s' hq=>?_)
 cases r with
 |error e=>exact hx pins σ H s e s' I hq
 |ok fl =>
  cases fl with
  |ret u=>exact I.after hq
  |next=>exact False.elim hq
  |brk=>exact False.elim hq
  |cont=>exact False.elim hq
theorem xw (F:FnOk X.prog X.w X.K X.mg X.base CX k f fd ps sp)(hr:Room k X.A)(hg:Gl X x)(hm:X.mg x=some (.ref f))(hk:PySem.W.keepIn X.K (.ref f)=true)(hb:Binds X.K fd ps ds)(hd:Vals dvs ds)(hx:Passes CX X E)
  (ha:PA X (e::es) t) (hdb:(x==("__debug__":Str))=false:=by decide) (he:starEach (e::es) X.env=(false,eval e X.env)::starEach es X.env:=by rfl) (hpl:(backTo pos (starEach es X.env)).any (·.1)=false:=by rfl) :
  PE X (.Call (.Name x p) (e::es) [] pos) (ye sp dvs E t):=by
 intro pins s σ H Q I h
 refine wpAny_Call_Name_kw (sN I hg hm ?_ hdb)
 refine PySem.W.callWith_K (h₀:=X.base) I.ok.mod.kin hk (thn (ha pos pins s σ H _ I h) λus s1 ⟨vs,H1,I1,r,q⟩=>⟨I1.kIn,?_⟩) he hpl
 exact vm F hr hb hd hx I1 r q
theorem xr {pl:Sem Bool}(he:PE X o ta)(c:Cls X.K C)(hm:Meth X.K C m f)(F:FnOk X.prog X.w X.K X.mg X.base CX k f fd ps sp)(hr:Room k X.A)(hb:Binds X.K fd ps ds)(hd:Vals dvs ds)(hx:Passes CX X E)(ha:PA X (e::es) t)
  (hst:starEach (e::es) X.env=(false,eval e X.env)::starEach es X.env:=by rfl) (hpl:(backTo pos (starEach es X.env)).any (·.1)=false:=by rfl)
  (ht:eval (.Call (.Attribute o m apos) (e::es) [] pos) X.env=(do
   let ov ← eval o X.env
   standAt apos.atName
   let (f,first) ← holding [ov] (getMethod ov m pl)
   callWith pos f first (backTo pos (starEach (e::es) X.env)) (backToKw pos (keywordEach [] X.env))):=by rfl) :
  PE X (.Call (.Attribute o m apos) (e::es) [] pos) (Ag C m sp dvs E ta t):=by
 intro pins s σ H Q I h
 refine PySem.W.methodCall_KW (pl:=pl) (thn (he pins s σ H _ I h) λu s1 ⟨x,H1,I1,rx,a,dx,fs,ex,ea,l,q⟩=>?_) ht
 subst ex
 obtain rfl:u=Value.ref a:=rx
 refine lc I1 ea c hm l ?_
 refine PySem.W.callWith_K (first:=[.ref a]) (h₀:=X.base) I.ok.mod.kin hm.kp (thn (ha pos pins s1 σ H1 _ I1 q) λus s2 ⟨vs,H2,I2,r,q2⟩=>⟨I2.kIn,?_⟩) hst hpl
 exact vm (us:=.ref a::us) (vs:=.ref a::vs) F hr hb hd hx I2 (.cons rfl r) q2
structure Mk (K:PySem.W.Frag) (C f:Addr):Prop where
 makes:PySem.W.makesIn K C=true
 init:PySem.W.findIn K (.ref C) "__init__"=some (some (.ref f))
 fn:PySem.W.isFn K (.ref f)=true
 kp:PySem.W.keepIn K (.ref C)=true
theorem vk {pins:List (Addr×Obj)}{σ:St}{H:Hp}{s:Shared}{Q:VK}{us:List Value}{vs:List V}(M:Mk X.K C f)(F:FnOk X.prog X.w X.K X.mg X.base CX k f fd ps sp)(hr:Room (k+1) X.A)(hb:Binds X.K fd ps ds)(hd:Vals dvs ds)
  (hx:Passes CX X E) (I:Inv X pins σ H s) (r:Vals vs us)
  (h:∀ x dx,H x=none->H dx=none->dx≠x->sp (.ref x::(vs++dvs)) (upd (upd H dx (.own x)) x (.ins C dx [])) (λv H2=>v = .non/\Q (.ref x) H2) E) :
  wpAny (model X.prog X.w) X.A (call (.ref C) us) (EP X pins σ Q) X.xe s:=by
 have hq:=h (s.heap.objs.size+1) s.heap.objs.size (I.hok.fresh (Nat.le_succ _)) (I.hok.fresh (Nat.le_refl _)) (Nat.ne_of_lt (Nat.lt_succ_self _))
 have I2:=Inv.made (C:=C) I
 have r2:Vals (V.ref (s.heap.objs.size+1)::(vs++dvs)) (Value.ref (s.heap.objs.size+1)::(us++ds)):=.cons rfl (r.append hd)
 have hl:(Value.ref (s.heap.objs.size+1)::us++ds).length=ps.length:=by
  have e:=r2.length
  rw[F.len _ _ _ _ hq] at e
  exact e.symm
 refine wpAny_call (vW (f:=f) I.kIn M.makes M.init (beq_iff_eq.mp M.fn) (codeAny_mono (F.run _ X.stack _ _ ⟨Value.ref (s.heap.objs.size+1)::us,[]⟩ (Value.ref (s.heap.objs.size+1)::(us++ds)) _ _ E (hr.make C us [])
  (I2.env0.make C us []) (hb _ (Value.ref (s.heap.objs.size+1)::us) I2.kIn hl) r2 hq) λr s' hq'=>?_))
 cases r with
 |error e=>exact hx pins σ _ _ e s' I2 hq'
 |ok fl =>
  cases fl with
  |ret u =>
   obtain⟨v,H',I3,rv,ev,q3⟩:=I2.after hq'
   subst ev
   exact⟨rv,⟨V.ref (s.heap.objs.size+1),H',I3,rfl,q3⟩⟩
  |next=>exact False.elim hq'
  |brk=>exact False.elim hq'
  |cont=>exact False.elim hq'
theorem xt (M:Mk X.K C f)(F:FnOk X.prog X.w X.K X.mg X.base CX k f fd ps sp)(hr:Room (k+1) X.A)(hg:Gl X x)(hm:X.mg x=some (.ref C))(hb:Binds X.K fd ps ds)(hd:Vals dvs ds)(hx:Passes CX X E)
  (ha:PA X (e::es) t) (hdb:(x==("__debug__":Str))=false:=by decide) (he:starEach (e::es) X.env=(false,eval e X.env)::starEach es X.env:=by rfl) (hpl:(backTo pos (starEach es X.env)).any (·.1)=false:=by rfl) :
  PE X (.Call (.Name x p) (e::es) [] pos) (Ah C sp dvs E t):=by
 intro pins s σ H Q I h
 refine wpAny_Call_Name_kw (sN I hg hm ?_ hdb)
 refine PySem.W.callWith_K (h₀:=X.base) I.ok.mod.kin M.kp (thn (ha pos pins s σ H _ I h) λus s1 ⟨vs,H1,I1,r,q⟩=>⟨I1.kIn,?_⟩) he hpl
 exact vk M F hr hb hd hx I1 r q
end
section
variable {X:Cx}{CX:CXT}{k:Nat}{f C:Addr}{fd:FuncData}{ps ks:List Str}{sp:Sp}{E:XK}{x m:Str}{p pos apos kpos:Pos}{e o:Expr}{es:List Expr}{kws:List Keyword}{te ta:TE}{t tk:TA}{nm:Option Str}
structure KBinds (K:PySem.W.Frag) (fd:FuncData) (ps ks:List Str) (g:List Value->List Value->List Value) (gV:List V->List V->List V):Prop where
 to:∀ (s:Shared) (us ws:List Value),K.In s.heap->(g us ws).length=ps.length->BindsTo s fd ⟨us,ks.zip ws⟩ (ps.zip (g us ws))
 rel:∀ {vs:List V}{us:List Value}{zs:List V}{ws:List Value},Vals vs us->Vals zs ws->Vals (gV vs zs) (g us ws)
variable {g:List Value->List Value->List Value}{gV:List V->List V->List V}
end
structure FnScope (N P:List Str) (sc:Scope):Prop where
 kind:sc.kind = .function
 co:sc.isCoroutine=false
 gen:sc.isGenerator=false
 nd:N.Nodup
 pre:N.take P.length=P
 par:∀ x∈P,sc.names.lookup x=some .local∨sc.names.lookup x=some .cell
 nofree:∀ y∈sc.names,y.2≠.free
theorem ng {kindOf:Str->Option NameKind}{x:Str}:∀ {binds:List (Str×Value)}{m:Str->Option Value},(∀ v,(x,v)∉binds)->bindL kindOf binds m x=m x
 |[],_,_=>rfl
 |(n,v)::r,m,h=>by
  unfold bindL
  rw[ng λw hw=>h w (List.mem_cons_of_mem _ hw)]
  split
  ·have:x≠n:=by rintro rfl;exact h v List.mem_cons_self
   simp[this]
  ·rfl
theorem ni {kindOf:Str->Option NameKind}{x:Str}:∀ {binds:List (Str×Value)}{m:Str->Option Value},(∀ v,(x,v)∉binds)->bindC kindOf binds m x=m x
 |[],_,_=>rfl
 |(n,v)::r,m,h=>by
  unfold bindC
  rw[ni λw hw=>h w (List.mem_cons_of_mem _ hw)]
  split
  ·rfl
  ·have:x≠n:=by rintro rfl;exact h v List.mem_cons_self
   simp[this]
theorem nh {kindOf:Str->Option NameKind}{x:Str}{v:Value}:∀ {P:List Str}{vs:List Value}{i:Nat}{m:Str->Option Value},P.Nodup->P[i]?=some x->vs[i]?=some v->kindOf x=some .local ->
  bindL kindOf (P.zip vs) m x=some v
 |[],_,_,_,_,h,_,_=>by simp at h
 |_::_,[],_,_,_,_,h,_=>by simp at h
 |p::P,w::vs,0,m,nd,h1,h2,hk=>by
  simp at h1 h2;subst h1;subst h2
  show bindL kindOf ((p,w)::P.zip vs) m p=_
  unfold bindL
  rw[ng λv hv=>(List.nodup_cons.mp nd).1 (List.of_mem_zip hv).1,if_pos hk]
  simp
 |p::P,w::vs,i+1,m,nd,h1,h2,hk=>by
  show bindL kindOf ((p,w)::P.zip vs) m x=_
  unfold bindL
  exact nh (i:=i) (List.nodup_cons.mp nd).2 (by simpa using h1) (by simpa using h2) hk
theorem nj {kindOf:Str->Option NameKind}{x:Str}{v:Value}:∀ {P:List Str}{vs:List Value}{i:Nat}{m:Str->Option Value},P.Nodup->P[i]?=some x->vs[i]?=some v->kindOf x≠some .local ->
  bindC kindOf (P.zip vs) m x=some v
 |[],_,_,_,_,h,_,_=>by simp at h
 |_::_,[],_,_,_,_,h,_=>by simp at h
 |p::P,w::vs,0,m,nd,h1,h2,hk=>by
  simp at h1 h2;subst h1;subst h2
  show bindC kindOf ((p,w)::P.zip vs) m p=_
  unfold bindC
  rw[ni λv hv=>(List.nodup_cons.mp nd).1 (List.of_mem_zip hv).1,if_neg hk]
  simp
 |p::P,w::vs,i+1,m,nd,h1,h2,hk=>by
  show bindC kindOf ((p,w)::P.zip vs) m x=_
  unfold bindC
  exact nj (i:=i) (List.nodup_cons.mp nd).2 (by simpa using h1) (by simpa using h2) hk
def start (N:List Str)(vs:List V):St:=vs.map some++List.replicate (N.length-vs.length) none
def j1 (CX:CXT)(P:Program)(w:World)(K:PySem.W.Frag)(mg:Str->Option Value)(base:Heap)(N:List Str)(qual:Str)(scope:Scope)(f:Addr)(cd:Value)(A:Around)(outer:List Env)(s:Shared)(H:Hp)(E:XK):Cx where
 prog:=P
 w:=w
 K:=K
 mg:=mg
 base:=base
 A:=A.deeper (envOfC qual scope s.heap.objs.size f cd)
 N:=N
 s₀:=s
 H₀:=H
 env:=envOfC qual scope s.heap.objs.size f cd
 outer:=outer
 stack:=envOfC qual scope s.heap.objs.size f cd::outer
 ex:=[]
 calm:=true
 fn:=λ_=>true
 pn:=[]
 xe:=λe s'=>wpAny (model P w) (A.deeper (envOfC qual scope s.heap.objs.size f cd)) (leaving (envOfC qual scope s.heap.objs.size f cd) e) (λ_ s''=>CX outer H s E e s'') (λe' s''=>CX outer H s E e' s'') s'
theorem pY {sc:Scope}{n:Nat}{x:Str}(h:sc.names.lookup x=some .cell):∃ c,(cellsFrom n sc.names []).lookup x=some c:=by
 have q:=PySem.W.cellsFrom_some sc.names n [] (.inl h)
 exact Option.isSome_iff_exists.mp q
theorem uE {CX:CXT}{P:Program}{w:World}{K:PySem.W.Frag}{mg:Str->Option Value}{base:Heap}{N ps:List Str}{qual:Str}{scope:Scope}{f:Addr}{cd:Value}{A:Around}{outer:List Env}{s s1:Shared}{H:Hp}{E:XK}{us:List Value}{vs:List V}
  (S:FnScope N ps scope) (hd:A.handled=none) (e0:Env0 P w K mg base A outer s H) (hl:vs.length=ps.length) (r:Vals vs us)
  (x:InCallC s s.heap.objs.size (bindL (envOfC qual scope s.heap.objs.size f cd).kindOf (ps.zip us) λ_=>none) (cellsFrom (s.heap.objs.size+1) scope.names []) (bindC (envOfC qual scope s.heap.objs.size f cd).kindOf (ps.zip us) λ_=>none) s1) :
  Inv (j1 CX P w K mg base N qual scope f cd A outer s H E) [] (start N vs) H s1:=by
 have hpl:ps.length<=N.length:=by have:=congrArg List.length S.pre;rw[List.length_take] at this;omega
 obtain⟨h1,tk,rfl,hk⟩:=x.done
 have noA:∀ b:Addr,b∉(j1 CX P w K mg base N qual scope f cd A outer s H E).ex:=λb z=>absurd (show b∈([]:List Addr) from z) (by simp)
 refine⟨⟨e0.mod,S.kind,rfl,rfl,Nat.le_refl _,λy z c h1 h2=>?_,λy hy=>?_,λy c _ h=>?_,λ_=>hd,Around.frames_deeper e0.frames,.inr ⟨rfl,rfl⟩,λb z=>absurd z (noA b),e0.bs,e0.bsz,λb _ _=>noA b,λb z=>absurd z (noA b),e0.funs,e0.frf⟩,
  rfl,e0.bare,Un.kept hk,⟨_,x.toInCall.ns,λi y v h1 h2 h3=>?_⟩,λy c h=>⟨_,x.cell y c h⟩,e0.hok.fresh (Nat.le_refl _),λy c h=>?_,λp hp=>absurd (show p∈([]:List (Addr×Obj)) from hp) (by simp),e0.hok.kept hk,?_⟩
 ·exact name_of_addr x.apart (PySem.mem_of_lookup h1) (PySem.mem_of_lookup h2)
 ·have hy:scope.names.lookup y=some .cell∨scope.names.lookup y=some .free:=hy
  rcases hy with hy |hy
  ·exact pY hy
  ·exact absurd rfl (S.nofree _ (PySem.mem_of_lookup hy))
 ·exact Nat.le_of_lt (x.above y c (PySem.mem_of_lookup h))
 ·have hi:i<vs.length:=by
   unfold start at h2
   by_cases hi:i<vs.length
   ·exact hi
   ·rw[List.getElem?_append_right (by simpa using hi)] at h2
    rw[List.getElem?_replicate] at h2
    split at h2<;>cases h2
  have ha:vs[i]?=some v:=by
   unfold start at h2
   rw[List.getElem?_append_left (by simpa using hi),List.getElem?_map] at h2
   cases e:vs[i]? with
   |none=>rw[e] at h2;cases h2
   |some a=>rw[e] at h2;cases h2;rfl
  obtain⟨u,hu,rv⟩:=r.get ha
  have hp:ps[i]?=some y:=by
   rw[← S.pre,List.getElem?_take_of_lt (by omega)];exact h1
  have ndP:ps.Nodup:=by rw[← S.pre];exact S.nd.sublist (List.take_sublist _ _)
  refine⟨u,rv,?_⟩
  rcases S.par y (List.mem_of_getElem? hp) with k |k
  ·exact .inl ⟨k,nh ndP hp hu k⟩
  ·obtain⟨c,e⟩:=pY (n:=s.heap.objs.size+1) k
   refine .inr ⟨.inl k,c,e,?_⟩
   have q:=x.cell y c e
   rw[nj ndP hp hu (by show scope.names.lookup y≠_;rw[k];decide)] at q
   exact q
 ·exact e0.hok.fresh (Nat.le_of_lt (x.above y c (PySem.mem_of_lookup h)))
 ·unfold start
  show _=N.length
  rw[List.length_append,List.length_map,List.length_replicate]
  omega
theorem AQ {CX:CXT}{P:Program}{w:World}{K:PySem.W.Frag}{mg:Str->Option Value}{base:Heap}{k:Nat}{f:Addr}{name qual:Str}{params:Arguments}{body:List Stmt}{scope:Scope}{dV kV doc pm cdv ct oc:Value}{an od:Option Addr}
  {osl:Array (Option Value)}{N ps:List Str}{sp:Sp}(lk:K.lookup f=some ⟨oc,od,.func (PySem.W.fnOf name qual params body scope dV kV doc pm an cdv ct),osl⟩) (hcd:PySem.W.codeIn K cdv qual=true) (S:FnScope N ps scope)
  (len:∀ vs H Q E,sp vs H Q E->vs.length=ps.length)
  (hbody:∀ (A:Around) (outer:List Env) (s:Shared) (H:Hp) (vs:List V) (Q:VK) (E:XK),Room k (A.deeper (envOfC qual scope s.heap.objs.size f cdv))->sp vs H Q E ->
   ∃ t,PSs (j1 CX P w K mg base N qual scope f cdv A outer s H E) body t/\t { nx:=λ_ H'=>Q .non H',rt:=Q } (start N vs) H) :
  FnOk P w K mg base CX (k+1) f (PySem.W.fnOf name qual params body scope dV kV doc pm an cdv ct) ps sp:=by
 refine⟨len,λA outer s H args us vs Q E hr e0 hb r hsp=>?_⟩
 have hl:=len _ _ _ _ hsp
 have KX:K.In s.heap:=e0.mod.kin.keeps λb o e=>(e0.bs b o e).1
 have lim:s.heap.NoLimit:=e0.mod.nolimit.keeps λb o e=>(e0.bs b o e).1
 have hkind:∀ y∈ps.zip us,scope.names.lookup y.1=some .local∨(scope.names.lookup y.1=some .cell/\((cellsFrom (s.heap.objs.size+1) scope.names []).lookup y.1).isSome=true):=λ⟨n,v⟩ hy=>by
  rcases S.par n (List.of_mem_zip hy).1 with q |q
  ·exact .inl q
  ·exact .inr ⟨q,PySem.W.cellsFrom_some _ _ _ (.inl q)⟩
 refine codeAny_call_function hr.depth (KX _ _ lk) rfl S.co S.gen rfl (PySem.W.codeRec_of KX hcd) (hb _ _ _ _ ?_)
 refine wpAny_newFunctionEnv_cells S.kind hkind λenv he s1 x=>?_
 subst he
 refine⟨lim.keeps x.toInCall.keep,codeAny_func ?_⟩
 obtain⟨t,ht,hq⟩:=hbody A outer s H vs Q E (hr.deeper _) hsp
 have I:Inv (j1 CX P w K mg base N qual scope f cdv A outer s H E) [] (start N vs) H s1:=uE S hr.hd e0 hl r x
 refine wpAny_mono (ht [] s1 (start N vs) H _ I hq) (λfl s' hs=>?_) λe s' hs=>hs
 have fin:∀ {σ':St}{H':Hp}{v:V}{u:Value},Inv (j1 CX P w K mg base N qual scope f cdv A outer s H E) [] σ' H' s'->RelV v u->Q v H'->CE outer P w H s Q u s':=
  λ{σ' H' v u} J rv q=>⟨v,H',J.os,J.bare,J.base,J.hok,rv,q⟩
 cases fl with
 |ret u =>
  obtain⟨v,σ',H',J,rv,q⟩:=hs
  exact fin J rv q
 |next =>
  obtain⟨σ',H',J,q⟩:=hs
  exact fin (v:=V.non) (u:=Value.none) J rfl q
 |brk =>
  obtain⟨_,_,_,q⟩:=hs
  exact False.elim q
 |cont =>
  obtain⟨_,_,_,q⟩:=hs
  exact False.elim q
section
variable {X:Cx}{x:Str}{p pos:Pos}{e:Expr}{es:List Expr}{t:TA}{id T:String}{r:List V->Hp->VK->Prop}
def tCB (r:List V->Hp->VK->Prop)(t:TA):TE:=λσ H Q=>t σ H λvs H1=>r vs H1 Q
theorem iF (hc:gR X (.builtin id) r)(hg:Gl X x)(hm:X.mg x=none)(hv:bootBuiltins x=some (.builtin id))(ha:PA X (e::es) t)(hn:x≠"__name__":=by decide)(hdb:(x==("__debug__":Str))=false:=by decide)
  (he:starEach (e::es) X.env=(false,eval e X.env)::starEach es X.env:=by rfl) (hpl:(backTo pos (starEach es X.env)).any (·.1)=false:=by rfl):PE X (.Call (.Name x p) (e::es) [] pos) (tCB r t):=by
 intro pins s σ H Q I h
 refine wpAny_Call_Name_kw (js I hg hm hv ?_ hn hdb)
 exact PyProof.Rows.callWith_builtin1 (thn (ha pos pins s σ H _ I h) λus s1 ⟨vs,H1,I1,r1,q1⟩=>hc pins s1 σ H1 vs us Q I1 r1 q1) he hpl
theorem jo (hc:gR X (.type T) r)(hg:Gl X x)(hm:X.mg x=none)(hv:bootBuiltins x=some (.type T))(ha:PA X (e::es) t)(hn:x≠"__name__":=by decide)(hdb:(x==("__debug__":Str))=false:=by decide)
  (he:starEach (e::es) X.env=(false,eval e X.env)::starEach es X.env:=by rfl) (hpl:(backTo pos (starEach es X.env)).any (·.1)=false:=by rfl):PE X (.Call (.Name x p) (e::es) [] pos) (tCB r t):=by
 intro pins s σ H Q I h
 refine wpAny_Call_Name_kw (js I hg hm hv ?_ hn hdb)
 exact PyProof.Rows.callWith_type1 (thn (ha pos pins s σ H _ I h) λus s1 ⟨vs,H1,I1,r1,q1⟩=>hc pins s1 σ H1 vs us Q I1 r1 q1) he hpl
end
section
variable {κ:Type} [DecidableEq κ]
def im (kvs:List (κ×V))(k : κ):Option V:=(kvs.find? λkv=>decide (kv.1=k)).map (·.2)
def putK (kvs:List (κ×V))(k : κ)(v:V):List (κ×V):=
 if (kvs.any λkv=>decide (kv.1=k))=true then kvs.map (λkv=>if kv.1=k then (kv.1,v) else kv) else kvs++[(k,v)]
theorem kA {p : κ×V}{r:List (κ×V)}{k : κ}(e:p.1=k):im (p::r) k=some p.2:=by simp[im,List.find?_cons,e]
theorem kB {p : κ×V}{r:List (κ×V)}{k : κ}(e:¬ p.1=k):im (p::r) k=im r k:=by simp[im,List.find?_cons,e]
theorem oK (k : κ):∀ kvs:List (κ×V),(kvs.any λkv=>decide (kv.1=k))=(im kvs k).isSome
 |[]=>rfl
 |p::r=>by
  rw[List.any_cons]
  by_cases e:p.1=k
  ·simp only[kA e,decide_eq_true e,Bool.true_or,Option.isSome_some]
  ·rw[kB e,decide_eq_false e,Bool.false_or];exact oK k r
theorem jS (kvs:List (κ×V))(k : κ)(v:V):(putK kvs k v).length<=kvs.length+1:=by
 unfold putK
 split
 ·rw[List.length_map];omega
 ·rw[List.length_append,List.length_cons,List.length_nil];omega
theorem RelO.isSome_eq {o:Option V}{u:Option Value}(r:RelO o u):o.isSome=u.isSome:=by
 cases o with
 |none=>cases u with
  |none=>rfl
  |some _=>exact (show False from r).elim
 |some _=>cases u with
  |none=>exact (show False from r).elim
  |some _=>rfl
theorem KV.val {kvs:List (κ×V)}{vs:List (κ×Value)}(r:KV kvs vs)(k : κ):RelO (im kvs k) (valueAt vs k):=by
 unfold KV at r
 induction r with
 |nil=>exact True.intro
 | @cons p q ps qs h t ih =>
  obtain⟨h1,h2⟩:=h
  by_cases e:p.1=k
  ·have e':q.1=k:=h1.symm.trans e
   have b:valueAt (q::qs) k=some q.2:=by simp[valueAt,List.find?_cons,e']
   rw[kA e,b];exact h2
  ·have e':¬ q.1=k:=λz=>e (h1.trans z)
   have b:valueAt (q::qs) k=valueAt qs k:=by simp[valueAt,List.find?_cons,e']
   rw[kB e,b];exact ih
theorem KV.any {kvs:List (κ×V)}{vs:List (κ×Value)}(r:KV kvs vs)(k : κ):(kvs.any λkv=>decide (kv.1=k))=vs.any λkv=>decide (kv.1=k):=by
 unfold KV at r
 induction r with
 |nil=>rfl
 |cons h t ih=>rw[List.any_cons,List.any_cons,ih,h.1]
theorem KV.repl {kvs:List (κ×V)}{vs:List (κ×Value)}(r:KV kvs vs)(k : κ){y:V}{u:Value}(ry:RelV y u) :
  KV (kvs.map λkv=>if kv.1=k then (kv.1,y) else kv) (vs.map λkv=>if kv.1=k then (kv.1,u) else kv):=by
 unfold KV at r ⊢
 induction r with
 |nil=>exact .nil
 | @cons p q ps qs h t ih =>
  rw[List.map_cons,List.map_cons]
  refine .cons ?_ ih
  obtain⟨h1,h2⟩:=h
  by_cases e:p.1=k
  ·rw[if_pos e,if_pos (h1.symm.trans e)];exact⟨h1,ry⟩
  ·rw[if_neg e,if_neg (λz=>e (h1.trans z))];exact⟨h1,h2⟩
theorem KV.put {kvs:List (κ×V)}{vs:List (κ×Value)}(r:KV kvs vs)(k : κ){y:V}{u:Value}(ry:RelV y u):KV (putK kvs k y) (stored vs k u):=by
 unfold putK stored
 rw[r.any k]
 by_cases e:(vs.any λkv=>decide (kv.1=k))=true
 ·rw[if_pos e,if_pos e];exact r.repl k ry
 ·rw[if_neg e,if_neg e];exact Paired.snoc r ⟨rfl,ry⟩
theorem KV.length {kvs:List (κ×V)}{vs:List (κ×Value)}(r:KV kvs vs):kvs.length=vs.length:=Paired.length r
end
theorem pI {P:Program}{w:World}{k:Key}{u:Value}(r:RelV (kV k) u):(bn P w).is k u=true:=by
 cases k with
 |inl i=>obtain⟨t,e⟩:=(show ∃ t,u=Value.int i t from r);subst e;exact pi P w i t
 |inr x=>obtain⟨t,e⟩:=(show ∃ t,u=Value.str x t from r);subst e;exact ph P w x t
theorem mL {P:Program}{w:World}:∀ {ks:List Key}{us:List Value},Vals (ks.map kV) us->ItemsAre (bn P w) ks us
 |[],_,r=>by rw[List.map_nil] at r;cases r;exact .nil
 |k::ks,_,r=>by
  rw[List.map_cons] at r
  cases r with
  |cons h t=>exact .cons (pI h) (mL t)
abbrev KT (H:Hp):List (List Key×V)->List (List Key×Addr×Value)->Prop:=Paired λp q=>p.1=q.1/\H q.2.1=some (.tup (p.1.map kV))/\RelV p.2 q.2.2
theorem KT.val {H:Hp}{kvs:List (List Key×V)}{xs:List (List Key×Addr×Value)}(r:KT H kvs xs)(k:List Key):RelO (im kvs k) ((atKey xs k).map (·.2)):=by
 induction r with
 |nil=>exact True.intro
 | @cons p q ps qs h t ih =>
  obtain⟨h1,_,h2⟩:=h
  by_cases e:p.1=k
  ·have e':q.1=k:=h1.symm.trans e
   have b:atKey (q::qs) k=some q.2:=by simp[atKey,List.find?_cons,e']
   rw[kA e,b];exact h2
  ·have e':¬ q.1=k:=λz=>e (h1.trans z)
   have b:atKey (q::qs) k=atKey qs k:=by simp[atKey,List.find?_cons,e']
   rw[kB e,b];exact ih
theorem KT.repl {H:Hp}{kvs:List (List Key×V)}{xs:List (List Key×Addr×Value)}(r:KT H kvs xs)(k:List Key){y:V}{u:Value}(ry:RelV y u) :
  KT H (kvs.map λkv=>if kv.1=k then (kv.1,y) else kv) (xs.map (putAt k u)):=by
 induction r with
 |nil=>exact .nil
 | @cons p q ps qs h t ih =>
  rw[List.map_cons,List.map_cons]
  refine .cons ?_ ih
  obtain⟨h1,h2,h3⟩:=h
  unfold putAt
  by_cases e:p.1=k
  ·rw[if_pos e,if_pos (h1.symm.trans e)];exact⟨h1,h2,ry⟩
  ·rw[if_neg e,if_neg (λz=>e (h1.trans z))];exact⟨h1,h2,h3⟩
theorem KT.put {H:Hp}{kvs:List (List Key×V)}{xs:List (List Key×Addr×Value)}(r:KT H kvs xs)(k:List Key){b:Addr}{y:V}{u:Value}(hb:H b=some (.tup (k.map kV)))(ry:RelV y u) :
  KT H (putK kvs k y) (storedH xs k b u):=by
 have e:(kvs.any λkv=>decide (kv.1=k))=(atKey xs k).isSome:=by
  rw[oK,(r.val k).isSome_eq,Option.isSome_map]
 unfold putK storedH
 rw[e]
 by_cases q:(atKey xs k).isSome=true
 ·rw[if_pos q,if_pos q];exact r.repl k ry
 ·rw[if_neg q,if_neg q];exact Paired.snoc r ⟨rfl,hb,ry⟩
theorem KT.keeps {H H':Hp}{kvs:List (List Key×V)}{xs:List (List Key×Addr×Value)}(r:KT H kvs xs)(ht:∀ b ys,H b=some (.tup ys)->H' b=some (.tup ys)):KT H' kvs xs:=
 Paired.mapP r λ_ _ z=>⟨z.1,ht _ _ z.2.1,z.2.2⟩
section
variable {P:Program}{w:World}{H:Hp}{h:Heap}{a:Addr}
theorem yh {u:HO}(ok:HOk P w H h)(e:Rd H a u):ObjOk P w H h a u:=e.ok ok
theorem pR {kvs:List (Key×V)}(ok:HOk P w H h)(e:Rd H a (.dK kvs)):kvs.length<=sizeLine/\(a==sysModules)=false/\∃ vs,KV kvs vs/\h.DictOf (bn P w) a vs:=
 show ObjOk P w H h a (.dK kvs) from yh ok e
theorem AY {kvs:List (Key×V)}(ok:HOk P w H h)(e:H a=some (.dK kvs)):kvs.length<=sizeLine/\(a==sysModules)=false/\∃ vs,KV kvs vs/\h.DictOf (bn P w) a vs:=pR ok (.inl e)
theorem k8 {ks:List Key}(ok:HOk P w H h)(e:H a=some (.tup (ks.map kV))):(tupleKind (bn P w)).is h ks a:=by
 obtain⟨_,its,r,p⟩:=(show ObjOk P w H h a (.tup (ks.map kV)) from ok a _ e)
 obtain⟨o,h1,h2,n,h3⟩:=p.tup
 exact⟨o,its.toArray,n,h1,h2,h3,by simpa using mL r⟩
theorem pQ {kvs:List (List Key×V)}(ok:HOk P w H h)(e:Rd H a (.dT kvs)):kvs.length<=sizeLine/\(a==sysModules)=false /\
  ∃ xs,KT H kvs xs/\h.DictOfH (tupleKind (bn P w)) a xs:=by
 obtain⟨z,y,xs,r,o,es,ep,h1,h2,h3,h4,h5⟩:=(show ObjOk P w H h a (.dT kvs) from yh ok e)
 refine⟨z,y,xs,r,o,es,ep,h1,h2,h3,h4,λx hx=>?_,h5⟩
 have all:∀ {l:List (List Key×V)}{m:List (List Key×Addr×Value)},KT H l m->∀ x∈m,(tupleKind (bn P w)).is h x.1 x.2.1:=by
  intro l m q
  induction q with
  |nil=>intro x hx;exact nomatch hx
  | @cons p q ps qs hq t ih =>
   intro x hx
   rcases List.mem_cons.mp hx with e |hx
   ·subst e
    exact k8 ok (by rw[← hq.1];exact hq.2.1)
   ·exact ih x hx
 exact all r x hx
theorem AX {kvs:List (List Key×V)}(ok:HOk P w H h)(e:H a=some (.dT kvs)):kvs.length<=sizeLine/\(a==sysModules)=false /\
  ∃ xs,KT H kvs xs/\h.DictOfH (tupleKind (bn P w)) a xs:=pQ ok (.inl e)
end
def DGet (H:Hp)(a:Addr)(y:V)(r:Option V):Prop:=
 (∃ kvs k,Rd H a (.dK kvs)/\y=kV k/\r=im kvs k)∨∃ kvs k b,Rd H a (.dT kvs)/\y = .ref b/\H b=some (.tup (k.map kV))/\r=im kvs k
def DPut (H:Hp)(a:Addr)(y v:V)(H':Hp):Prop:=
 (∃ kvs k,H a=some (.dK kvs)/\y=kV k/\kvs.length<sizeLine/\H'=upd H a (.dK (putK kvs k v))) ∨
 ∃ kvs k b,H a=some (.dT kvs)/\y = .ref b/\H b=some (.tup (k.map kV))/\kvs.length<sizeLine/\H'=upd H a (.dT (putK kvs k v))
theorem DGet.k {H:Hp}{a:Addr}{kvs:List (Key×V)}{k:Key}(e:H a=some (.dK kvs)):DGet H a (kV k) (im kvs k):=.inl ⟨kvs,k,.inl e,rfl,rfl⟩
theorem DPut.k {H:Hp}{a:Addr}{kvs:List (Key×V)}{k:Key}{v:V}(e:H a=some (.dK kvs))(hl:kvs.length<sizeLine):DPut H a (kV k) v (upd H a (.dK (putK kvs k v))):=.inl ⟨kvs,k,e,rfl,hl,rfl⟩
section
variable {X:Cx}{pins:List (Addr×Obj)}{σ:St}{H:Hp}{s:Shared}{a:Addr}{y v:V}{u r:Value}{o:Option V}{A:Around}{E:Value->Shared->Prop}
theorem Inv.big (I:Inv X pins σ H s):sysModules<s.heap.objs.size:=by
 have h:mainGlobals<s.heap.objs.size:=(I.mod.glob.keeps I.bk).lt
 exact Nat.lt_trans (by decide) h
theorem uL {Q:Value->Shared->Prop}(hu:A.units+1<cLine)(I:Inv X pins σ H s)(g:DGet H a y (some v))(ry:RelV y u)(h:∀ w' s',Inv X pins σ H s'->RelV v w'->Q w' s') :
  wpAny (model X.prog X.w) A (getItem (.ref a) u) Q E s:=by
 rcases g with ⟨kvs,k,e,ey,l⟩ |⟨kvs,k,b,e,ey,eb,l⟩
 ·subst ey
  obtain⟨z,hd,vs,rel,dd⟩:=pR I.hok e
  obtain⟨w',hw,rw'⟩:=RelO.some_of (v:=v) (o:=valueAt vs k) (by rw[l];exact rel.val k)
  exact wpAny_getItem_of (pI ry) dd.mapOf hw (h w' _ (I.tok _) rw')
 ·subst ey
  cases (show u=Value.ref b from ry)
  obtain⟨z,hd,xs,rel,dd⟩:=pQ I.hok e
  obtain⟨w',hw,rw'⟩:=RelO.some_of (v:=v) (o:=(atKey xs k).map (·.2)) (by rw[l];exact rel.val k)
  obtain⟨p,hp,hp2⟩:=Option.map_eq_some_iff.mp hw
  refine wpAny_getItem_heap (tupleKind_room_in1 hu) (k8 I.hok eb) dd hp ?_
  rw[hp2]
  exact h w' _ (I.tok _) rw'
theorem B7 {Q:Value->Shared->Prop}(hu:A.units+1<cLine)(I:Inv X pins σ H s)(g:DGet H a y o)(ry:RelV y u)(h:∀ s',Inv X pins σ H s'->Q (.bool o.isSome) s') :
  wpAny (model X.prog X.w) A (compareOp .In u (.ref a)) Q E s:=by
 rcases g with ⟨kvs,k,e,ey,l⟩ |⟨kvs,k,b,e,ey,eb,l⟩
 ·subst ey
  obtain⟨z,hd,vs,rel,dd⟩:=pR I.hok e
  refine wpAny_in_of (pI ry) hd dd.mapOf ?_
  rw[← (rel.val k).isSome_eq,← l]
  exact h _ (I.tok _)
 ·subst ey
  cases (show u=Value.ref b from ry)
  obtain⟨z,hd,xs,rel,dd⟩:=pQ I.hok e
  refine wpAny_in_heap (tupleKind_room_in1 hu) (k8 I.hok eb) hd dd ?_
  have q:=(rel.val k).isSome_eq
  rw[Option.isSome_map] at q
  rw[← q,← l]
  exact h _ (I.tok _)
theorem xM {Q:Value->Shared->Prop}(hu:A.units+1<cLine)(I:Inv X pins σ H s)(g:DGet H a y o)(ry:RelV y u)(h:∀ s',Inv X pins σ H s'->Q (.bool (!o.isSome)) s') :
  wpAny (model X.prog X.w) A (compareOp .NotIn u (.ref a)) Q E s:=by
 rcases g with ⟨kvs,k,e,ey,l⟩ |⟨kvs,k,b,e,ey,eb,l⟩
 ·subst ey
  obtain⟨z,hd,vs,rel,dd⟩:=pR I.hok e
  refine wpAny_notIn_of (pI ry) hd dd.mapOf ?_
  rw[← (rel.val k).isSome_eq,← l]
  exact h _ (I.tok _)
 ·subst ey
  cases (show u=Value.ref b from ry)
  obtain⟨z,hd,xs,rel,dd⟩:=pQ I.hok e
  refine wpAny_notIn_heap (tupleKind_room_in1 hu) (k8 I.hok eb) hd dd ?_
  have q:=(rel.val k).isSome_eq
  rw[Option.isSome_map] at q
  rw[← q,← l]
  exact h _ (I.tok _)
theorem n8 {h':Heap}{t':Nat}{ob:HO}(I:Inv X pins σ H s)(mu:Mut (H a))(hs:Heap.SameBut a s.heap h')(he:∃ q,h'.get? a=some q)(new:ObjOk X.prog X.w (upd H a ob) h' a ob) :
  Inv X pins σ (upd H a ob) { s with heap:=h',toks:=t' }:=
 I.write (x:=a) (e:=a) mu (.inl rfl) (λb q hb z=>(hs.2 b hb).trans z) he new
theorem zJ {P:Program}{w:World}{H':Hp}{h':Heap}{kvs:List (Key×V)}{vs:List (Key×Value)}(z:kvs.length<=sizeLine)(hd:(a==sysModules)=false)(rel:KV kvs vs)(dd:h'.DictOf (bn P w) a vs) :
  ObjOk P w H' h' a (.dK kvs):=⟨z,hd,vs,rel,dd⟩
theorem uK {H':Hp}{Q:Unit->Shared->Prop}(hu:A.units+1<cLine)(I:Inv X pins σ H s)(g:DPut H a y v H')(ry:RelV y u)(rv:RelV v r)(h:∀ s',Inv X pins σ H' s'->Q () s') :
  wpAny (model X.prog X.w) A (setItem (.ref a) u r) Q E s:=by
 rcases g with ⟨kvs,k,e,ey,l,eH⟩ |⟨kvs,k,b,e,ey,eb,l,eH⟩
 ·subst ey eH
  obtain⟨z,hd,vs,rel,dd⟩:=AY I.hok e
  have hz:vs.length<=sizeLine:=by rw[← rel.length];exact z
  have hl:(putK kvs k v).length<=sizeLine:=by have:=jS kvs k v;omega
  refine wpAny_setItem_pairs (hsz:=hz) (pI ry) dd λh' dd' hs=>h _ ?_
  have he:∃ q,h'.get? a=some q:=let ⟨q,_,_,hq,_⟩:=dd';⟨q,hq⟩
  exact n8 I (by rw[e];exact True.intro) hs he (zJ hl hd (rel.put k rv) dd')
 ·subst ey eH
  cases (show u=Value.ref b from ry)
  obtain⟨z,hd,xs,rel,dd⟩:=AX I.hok e
  have hz:xs.length<=sizeLine:=by rw[← Paired.length rel];exact z
  have hl:(putK kvs k v).length<=sizeLine:=by have:=jS kvs k v;omega
  refine wpAny_setItem_heap (hsz:=hz) (tupleKind_room_in1 hu) (k8 I.hok eb) dd λh' dd' hs=>h _ ?_
  obtain⟨q,es,ep,hq,h2,h3,h4,_,h5⟩:=dd'
  refine n8 I (by rw[e];exact True.intro) hs ⟨q,hq⟩ ⟨hl,hd,_,(rel.put k eb rv).keeps λc ys ec=>?_,q,es,ep,hq,h2,h3,h4,h5⟩
  rw[au (AD ec e (λz=>nomatch z))]
  exact ec
end
def uV (i:Expr):Prop:=∀ ov iv,subscripted i false ov iv=operate [ov,iv] (getItem ov iv)
theorem r6 {prog:Program}{w:World}{A:Around}{E:Value->Shared->Prop}{s:Shared}{env:Env}{value slice:Expr}{pos:Pos}{T id:String}{Q:Value->Shared->Prop}
  (hl:typeLookup (.type T) "__getitem__"=pure (some (.builtin id))) (hs:uV slice)
  (h:wpAny (model prog w) A (eval value env) (λo s₁=>wpAny (model prog w) A (eval slice env) (λi s₂=>s₂.TypeIs o T/\wpAny (model prog w) A (getItem o i) Q E s₂) E s₁) E s) :
  wpAny (model prog w) A (eval (.Subscript value slice pos) env) Q E s:=by
 refine Subscript_ (wpAny_mono h (λo s₁ h₁=>wpAny_mono h₁ (λi s₂ h₂=>?_) λ_ _ x=>x) λ_ _ x=>x)
 obtain⟨hT,h₂⟩:=h₂
 unfold subscriptTail
 refine wpAny_bind ?_
 rw[getitemInPython_of_ne hT.not_modules]
 refine wpAny_bind (wpAny_specialOf hT hl ?_)
 have fin:wpAny (model prog w) A (subscripted slice false o i) (λr s₃=>wpAny (model prog w) A (letTemporaryGo value o r >>= λ_=>pure r) Q E s₃) E s₂:=by
  rw[hs o i]
  exact wpAny_operating (wpAny_mono h₂ (λr s₃ h₃=>wpAny_bind (wpAny_letTemporaryGo (wpAny_pure h₃))) λ_ _ x=>x)
 first
  |exact wpAny_pure (wpAny_bind fin)
  |exact wpAny_bind (wpAny_pure (wpAny_bind fin))
  |exact wpAny_bind fin
theorem pT {X:Cx}{pins:List (Addr×Obj)}{σ:St}{H:Hp}{s:Shared}{a:Addr}{y:V}{o:Option V}(I:Inv X pins σ H s)(g:DGet H a y o):s.TypeIs (.ref a) "dict":=by
 rcases g with ⟨kvs,k,e,_,_⟩ |⟨kvs,k,b,e,_,_,_⟩
 ·obtain⟨_,_,vs,_,dd⟩:=pR I.hok e
  exact dd.typeIs
 ·obtain⟨_,_,xs,_,dd⟩:=pQ I.hok e
  exact dd.typeIs
def Aj (td ty:TE):TE:=λσ H Q=>td σ H λx H1=>ty σ H1 λy H2 => ∃ a v,x = .ref a/\DGet H2 a y (some v)/\Q v H2
def Bt (ty td:TE):TE:=λσ H Q=>ty σ H λy H1=>td σ H1 λx H2 => ∃ a o,x = .ref a/\DGet H2 a y o/\Q (.bl o.isSome) H2
def rZ (ty td:TE):TE:=λσ H Q=>ty σ H λy H1=>td σ H1 λx H2 => ∃ a o,x = .ref a/\DGet H2 a y o/\Q (.bl (!o.isSome)) H2
def An (td ty tv:TE):TS:=λD σ H=>tv σ H λv H1=>td σ H1 λx H2=>ty σ H2 λy H3 => ∃ a H4,x = .ref a/\DPut H3 a y v H4/\D.nx σ H4
section
variable {X:Cx}{o i e value:Expr}{pos pos' tpos:Pos}{td ty tv:TE}
theorem xu (hu:X.A.units+1<cLine)(ho:PE X o td)(hi:PE X i ty)(hs:uV i):PE X (.Subscript o i pos) (Aj td ty):=by
 intro pins s σ H Q I h
 refine r6 PySem.F.slot_dict_getitem.lookup hs (thn (ho pins s σ H _ I h) λu s1 ⟨x,H1,I1,rx,q1⟩=>thn (hi pins s1 σ H1 _ I1 q1) λiv s2 ⟨y,H2,I2,ry,a,v,ex,g,q2⟩=>?_)
 subst ex
 obtain rfl:u=Value.ref a:=rx
 exact⟨pT I2 g,uL hu I2 g ry λw' s3 I3 rw'=>⟨v,H2,I3,rw',q2⟩⟩
theorem y_ (hu:X.A.units+1<cLine)(hi:PE X i ty)(ho:PE X o td):PC X .In i o (Bt ty td):=by
 intro pins s σ H Q I h
 refine thn (hi pins s σ H _ I h) λiv s1 ⟨y,H1,I1,ry,q1⟩=>thn (ho pins s1 σ H1 _ I1 q1) λu s2 ⟨x,H2,I2,rx,a,ov,ex,g,q2⟩=>?_
 subst ex
 obtain rfl:u=Value.ref a:=rx
 exact B7 hu I2 g ry λs3 I3=>⟨.bl ov.isSome,H2,I3,rfl,q2⟩
theorem uj (hu:X.A.units+1<cLine)(hi:PE X i ty)(ho:PE X o td):PC X .NotIn i o (rZ ty td):=by
 intro pins s σ H Q I h
 refine thn (hi pins s σ H _ I h) λiv s1 ⟨y,H1,I1,ry,q1⟩=>thn (ho pins s1 σ H1 _ I1 q1) λu s2 ⟨x,H2,I2,rx,a,ov,ex,g,q2⟩=>?_
 subst ex
 obtain rfl:u=Value.ref a:=rx
 exact xM hu I2 g ry λs3 I3=>⟨.bl (!ov.isSome),H2,I3,rfl,q2⟩
theorem xl (hu:X.A.units+1<cLine)(ho:PE X o td)(hi:PE X i ty)(hv:PE X value tv)(hs:swapsWith value (some (.Subscript o i pos')) pos.line X.env=pure false) :
  PS X (.Assign [.Subscript o i pos'] value pos) (An td ty tv):=by
 intro pins s σ H D I h
 refine wpAny_Assign_Subscript (thn (hv pins s σ H _ I h) λr s1 ⟨v,H1,I1,rv,q1⟩=>thn (ho pins s1 σ H1 _ I1 q1) λu s2 ⟨x,H2,I2,rx,q2⟩=>thn (hi pins s2 σ H2 _ I2 q2) λiv s3 ⟨y,H3,I3,ry,a,H4,ex,g,q3⟩=>?_) hs
 subst ex
 obtain rfl:u=Value.ref a:=rx
 exact uK hu I3 g ry rv λs4 I4=>⟨σ,H4,I4,q3⟩
end
theorem wn {P:Program}{w:World}{H:Hp}(h:Heap)(hb:sysModules<h.objs.size):ObjOk P w H (h.push { cls:=.type "dict",data:=.dict #[] }) h.objs.size (.dK []):=
 ⟨Nat.zero_le _,beq_eq_false_iff_ne.mpr (Ne.symm (Nat.ne_of_lt hb)),[],.nil,Heap.DictOf.new h⟩
def yC:TE:=λ_ H Q => ∀ p,H p=none->Q (.ref p) (upd H p (.dK []))
section
variable {X:Cx}{pos:Pos}
theorem pe_dnewK:PE X (.Dict [] [] pos) yC:=λpins s σ H Q I h =>
 wpAny_Dict_empty ⟨.ref s.heap.objs.size,_,I.laid (a:=s.heap.objs.size) (o:=.dK []) (t':=s.toks) (λ_ _ q=>Heap.get?_push_of_some _ q) (Nat.le_refl _) (wn s.heap I.big),rfl,h _ (I.hok.fresh (Nat.le_refl _))⟩
end
structure M1 (X:Cx) (o:Expr) (m:Str) (apos:Pos) (e:Expr) (cpos:Pos):Prop where
 base:attributeBase o m X.env (eval o X.env)=eval o X.env
 few:((backTo cpos (starEach [e] X.env)).all (λx => !x.1)&&(backToKw cpos (keywordEach [] X.env)).all (λx=>x.1.isSome)
  && decide (([e]:List Expr).length+([]:List Keyword).length+(if ([]:List Keyword).isEmpty then 0 else 1)<30))=true
 line:(apos.endLine==cpos.line)=true
 trees:backTo cpos (starEach [e] X.env)=[(false,eval e X.env)]
structure M2 (X:Cx) (o:Expr) (m:Str) (apos:Pos) (e f:Expr) (cpos:Pos):Prop where
 base:attributeBase o m X.env (eval o X.env)=eval o X.env
 few:((backTo cpos (starEach [e,f] X.env)).all (λx => !x.1)&&(backToKw cpos (keywordEach [] X.env)).all (λx=>x.1.isSome)
  && decide (([e,f]:List Expr).length+([]:List Keyword).length+(if ([]:List Keyword).isEmpty then 0 else 1)<30))=true
 line:(apos.endLine==cpos.line)=true
 trees:backTo cpos (starEach [e,f] X.env)=[(false,eval e X.env),(false,eval f X.env)]
end L2
namespace Att
open PySem PySem.W PySem.Calls PyProof.Rows
theorem j0 {P:Params}{h:Heap}:∀ (ns:List Int) (vs:List Value),WellAll P h vs (ns.map WData.int)->IntsAre vs ns:=by
 intro ns
 induction ns with
 |nil =>
  intro vs w
  rw[List.map_nil] at w
  cases w
  exact .nil
 |cons n ns ih =>
  intro vs w
  rw[List.map_cons] at w
  cases w with
  |cons a b =>
   cases a
   exact .cons _ _ (ih _ b)
theorem t5 {l:OpenLaw}{n:Nat}(hn:l.most=some n){P:Params}{h:Heap}{args:List WData}{vals:List Value}
  (hpre:l.row.toRowW.claim.pre args=true) (hwl:WellAll P h vals args) :
  ∃ a vs ns,vals=[Value.ref a]/\args=[WData.list (ns.map WData.int)]/\h.get? a=some { cls:=.type "list",data:=.seq vs.toArray }/\IntsAre vs ns/\ns.length<=n:=by
 have hsh:WShape.hasAll [] args [.list .int]=true:=(pre_splitW hpre).1
 have hc:l.pre.holds [] { args:=args }=true:=(pre_splitW hpre).2
 obtain⟨d,r,rfl,h1,h2⟩:=hasAllW_cons hsh
 obtain rfl:=hasAllW_nil h2
 obtain⟨xs,rfl,h3⟩:=hasW_list h1
 obtain⟨ns,rfl⟩:=items_int h3
 have hlen:ns.length<=n:=by
  unfold OpenLaw.pre at hc
  have h4:(WTm.not (.lt (.lit (.int (n:Int))) (.len (.arg 0)))).holds [] { args:=[.list (ns.map .int)] }=true:=by
   have h4:=(holds_andW hc).1
   rw[hn] at h4
   exact h4
  have h5:=condW_of h4 (w_not (w_lt w_lit (w_len_list (w_arg rfl))))
  rw[List.length_map] at h5
  refine Nat.le_of_not_lt λq=>?_
  have q':(n:Int)<((ns.length:Nat):Int):=by omega
  first
   |(rw[decide_eq_true q'] at h5;exact absurd h5 (by decide))
   |(simp at h5;omega)
 cases hwl with
 |cons w1 w2 =>
  cases w2
  cases w1 with
  |list ho hall=>exact⟨_,_,ns,rfl,rfl,ho,j0 ns _ hall,hlen⟩
theorem ug (l:OpenLaw)(args:List WData):l.row.toRowW.claim.post args (.bool true) args=true:=
 postW_of (r:=l.row.toRowW) (X:=(true==true))
  (show WShape.has [] (.bool true) .bool=true by first |rfl |decide |simp[WShape.has,WShape.arms,WShape.armsAll])
  (show (WTm.eq .res (.lit (.bool true))).value [] { args:=args,res:=some (.bool true),after:=args }=some (.bool (true==true)) from w_eq_bool (w_res rfl) w_lit) rfl
theorem attach_call {l:OpenLaw}{n:Nat}{q:Program}{loose:List Str}{XP:(Str->Option Value)->Heap->Prop}{YP:World->Heap->Prop}{d:DefRec}
  (hn:l.most=some n) (hdf:d.params.defaults=[])
  (call:∀ (w:World) (s₀ s₁:Shared) (mg mb:Str->Option Value) (fa:Addr) (o:Obj) (pm cd doc:Value) (a:Addr) (vs:List Value) (ns:List Int),
   Ground q loose [] XP w s₀ mg mb s₁.heap->YP w s₁.heap ->
   s₁.heap.get? fa=some o->o.data = .func (docDef d.name d.params d.body d.scope pm cd doc)->s₁.heap.CodeRec cd d.name->mg d.name=some (.ref fa) ->
   s₁.heap.get? a=some { cls:=.type "list",data:=.seq vs.toArray }->IntsAre vs ns->ns.length<=n->s₁.gens = #[] ->
   codeAny (model l.prog w) callerA (.call (.ref fa) ⟨[.ref a],[]⟩) (λr s'=>r = .ok (.ret (.bool true))/\OldK s₁.heap s'.heap/\s'.os=s₁.os/\AllBare s'.gens) s₁) :
  WalkO q loose XP YP l.row.toRowW d [] (λf vs=>PySem.call f vs):=by
 intro w s₀ s₁ mg mb G Y fa o pm cd doc dV kV ho hd hcd hD hmg hg args vals as hpre hlay hrd hwl hlo
 obtain rfl:dV = .none:=Dflts.none hD hdf
 obtain rfl:kV = .none:=Dflts.noKw hD
 obtain⟨a,vs,ns,rfl,rfl,hobj,hints,hlen⟩:=t5 hn hpre hwl
 refine enter_call (codeAny_mono (call w s₀ s₁ mg mb fa o pm cd doc a vs ns G Y ho (fd_plain hd) hcd hmg hobj hints hlen hg) λr s' hq=>?_)
 obtain⟨rfl,h2,h3,h4⟩:=hq
 exact⟨.inl ⟨.bool true,.bool true,[],rfl,λ_=>rfl,.bool true,ug l _,λ_=>⟨List.Pairwise.nil,λ_ hm=>(nomatch hm)⟩⟩,h2,h3,h4⟩
end Att
namespace L2
open PySem PySem.Spec PyProof.Rows
theorem l_:∀ {vs:List Value}{ns:List Int},IntsAre vs ns->Vals (ns.map V.int) vs
 |_,_,.nil => .nil
 |_,_,.cons n t h => .cons ⟨t,rfl⟩ (l_ h)
def zY (H:Hp):Prop:=∀ b,H b=none∨∃ o xs,H b=some (.frz o (.lst xs))
theorem v4 {P:Program}{w:World}{K:PySem.W.Frag}{mg mb:Str->Option Value}{CX:CXT}{k:Nat}{fa a:Addr}{fd:FuncData}{x:Str}{sp:Sp}{s₁:Shared}{vs:List Value}{ns:List Int}
  (KX:K.In s₁.heap) (hns:s₁.heap.Ns mainGlobals mg) (hb:s₁.heap.Ns builtinsNs mb) (hbb:∀ x:Str,x≠"__name__"->mb x=bootBuiltins x) (hlim:s₁.heap.NoLimit) (hg:s₁.gens = #[])
  (ha:s₁.heap.get? a=some { cls:=.type "list",data:=.seq vs.toArray }) (hi:IntsAre vs ns) (hl:ns.length<=sizeLine) (hr:Room k callerA)
  (F:∀ base:Heap,K.In base->base.Ns mainGlobals mg->FnOk P w K mg base CX k fa fd [x] sp) (hbind:∀ (s:Shared) (u:Value),BindsTo s fd ⟨[u],[]⟩ [(x,u)])
  (hsp:∀ H:Hp,zY H->SqL K H a (ns.map V.int)->sp [.ref a] H (λv _=>v = .bl true) λ_ _ _=>False)
  (hCX:∀ H e s',CX [] H s₁ (λ_ _ _=>False) e s'->False) :
  codeAny (model P w) callerA (.call (.ref fa) ⟨[.ref a],[]⟩) (λr s'=>r = .ok (.ret (.bool true))/\OldK s₁.heap s'.heap/\s'.os=s₁.os/\AllBare s'.gens) s₁:=by
 have rv:=l_ hi
 have lenV:=hi.length
 have core:∀ H:Hp,zY H->SqL K H a (ns.map V.int)->HOk P w H s₁.heap->(∀ b,H b≠none->b=a)->(H a≠none->K.lookup a=none) ->
   codeAny (model P w) callerA (.call (.ref fa) ⟨[.ref a],[]⟩) (λr s'=>r = .ok (.ret (.bool true))/\OldK s₁.heap s'.heap/\s'.os=s₁.os/\AllBare s'.gens) s₁:=by
  intro H hO hS hok hA hK
  have base_of:∀ {b:Addr}{o:Obj},s₁.heap.get? b=some o->H b=none->(nZ s₁.heap H).get? b=some o:=λe n=>v7 e n
  have noA:∀ {b:Addr}{o:Obj}{es:Array DictEntry}{ep:Nat},s₁.heap.get? b=some o->o.data = .dict es ep->H b=none:=λ{b o es ep} e d=>by
   cases q:H b with
   |none=>rfl
   |some u =>
    have e':b=a:=hA b (by rw[q];simp)
    subst e'
    rw[ha] at e;cases e
    have d':Data.seq vs.toArray _=Data.dict es ep:=d
    cases d'
  have nsK:∀ {b:Addr}{m:Str->Option Value},s₁.heap.Ns b m->(nZ s₁.heap H).Ns b m:=λ{b m} ⟨o,es,ep,e,d,r⟩=>⟨o,es,ep,base_of e (noA e d),d,r⟩
  have hKb:K.In (nZ s₁.heap H):=λb o e=>base_of (KX b o e) (by
   cases q:H b with
   |none=>rfl
   |some u =>
    have e':b=a:=hA b (by rw[q];simp)
    subst e'
    rw[hK (by rw[q];simp)] at e;cases e)
  have hM:Mod K mg (nZ s₁.heap H):=⟨hKb,nsK hns,⟨mb,nsK hb,hbb⟩,let ⟨mc,h1,h2⟩:=hlim;⟨mc,nsK h1,h2⟩⟩
  have e0:Env0 P w K mg (nZ s₁.heap H) callerA [] s₁ H:=⟨rfl,hM,λb o e=>xz e,Nat.le_of_eq (uF _ _),trivial,λb hb=>absurd (show b∈([]:List Addr) from hb) (by simp),hok,.of_eq hg⟩
  refine codeAny_mono ((F _ hKb (nsK hns)).run callerA [] s₁ H ⟨[.ref a],[]⟩ [.ref a] [.ref a] _ _ hr e0 (hbind s₁ (.ref a)) (.cons rfl .nil) (hsp H hO hS)) λr s' h=>?_
  cases r with
  |error e=>exact (hCX H e s' h).elim
  |ok fl =>
   cases fl with
   |next=>exact False.elim h
   |brk=>exact False.elim h
   |cont=>exact False.elim h
   |ret u =>
    obtain⟨v,H',os,bare,un,hok',r',q⟩:=h
    have q':v = .bl true:=q
    subst q'
    obtain rfl:u=Value.bool true:=r'
    refine⟨rfl,OldK.of_keep λb o e=>?_,os,bare⟩
    cases q:H b with
    |none=>exact un.keep b o e q (by intro z;exact absurd (show b∈([]:List Addr) from z) (by simp)) (by simp)
    |some u =>
     rcases hO b with z |⟨ob,xs,z⟩
     ·rw[q] at z;cases z
     ·have z2:=un.frzs b ob _ z
      obtain⟨e1,_⟩:=hok b _ z
      obtain⟨e2,_⟩:=hok' b _ z2
      rw[e] at e1;cases e1
      exact e2
 cases hk:K.lookup a with
 |some o =>
  have e:=KX a o hk
  rw[ha] at e
  cases e
  refine core (λ_=>none) (λ_ => .inl rfl) (.inr ⟨_,vs.toArray,_,hk,rfl,rfl,rfl,by rw[List.size_toArray,lenV];exact hl,by simpa using rv⟩) (λb u z=>by have z':(none:Option HO)=some u:=z;cases z') (λb z=>absurd rfl z) λz=>absurd rfl z
 |none =>
  refine core (λb=>if b=a then some (.frz { cls:=.type "list",data:=.seq vs.toArray } (.lst (ns.map V.int))) else none) (λb=>?_) (.inl (.inr ⟨{ cls:=.type "list",data:=.seq vs.toArray },if_pos rfl⟩)) (λb u z=>?_) (λb z=>?_) λ_=>hk
  ·by_cases hb:b=a
   ·exact .inr ⟨_,_,if_pos hb⟩
   ·exact .inl (if_neg hb)
  ·by_cases hb:b=a
   ·have z':=(if_pos hb).symm.trans z
    cases z'
    subst hb
    exact⟨ha,by rw[List.length_map];exact hl,vs,_,rv,ha⟩
   ·have z':=(if_neg hb).symm.trans z
    cases z'
  ·by_cases hb:b=a
   ·exact hb
   ·exact absurd (if_neg hb) z
theorem walk_of {l:PySem.W.OpenLaw}{n k:Nat}{q:Program}{loose:List Str}{XP:(Str->Option Value)->Heap->Prop}{YP:World->Heap->Prop}{d:DefRec}{K:Params->PySem.W.Frag}{CX:World->CXT}{sp:World->Sp}{x:Str}
  (hn:l.most=some n) (hn2:n<=sizeLine) (hdf:d.params.defaults=[]) (hr:Room k callerA)
  (hY:∀ (w:World) (h:Heap),YP w h->(K w.params).In h)
  (F:∀ (w:World) (mg:Str->Option Value) (fa:Addr) (h:Heap),(K w.params).In h->h.Ns mainGlobals mg->mg d.name=some (.ref fa) ->
   ∃ fd:FuncData,(∀ (s:Shared) (u:Value),BindsTo s fd ⟨[u],[]⟩ [(x,u)]) /\
    ∀ base:Heap,(K w.params).In base->base.Ns mainGlobals mg->FnOk l.prog w (K w.params) mg base (CX w) k fa fd [x] (sp w))
  (hsp:∀ (w:World) (H:Hp) (a:Addr) (ns:List Int),ns.length<=n->zY H->SqL (K w.params) H a (ns.map V.int)->sp w [.ref a] H (λv _=>v = .bl true) λ_ _ _=>False)
  (hCX:∀ (w:World) (H:Hp) (s:Shared) (e:Value) (s':Shared),CX w [] H s (λ_ _ _=>False) e s'->False) :
  PySem.W.WalkO q loose XP YP l.row.toRowW d [] (λf vs=>PySem.call f vs):=by
 refine Att.attach_call hn hdf λw s₀ s₁ mg mb fa o pm cd doc a vs ns G Y ho hd hcd hmg hobj hints hlen hg=>?_
 have KX:=hY w _ Y
 obtain⟨fd,hb,hF⟩:=F w mg fa _ KX G.T.g hmg
 exact v4 KX G.T.g G.T.b G.T.builtins G.T.nolimit hg hobj hints (Nat.le_trans hlen hn2) hr hF hb (λH hO hS=>hsp w H a ns hlen hO hS) λH e s'=>hCX w H s₁ e s'
def cL (s:Stmt):Arguments:=match s with
 | .FunctionDef _ a _ _ _ _ _ _ _ _=>a
 |_ => { posonlyargs:=[],args:=[],vararg:=none,kwonlyargs:=[],kw_defaults:=[],kwarg:=none,defaults:=[] }
def bd (s:Stmt):List Stmt:=match s with
 | .FunctionDef _ _ b _ _ _ _ _ _ _=>b
 |_=>[]
def al (s:Stmt):Scope:=match s with
 | .FunctionDef _ _ _ _ _ _ sc _ _ _=>sc
 |_ => { kind:=.function,names:=[],isGenerator:=false,isCoroutine:=false }
abbrev CX0:CXT:=λ_ _ _ _ _ _=>False
abbrev E0:XK:=λ_ _ _=>False
theorem vF {X:Cx}:Passes CX0 X E0:=λ_ _ _ _ _ _ _ h=>h.elim
structure Fun (K:PySem.W.Frag) (x qual:Str) (st:Stmt) (f:Addr) (fd:FuncData):Prop where
 ex:∃ (oc:Value) (od:Option Addr) (kV doc pm:Value) (an:Option Addr) (cdv ct:Value) (osl:Array (Option Value)),
  fd=PySem.W.fnOf x qual (cL st) (bd st) (al st) .none kV doc pm an cdv ct/\K.lookup f=some ⟨oc,od,.func fd,osl⟩/\PySem.W.codeIn K cdv qual=true
 kp:PySem.W.keepIn K (.ref f)=true
section
variable {P:Program}{w:World}{K:PySem.W.Frag}{mg:Str->Option Value}{base:Heap}
theorem Fun.ok {x qual:Str}{st:Stmt}{f:Addr}{fd:FuncData}{N ps:List Str}{k:Nat}{sp:Sp}(F:Fun K x qual st f fd)(S:FnScope N ps (al st))(len:∀ vs H Q E,sp vs H Q E->vs.length=ps.length)
  (hbody:∀ (cdv:Value) (A:Around) (outer:List Env) (s:Shared) (H:Hp) (vs:List V) (Q:VK) (E:XK),Room k (A.deeper (envOfC qual (al st) s.heap.objs.size f cdv))->sp vs H Q E ->
   ∃ t,PSs (j1 CX0 P w K mg base N qual (al st) f cdv A outer s H E).nox (bd st) t/\t { nx:=λ_ H'=>Q .non H',rt:=Q } (start N vs) H):FnOk P w K mg base CX0 (k+1) f fd ps sp:=by
 obtain⟨oc,od,kV,doc,pm,an,cdv,ct,osl,rfl,lk,hcd⟩:=F.ex
 refine AQ lk hcd S len λA outer s H vs Q E hr hsp=>?_
 obtain⟨t,h,q⟩:=hbody cdv A outer s H vs Q E hr hsp
 exact⟨t,h.nox,q⟩
theorem Fun.binds {x qual:Str}{st:Stmt}{f:Addr}{fd:FuncData}{ps:List Str}(F:Fun K x qual st f fd)
  (h:∀ (kV doc pm:Value) (an:Option Addr) (cdv ct:Value) (us:List Value),us.length=ps.length->bindArgs (PySem.W.fnOf x qual (cL st) (bd st) (al st) .none kV doc pm an cdv ct) ⟨us,[]⟩=pure (ps.zip us)):Binds K fd ps []:=by
 obtain⟨oc,od,kV,doc,pm,an,cdv,ct,osl,rfl,lk,hcd⟩:=F.ex
 exact .all (h kV doc pm an cdv ct)
theorem zC {x qual:Str}{st:Stmt}{f:Addr}{oc:Value}{od an:Option Addr}{osl:Array (Option Value)}{kV doc pm cdv ct:Value}(l:K.lookup f=some ⟨oc,od,.func (PySem.W.fnOf x qual (cL st) (bd st) (al st) .none kV doc pm an cdv ct),osl⟩)
  (c:PySem.W.codeIn K cdv qual=true) (k:PySem.W.keepIn K (.ref f)=true):Fun K x qual st f (PySem.W.fnOf x qual (cL st) (bd st) (al st) .none kV doc pm an cdv ct):=⟨⟨oc,od,kV,doc,pm,an,cdv,ct,osl,rfl,l,c⟩,k⟩
end
theorem aY {A:Around}{k:Nat}(hr:Room k A):A.units+1<cLine:=Nat.lt_of_le_of_lt (Nat.add_le_add_left (by decide : 1<=64) _) hr.units
section
variable {X:Cx}
theorem pv (i:Nat){x:Str}{pos:Pos}(hN:X.N[i]?=some x:=by rfl)(hv:Vis X.env.scope x:=by first |exact Or.inl rfl |exact Or.inr (Or.inl rfl) |exact Or.inr (Or.inr rfl))(hd:(x==("__debug__":Str))=false:=by decide)
  (hcd:(x==("__classdict__":Str))=false:=by decide):PE X (.Name x pos) (Ac i):=vC hN hv hd hcd
end
def Same (H H':Hp):Prop:=∀ b o,H b=some o->H' b=some o
theorem Same.refl (H:Hp):Same H H:=λ_ _ h=>h
end L2
namespace HT
open PySem PyProof.Rows
section
variable {prog:Program}{w:World}{A:Around}{E:Value->Shared->Prop}{s:Shared}
theorem cat_tup {t b:Addr}{vs ws:List Value}{Q:Value->Shared->Prop}(ht:IsTup s.heap t vs.toArray)(hb:IsTup s.heap b ws.toArray)(hv:vs≠[])
  (h1:ws=[]->Q (.ref t) s) (h2:ws≠[]->Q (.ref s.heap.objs.size) { s with heap:=s.heap.push { cls:=.type "tuple",data:=.seq (vs++ws).toArray } })
  (hsz:vs.length+ws.length<=sizeLine):wpAny (model prog w) A (binaryOp .Add (.ref t) (.ref b)) Q E s:=by
 obtain⟨⟨cls,dd,data,sl⟩,ho,hc,n,hd⟩:=id ht
 obtain⟨⟨cls2,dd2,data2,sl2⟩,ho2,hc2,n2,hd2⟩:=id hb
 simp only at hc hd hc2 hd2
 subst hc hd hc2 hd2
 have e:vs.toArray++ws.toArray=(vs++ws).toArray:=by simp
 by_cases hw:ws=[]
 ·exact concat_meets ⟨_,ho,rfl⟩ ⟨_,ho2,rfl⟩ noFill_tuple_add seq_tuple_add PySem.F.slot_tuple_add PySem.F.entry_tuple_add (PySem.F.args_tuple_add_2 _ _)
   (tuple_addW1 t b vs.toArray ws.toArray n n2 dd dd2 sl sl2 (by simpa using hv) (by simp[hw])) ⟨ho,ho2,h1 hw⟩
 ·refine concat_meets ⟨_,ho,rfl⟩ ⟨_,ho2,rfl⟩ noFill_tuple_add seq_tuple_add PySem.F.slot_tuple_add PySem.F.entry_tuple_add (PySem.F.args_tuple_add_2 _ _)
   (tuple_addW2 t b vs.toArray ws.toArray n n2 dd dd2 sl sl2 (by simpa using hv) (by simpa using hw) (by rw[List.size_toArray,List.size_toArray];exact hsz)) ⟨ho,ho2,?_⟩
  rw[e]
  exact h2 hw
def sIx (n d:Nat):Option Int->Nat
 |none=>d
 |some v=>if v<0 then (v+(n:Int)).toNat else min v.toNat n
theorem sIx_none (n d:Nat):sIx n d none=d:=rfl
theorem sIx_nat (n d k:Nat):sIx n d (some (k:Int))=min k n:=by
 show (if (k:Int)<0 then ((k:Int)+(n:Int)).toNat else min (k:Int).toNat n)=min k n
 rw[if_neg (by omega),Int.toNat_natCast]
theorem sIx_le (n d:Nat)(hd:d<=n)(o:Option Int):sIx n d o<=n:=by
 cases o with
 |none=>exact hd
 |some v =>
  show (if v<0 then (v+(n:Int)).toNat else min v.toNat n)<=n
  by_cases hv:v<0
  ·rw[if_pos hv];omega
  ·rw[if_neg hv];exact Nat.min_le_right _ _
theorem tm (v:Int)(n d:Nat):(if v<0 then max (v+(n:Int)) 0 else min v (n:Int))=((sIx n d (some v):Nat):Int):=by
 show (if v<0 then max (v+(n:Int)) 0 else min v (n:Int))=(((if v<0 then (v+(n:Int)).toNat else min v.toNat n):Nat):Int)
 by_cases hv:v<0
 ·simp only[if_pos hv];omega
 ·simp only[if_neg hv];omega
theorem rP (lo hi:Option Int)(n:Nat):Builtin.Slice.sliceAdjust lo hi 1 (n:Int)=(((sIx n 0 lo:Nat):Int),((sIx n n hi:Nat):Int)):=by
 have h1:¬ ((1:Int)<0):=by omega
 unfold Builtin.Slice.sliceAdjust
 simp only[h1,if_false]
 refine Prod.ext ?_ ?_
 ·cases lo with
  |none=>rfl
  |some v=>exact tm v n 0
 ·cases hi with
  |none=>rfl
  |some v=>exact tm v n n
theorem qQ (i j:Nat):Builtin.Slice.slicePlaces (i:Int) (j:Int) 1=j-i:=by
 unfold Builtin.Slice.slicePlaces
 have h1:(1:Int) > 0:=by omega
 simp only[h1,if_true,Int.ediv_one]
 split<;>omega
theorem kJ {v:Value}{o:Option Int}{Q:Option Int->Shared->Prop}(p:IsPart v o)(h:Q o s):wpAny (model prog w) A (Builtin.Slice.slicePartIndex v) Q E s:=by
 cases p with
 |none=>exact slicePart_none h
 |int i t=>exact slicePart_int h
theorem sliceApplied_gen {sl:Addr}{vl vu:Value}{lo hi:Option Int}{n:Nat}{Q:Int×Int×Nat->Shared->Prop}(hs:s.heap.IsSliceOf sl vl vu .none)(pl:IsPart vl lo)(pu:IsPart vu hi)
  (h:Q (((sIx n 0 lo:Nat):Int),1,sIx n n hi-sIx n 0 lo) s):wpAny (model prog w) A (Builtin.Slice.sliceApplied (.ref sl) (pure (n:Int))) Q E s:=by
 obtain⟨os,hos,hcs,hds⟩:=id hs
 unfold Builtin.Slice.sliceApplied Builtin.Slice.sliceFields
 refine wpAny_bind (wpAny_bind (wpAny_field hos hds (x:=vl) rfl (wpAny_bind (wpAny_field hos hds (x:=vu) rfl (wpAny_bind (wpAny_field hos hds (x:=.none) rfl (wpAny_pure ?_)))))))
 refine wpAny_bind (slicePart_none ?_)
 show wpAny _ _ (if ((1:Int)==0)=true then _ else _) _ _ s
 rw[if_neg (by decide)]
 refine wpAny_bind (kJ pl (wpAny_bind (kJ pu (wpAny_bind (wpAny_pure ?_)))))
 show wpAny _ _ (match Builtin.Slice.sliceAdjust lo hi 1 (n:Int) with |(lo,hi)=>pure (lo,(1:Int),Builtin.Slice.slicePlaces lo hi 1)) _ _ s
 rw[rP lo hi n]
 show wpAny _ _ (pure (((sIx n 0 lo:Nat):Int),(1:Int),Builtin.Slice.slicePlaces ((sIx n 0 lo:Nat):Int) ((sIx n n hi:Nat):Int) 1)) _ _ s
 rw[qQ]
 exact wpAny_pure h
theorem vA (xs:Array Value)(i k:Nat):((List.range k).filterMap λ(m:Nat)=>xs[((i:Int)+(m:Int)*1).toNat]?).toArray=((xs.toList.drop i).take k).toArray:=by
 have e:(λ(m:Nat)=>xs[((i:Int)+(m:Int)*1).toNat]?)=λm=>xs[i+m]?:=by
  funext m
  have:((i:Int)+(m:Int)*1).toNat=i+m:=by omega
  rw[this]
 rw[e]
 have:=pick_run xs i k
 rw[List.filterMap_map] at this
 have e2:((λx=>xs[x]?) ∘ λx=>i+x)=λm=>xs[i+m]?:=rfl
 rw[e2] at this
 rw[this]
theorem getItem_tuple_cut {t sl:Addr}{items:Array Value}{vl vu:Value}{lo hi:Option Int}{Q:Value->Shared->Prop}(ht:IsTup s.heap t items)(hs:s.heap.IsSliceOf sl vl vu .none)(pl:IsPart vl lo)(pu:IsPart vu hi)
  (hw:¬ (sIx items.size 0 lo=0/\sIx items.size items.size hi=items.size))
  (h:Q (.ref s.heap.objs.size) { s with heap:=s.heap.push { cls:=.type "tuple",data:=.seq ((items.toList.drop (sIx items.size 0 lo)).take (sIx items.size items.size hi-sIx items.size 0 lo)).toArray } })
  (hsz:items.size<=sizeLine):wpAny (model prog w) A (getItem (.ref t) (.ref sl)) Q E s:=by
 have htake:sizeOk (.seq ((items.toList.drop (sIx items.size 0 lo)).take (sIx items.size items.size hi-sIx items.size 0 lo)).toArray):=by
  show ((items.toList.drop (sIx items.size 0 lo)).take (sIx items.size items.size hi-sIx items.size 0 lo)).toArray.size<=sizeLine
  rw[List.size_toArray,List.length_take,List.length_drop,Array.length_toList]
  omega
 have hj:sIx items.size items.size hi<=items.size:=sIx_le _ _ (Nat.le_refl _) hi
 obtain⟨os,hos,hcs,hds⟩:=id hs
 have hTs:s.TypeIs (.ref sl) "slice":=⟨os,hos,hcs⟩
 unfold getItem
 try with_reducible refine wpAny_holding ?_
 first |refine wpAny_bind (wpAny_pure ?_) |skip
 refine wpAny_bind (wpAny_sequenceKey ht.typeIs (by decide) ?_)
 refine wpAny_bind (wpAny_callSpecial?_slot (name:=Str.ofString "__getitem__") ht.typeIs PyProof.Rows.slot_tuple_getitem
  (wpAny_call_entry PyProof.Rows.slot_tuple_getitem ht.typeIs entry_tuple_getitem ?_ (args_tuple_getitem _ _)))
 show wpAny _ _ (Builtin.Tuple.tupleItemsOf (.ref t) >>= _) _ _ s
 refine wpAny_bind (tupleItemsOf_ ht ?_)
 refine wpAny_bind (wpAny_typeOf hTs ?_)
 rw[if_pos (by decide)]
 refine wpAny_bind (sliceApplied_gen hs pl pu ?_)
 have hno:¬ ((((sIx items.size 0 lo:Nat):Int)==0&&(1:Int)==1&&(sIx items.size items.size hi-sIx items.size 0 lo)==items.size)=true):=by
  intro q
  rw[Bool.and_eq_true,Bool.and_eq_true] at q
  have q1:((sIx items.size 0 lo:Nat):Int)=0:=eq_of_beq q.1.1
  have q2:sIx items.size items.size hi-sIx items.size 0 lo=items.size:=eq_of_beq q.2
  exact hw ⟨by omega,by omega⟩
 show wpAny _ _ (if (((sIx items.size 0 lo:Nat):Int)==0&&(1:Int)==1&&(sIx items.size items.size hi-sIx items.size 0 lo)==items.size)=true then _ else _) _ _ s
 rw[if_neg hno,vA]
 first
  |exact wpAny_bind (m:=Builtin.Tuple.tupleExact _) (wpAny_newObj_type (wpAny_pure ⟨_,rfl,wpAny_pure h⟩) htake)
  |exact wpAny_bind (m:=Builtin.Tuple.tupleExact _) (wpAny_newObj_type (wpAny_bind (wpAny_pure (wpAny_pure ⟨_,rfl,wpAny_pure h⟩))) htake)
  |exact wpAny_bind (wpAny_bind (m:=Builtin.Tuple.tupleExact _) (wpAny_newObj_type (wpAny_pure (wpAny_pure ⟨_,rfl,wpAny_pure h⟩)) htake))
  |exact wpAny_bind (wpAny_bind (m:=Builtin.Tuple.tupleExact _) (wpAny_newObj_type (wpAny_pure ⟨_,rfl,wpAny_pure h⟩) htake))
end
end HT
namespace L2
open PySem PySem.Spec PyProof.Rows
abbrev TO:=St->Hp->(Option Int->Hp->Prop)->Prop
def PO (X:Cx)(e:Option Expr)(t:TO):Prop:=
 ∀ (pins:List (Addr×Obj)) (s:Shared) (σ:St) (H:Hp) (Q:Option Int->Hp->Prop),Inv X pins σ H s->t σ H Q ->
  wpAny (model X.prog X.w) X.A (evalPart e X.env) (λu s' => ∃ o H',Inv X pins σ H' s'/\IsPart u o/\Q o H') X.xe s
def wW:TO:=λ_ H Q=>Q none H
def Ae (t:TE):TO:=λσ H Q=>t σ H λx H1 => ∃ i,x = .int i/\Q (some i) H1
theorem intsAre_of {ns:List Int}:∀ {us:List Value},Vals (ns.map V.int) us->IntsAre us ns:=by
 induction ns with
 |nil=>intro us r;rw[List.map_nil] at r;cases r;exact .nil
 |cons n ns ih =>
  intro us r
  rw[List.map_cons] at r
  cases r with
  |cons r1 r2 =>
   obtain⟨t,e⟩:=r1
   subst e
   exact .cons n t (ih r2)
section
variable {X:Cx}{e:Expr}{te:TE}{lo hi:Option Expr}{tl th:TO}{pos p2:Pos}
theorem xn:PO X none wW:=by
 intro pins s σ H Q I h
 rw[evalPart_none]
 exact wpAny_pure ⟨none,H,I,.none,h⟩
theorem xm (h:PE X e te):PO X (some e) (Ae te):=by
 intro pins s σ H Q I hw
 rw[evalPart_some]
 refine thn (h pins s σ H _ I hw) λu s1 ⟨x,H1,I1,r1,q1⟩=>?_
 obtain⟨i,rfl,q⟩:=q1
 obtain⟨t,rfl⟩:=r1
 exact⟨some i,H1,I1,.int i t,q⟩
def SlR (X:Cx)(r:V->Option Int->Option Int->Hp->VK->Prop):Prop:=
 ∀ (pins:List (Addr×Obj)) (s:Shared) (σ:St) (H:Hp) (x:V) (v vl vu:Value) (lo hi:Option Int) (sl:Addr) (Q:VK),Inv X pins σ H s->RelV x v->s.heap.IsSliceOf sl vl vu .none->IsPart vl lo->IsPart vu hi->r x lo hi H Q ->
  ∃ T id,typeLookup (.type T) "__getitem__"=pure (some (.builtin id))/\s.TypeIs v T/\wpAny (model X.prog X.w) X.A (getItem v (.ref sl)) (EP X pins σ Q) X.xe s
def tSl (r:V->Option Int->Option Int->Hp->VK->Prop)(te:TE)(tl th:TO):TE:=λσ H Q=>te σ H λx H1=>tl σ H1 λl H2=>th σ H2 λu H3=>r x l u H3 Q
theorem vD {r:V->Option Int->Option Int->Hp->VK->Prop}(hr:SlR X r)(he:PE X e te)(hl:PO X lo tl)(hu:PO X hi th):PE X (.Subscript e (.Slice lo hi none p2) pos) (tSl r te tl th):=by
 intro pins s σ H Q I h
 refine Subscript_ (thn (he pins s σ H _ I h) λv s1 ⟨x,H1,I1,r1,q1⟩=>?_)
 refine wpAny_Slice (thn (hl pins s1 σ H1 _ I1 q1) λvl s2 ⟨l,H2,I2,pl,q2⟩=>thn (hu pins s2 σ H2 _ I2 q2) λvu s3 ⟨u,H3,I3,pu,q3⟩=>?_)
 rw[evalPart_none]
 refine wpAny_pure ?_
 have I4:Inv X pins σ H3 { s3 with heap:=s3.heap.push { cls:=.type "slice",data:=.fields #[vl,vu,.none] } }:=I3.kept (t':=s3.toks) λb ob q=>Heap.get?_push_of_some _ q
 obtain⟨T,id,hT,ht,hg⟩:=hr pins { s3 with heap:=s3.heap.push { cls:=.type "slice",data:=.fields #[vl,vu,.none] } } σ H3 x v vl vu l u s3.heap.objs.size Q I4 r1 (Heap.IsSliceOf.new ..) pl pu q3
 show wpAny (model X.prog X.w) X.A (subscriptTail e (.Slice lo hi none p2) v (.ref s3.heap.objs.size)) (EP X pins σ Q) X.xe { s3 with heap:=s3.heap.push { cls:=.type "slice",data:=.fields #[vl,vu,.none] } }
 exact tail_any (ops:=[.ref s3.heap.objs.size,v]) ht hT hg (by with_unfolding_all rfl)
def pU (xs:List V)(lo hi:Option Int):List V:=(xs.drop (HT.sIx xs.length 0 lo)).take (HT.sIx xs.length xs.length hi-HT.sIx xs.length 0 lo)
theorem dM (xs:List V)(lo hi:Option Int):(pU xs lo hi).length<=xs.length:=by
 unfold pU
 rw[List.length_take,List.length_drop]
 omega
def Bv (K:PySem.W.Frag):V->Option Int->Option Int->Hp->VK->Prop:=λx lo hi H Q => ∃ a xs,x = .ref a/\SqT K H a xs /\
 ¬ (HT.sIx xs.length 0 lo=0/\HT.sIx xs.length xs.length hi=xs.length)/\∀ p,H p=none->Q (.ref p) (upd H p (.tup (pU xs lo hi)))
theorem yE:SlR X (Bv X.K):=by
 intro pins s σ H x v vl vu lo hi sl Q I rx hs pl pu h
 obtain⟨a,xs,rfl,hx,hw,q⟩:=h
 cases rx
 obtain⟨its,r,ht,hz⟩:=I.tuple hx
 have hlen:its.toArray.size=xs.length:=by rw[List.size_toArray];exact r.length.symm
 refine⟨"tuple",_,PyProof.Rows.slot_tuple_getitem.lookup,ht.typeIs,?_⟩
 refine HT.getItem_tuple_cut ht hs pl pu (by rw[hlen];exact hw) ?_ (by rw[hlen];exact hz)
 rw[hlen]
 refine⟨.ref s.heap.objs.size,_,I.laid (t':=s.toks) (o:=.tup (pU xs lo hi)) (λb ob q=>Heap.get?_push_of_some _ q) (Nat.le_refl _) ?_,rfl,q _ (I.hok.fresh (Nat.le_refl _))⟩
 exact⟨Nat.le_trans (dM xs lo hi) hz,_,(r.drop (HT.sIx xs.length 0 lo)).take (HT.sIx xs.length xs.length hi-HT.sIx xs.length 0 lo),TupN.new _ _⟩
def Ap (K:PySem.W.Frag):R2:=λx y H Q => ∃ a b xs ys,x = .ref a/\y = .ref b/\SqT K H a xs/\SqT K H b ys/\xs≠[]/\xs.length+ys.length<=sizeLine /\
 (ys=[]->Q (.ref a) H)/\(ys≠[]->∀ p,H p=none->Q (.ref p) (upd H p (.tup (xs++ys))))
theorem Vals.nil_iff {xs:List V}{us:List Value}(r:Vals xs us):us=[]↔xs=[]:=by
 cases r with
 |nil=>simp
 |cons _ _=>simp
theorem xy:OpR X (binaryOp .Add) (Ap X.K):=by
 intro pins s σ H x y v u Q I rx ry h
 obtain⟨a,b,xs,ys,rfl,rfl,ha,hb,hx,hz,q1,q2⟩:=h
 cases rx
 cases ry
 obtain⟨its,r1,p1,_⟩:=I.tuple ha
 obtain⟨its2,r2,p2,_⟩:=I.tuple hb
 refine HT.cat_tup p1 p2 (λz=>hx (r1.nil_iff.mp z)) (λz=>⟨.ref a,H,I,rfl,q1 (r2.nil_iff.mp z)⟩) (λz=>?_) (by rw[← r1.length,← r2.length];exact hz)
 refine⟨.ref s.heap.objs.size,_,I.laid (t':=s.toks) (o:=.tup (xs++ys)) (λb ob q=>Heap.get?_push_of_some _ q) (Nat.le_refl _) ?_,rfl,q2 (λw=>z (r2.nil_iff.mpr w)) _ (I.hok.fresh (Nat.le_refl _))⟩
 exact⟨by rw[List.length_append];exact hz,_,r1.append r2,TupN.new _ _⟩
end
def ixN (n:Nat)(i:Int):Option Nat:=if 0<=i then (if i<n then some i.toNat else none) else if -(n:Int)<=i then some (i+n).toNat else none
def atI {α:Type}(xs:List α)(i:Int):Option α:=(ixN xs.length i).bind λj=>xs[j]?
theorem sQ {n:Nat}{i:Int}{j:Nat}(h:ixN n i=some j):seqIndex? i n=some j/\j<n/\-(n:Int)<=i/\i<n:=by
 unfold ixN at h
 by_cases h0 : 0<=i
 ·rw[if_pos h0] at h
  by_cases h1:i<n
  ·rw[if_pos h1] at h
   have e:i.toNat=j:=Option.some.inj h
   exact⟨by rw[seqIndex_of h0 h1,e],by omega,by omega,h1⟩
  ·rw[if_neg h1] at h;cases h
 ·rw[if_neg h0] at h
  by_cases h1 : -(n:Int)<=i
  ·rw[if_pos h1] at h
   have e:(i+n).toNat=j:=Option.some.inj h
   exact⟨by rw[seqIndex_neg (by omega) h1,e],by omega,h1,by omega⟩
  ·rw[if_neg h1] at h;cases h
theorem km {α:Type}{xs:List α}{i:Int}{v : α}(h:atI xs i=some v):∃ j,seqIndex? i xs.length=some j/\xs[j]?=some v/\j<xs.length/\-(xs.length:Int)<=i/\i<xs.length:=by
 unfold atI at h
 cases e:ixN xs.length i with
 |none=>rw[e] at h;cases h
 |some j =>
  rw[e] at h
  obtain⟨h1,h2,h3,h4⟩:=sQ e
  exact⟨j,h1,h,h2,h3,h4⟩
def kn (b:Expr):Prop:=∀ o i,subscripted b false o i=operate [o,i] (getItem o i)
def IxR (X:Cx)(r:R2):Prop:=
 ∀ (value slice:Expr) (pins:List (Addr×Obj)) (s:Shared) (σ:St) (H:Hp) (x y:V) (v u:Value) (Q:VK),Inv X pins σ H s->RelV x v->RelV y u->r x y H Q ->
  subscripted slice false v u=operate [v,u] (getItem v u)->wpAny (model X.prog X.w) X.A (subscriptTail value slice v u) (EP X pins σ Q) X.xe s
def MtR (X:Cx)(id:String)(r:V->List V->Hp->VK->Prop):Prop:=
 ∀ (pins:List (Addr×Obj)) (s:Shared) (σ:St) (H:Hp) (x:V) (xs:List V) (v:Value) (us:List Value) (Q:VK),Inv X pins σ H s->RelV x v->Vals xs us->r x xs H Q ->
  wpAny (model X.prog X.w) X.A (call (.builtin id) (v::us)) (EP X pins σ Q) X.xe s
section
variable {X:Cx}{a b:Expr}{ta tb:TE}{pos:Pos}
theorem yl {r:R2}(hr:IxR X r)(ha:PE X a ta)(hb:PE X b tb)(hs:kn b):PE X (.Subscript a b pos) (tOp r ta tb):=by
 intro pins s σ H Q I h
 exact Subscript_ (zS ha hb I h λv u s2 x y H2 I2 rx ry q=>hr a b pins s2 σ H2 x y v u Q I2 rx ry q (hs _ _))
def BA (K:PySem.W.Frag):R2:=λx y H Q => ∃ p xs i v,x = .ref p/\y = .int i/\SqL K H p xs/\atI xs i=some v/\Q v H
def By (K:PySem.W.Frag):R2:=λx y H Q => ∃ p xs i v,x = .ref p/\y = .int i/\SqT K H p xs/\atI xs i=some v/\Q v H
def Bz:R2:=λx y H Q => ∃ z i c,x = .str z/\y = .int i/\z.length<=sizeLine/\atI z.cps.toList i=some c/\Q (.str ⟨#[c]⟩) H
theorem sP:IxR X (BA X.K):=by
 intro value slice pins s σ H x y v u Q I rx ry h hs
 obtain⟨p,xs,i,z,rfl,rfl,hq,he,q⟩:=h
 cases rx
 obtain⟨t,rfl⟩:=ry
 obtain⟨its,r,pl,hz⟩:=I.list hq
 obtain⟨j,h1,h2,h3,h4,h5⟩:=km he
 obtain⟨w,ew,rw'⟩:=r.get h2
 have hl:=r.length
 have hn:=jr
 have fin:EP X pins σ Q w s:=⟨z,H,I,rw',q⟩
 by_cases h0 : 0<=i
 ·have hj:i.toNat=j:=by
   rw[seqIndex_of h0 h5] at h1
   exact Option.some.inj h1
  exact item_listR pl.isList h0 (by omega) (by rw[hj];simpa using ew) fin hs
 ·have hj:(i+(its.toArray.size:Int)).toNat=j:=by
   rw[seqIndex_neg (by omega) h4] at h1
   rw[List.size_toArray,← hl]
   exact Option.some.inj h1
  exact subscriptTail_builtinR (x:=w) pl.isList.typeIs slot_list_getitem.lookup
   (wpAny_getItem_list_neg (Q:=λr s'=>r=w/\EP X pins σ Q r s') pl.isList (by omega) (by rw[List.size_toArray]<;>omega) (by omega) (by rw[hj];simpa using ew) ⟨rfl,fin⟩) hs
theorem zz:IxR X (By X.K):=by
 intro value slice pins s σ H x y v u Q I rx ry h hs
 obtain⟨p,xs,i,z,rfl,rfl,hq,he,q⟩:=h
 cases rx
 obtain⟨t,rfl⟩:=ry
 obtain⟨its,r,pl,hz⟩:=I.tuple hq
 obtain⟨j,h1,h2,h3,h4,h5⟩:=km he
 obtain⟨w,ew,rw'⟩:=r.get h2
 have hl:=r.length
 have hn:=jr
 have fin:EP X pins σ Q w s:=⟨z,H,I,rw',q⟩
 exact subscriptTail_builtinR (x:=w) pl.typeIs slot_tuple_getitem.lookup
  (getItem_tuple (j:=j) (Q:=λr s'=>r=w/\EP X pins σ Q r s') pl (by omega) (by omega) (by rw[List.size_toArray,← hl];exact h1) (by simpa using ew) ⟨rfl,fin⟩) hs
theorem zA:IxR X Bz:=by
 intro value slice pins s σ H x y v u Q I rx ry h hs
 obtain⟨z,i,c,rfl,rfl,hz,he,q⟩:=h
 obtain⟨t,rfl⟩:=rx
 obtain⟨t',rfl⟩:=ry
 obtain⟨j,h1,h2,h3,h4,h5⟩:=km he
 have hl:z.cps.toList.length=z.length:=by simp[Str.length]
 rw[hl] at h1 h4 h5
 have hn:=jr
 exact tail_any (typeIs_str s z t) slot_str_getitem.lookup (getItem_str (c:=c) (by
  have e1:decide (i < -(2 ^ 63:Int))=false:=decide_eq_false (by omega)
  have e2:decide (i≥2 ^ 63)=false:=decide_eq_false (by omega)
  rw[e1,e2,Bool.or_false]) (by rw[h1];simpa using h2) ⟨.str ⟨#[c]⟩,H,I.tok _,⟨_,rfl⟩,q⟩) hs
theorem qZ (its:List Value)(n j:Nat)(u:Value):Obj.mapSeq (·.setIfInBounds j u) { cls:=.type "list",data:=.seq its.toArray n }={ cls:=.type "list",data:=.seq (its.set j u).toArray n }:=by
 simp[Obj.mapSeq]
theorem Inv.lst {pins:List (Addr×Obj)}{σ:St}{H:Hp}{s:Shared}{p:Addr}{xs:List V}(I:Inv X pins σ H s)(h:H p=some (.lst xs)) :
  ∃ (its:List Value) (n:Nat),Vals xs its/\s.heap.get? p=some { cls:=.type "list",data:=.seq its.toArray n }/\xs.length<=sizeLine:=by
 obtain⟨z,its,n,r,e⟩:=I.hok p _ h
 exact⟨its,n,r,e,z⟩
theorem Inv.lstUpd {pins:List (Addr×Obj)}{σ:St}{H:Hp}{s:Shared}{p:Addr}{xs ys:List V}{its its':List Value}{n n':Nat}{f:Obj->Obj}(I:Inv X pins σ H s)(h:H p=some (.lst xs))
  (ho:s.heap.get? p=some { cls:=.type "list",data:=.seq its.toArray n }) (hf:f { cls:=.type "list",data:=.seq its.toArray n }={ cls:=.type "list",data:=.seq its'.toArray n' }) (r:Vals ys its') (hz:ys.length<=sizeLine) (t:Nat) :
  Inv X pins σ (upd H p (.lst ys)) { s with heap:=s.heap.update p f,toks:=t }:=by
 have e:(s.heap.update p f).get? p=some { cls:=.type "list",data:=.seq its'.toArray n' }:=by
  rw[Heap.get?_update_self f ho (by rw[hf]<;>rfl),hf]
 refine I.write (x:=p) (e:=p) (by rw[h];trivial) (.inl rfl) (λb u hb q=>(Heap.get?_update_other _ _ (Ne.symm hb)).trans q) ⟨_,e⟩ ?_
 exact⟨hz,its',n',r,e⟩
def Ao:V->V->V->Hp->(Hp->Prop)->Prop:=λo i v H Q => ∃ p xs k j,o = .ref p/\i = .int k/\H p=some (.lst xs)/\ixN xs.length k=some j/\Q (upd H p (.lst (xs.set j v)))
theorem set_list:A_ X Ao:=by
 intro pins s σ H o i v ov iv u Q I ro ri rv h
 obtain⟨p,xs,k,j,rfl,rfl,hp,hj,q⟩:=h
 cases ro
 obtain⟨t,rfl⟩:=ri
 obtain⟨its,n,r,ho,hz⟩:=I.lst hp
 obtain⟨h1,h2,h3,h4⟩:=sQ hj
 have hl:=r.length
 have hn:=jr
 have I':Inv X pins σ (upd H p (.lst (xs.set j v))) { s with heap:=s.heap.update p (Obj.mapSeq (·.setIfInBounds j u)) }:=
  I.lstUpd hp ho (qZ its n j u) (r.set rv j) (by rw[List.length_set];exact hz) s.toks
 by_cases h0 : 0<=k
 ·have hk:k.toNat=j:=by
   rw[seqIndex_of h0 h4] at h1
   exact Option.some.inj h1
  exact PySem.W.ki_setAt ho h0 (by omega) (by rw[List.size_toArray,← hl];exact h4) (by rw[hk];exact⟨_,I',q⟩)
 ·have hk:(k+(its.toArray.size:Int)).toNat=j:=by
   rw[seqIndex_neg (by omega) h3] at h1
   rw[List.size_toArray,← hl]
   exact Option.some.inj h1
  exact PySem.W.ki_setBack ho (by omega) (by rw[List.size_toArray,← hl];exact h3) (by omega) (by rw[hk];exact⟨_,I',q⟩)
theorem iw (lo hi:Option Int)(n:Nat):(sliceBounds lo hi none n).1=((HT.sIx n 0 lo:Nat):Int)/\(sliceBounds lo hi none n).2.1=((HT.sIx n n hi:Nat):Int)/\(sliceBounds lo hi none n).2.2=1:=by
 refine⟨?_,?_,rfl⟩
 ·cases lo with
  |none=>simp[sliceBounds,HT.sIx]
  |some i =>
   simp only[sliceBounds,HT.sIx,Option.getD_none,show (1:Int) > 0 by decide,if_true]
   by_cases h:i<0
   ·simp only[h,if_true]<;>omega
   ·simp only[h,if_false]<;>omega
 ·cases hi with
  |none=>simp[sliceBounds,HT.sIx]
  |some i =>
   simp only[sliceBounds,HT.sIx,Option.getD_none,show (1:Int) > 0 by decide,if_true]
   by_cases h:i<0
   ·simp only[h,if_true]<;>omega
   ·simp only[h,if_false]<;>omega
theorem lU (its:List Value)(lo hi:Option Int):slicePick its.toArray lo hi none=((its.drop (HT.sIx its.length 0 lo)).take (HT.sIx its.length its.length hi-HT.sIx its.length 0 lo)).toArray:=by
 obtain⟨h1,h2,h3⟩:=iw lo hi its.toArray.size
 unfold slicePick
 rw[h1,h2,h3]
 simp only[sliceRange_one,pick_run,List.size_toArray]<;>rfl
def Bw (K:PySem.W.Frag):V->Option Int->Option Int->Hp->VK->Prop:=λx lo hi H Q => ∃ a xs,x = .ref a/\SqL K H a xs/\∀ p,H p=none->Q (.ref p) (upd H p (.lst (pU xs lo hi)))
theorem w5:SlR X (Bw X.K):=by
 intro pins s σ H x v vl vu lo hi sl Q I rx hs pl pu h
 obtain⟨a,xs,rfl,hx,q⟩:=h
 cases rx
 obtain⟨its,r,ht,hz⟩:=I.list hx
 have hlen:=r.length
 refine⟨"list",_,slot_list_getitem.lookup,ht.isList.typeIs,?_⟩
 refine wpAny_getItem_list_slice ht.isList hs pl pu .none (by simp) ?_ (by rw[List.size_toArray]<;>omega)
 rw[lU,← hlen]
 refine⟨.ref s.heap.objs.size,_,I.laid (t':=s.toks) (o:=.lst (pU xs lo hi)) (λb ob q=>Heap.get?_push_of_some _ q) (Nat.le_refl _) ?_,rfl,q _ (I.hok.fresh (Nat.le_refl _))⟩
 exact⟨Nat.le_trans (dM xs lo hi) hz,_,0,(r.drop (HT.sIx xs.length 0 lo)).take (HT.sIx xs.length xs.length hi-HT.sIx xs.length 0 lo),Heap.get?_push_size _ rfl⟩
theorem fu:gR X (.builtin "len") (λxs H Q => ∃ p ys,xs=[.ref p]/\(SqL X.K H p ys∨SqT X.K H p ys)/\Q (.int ys.length) H):=by
 intro pins s σ H xs us Q I r h
 obtain⟨p,ys,rfl,hq,q⟩:=h
 obtain⟨u,rfl,rx⟩:=vals1 r
 cases rx
 have hn:=jr
 rcases hq with hq |hq
 ·obtain⟨its,r',pl,hz⟩:=I.list hq
  have hlen:=r'.length
  exact Calls.call_len_list pl.isList (by simp only[List.size_toArray]<;>omega) ⟨.int ys.length,H,I.tok _,⟨s.toks+1,by rw[List.size_toArray,hlen]⟩,q⟩
 ·obtain⟨its,r',pl,hz⟩:=I.tuple hq
  have hlen:=r'.length
  exact len_tuple pl (by simp only[List.size_toArray]<;>omega) ⟨.int ys.length,H,I.tok _,⟨s.toks+1,by rw[List.size_toArray,hlen]⟩,q⟩
theorem og:gR X (.builtin "len") (λxs H Q => ∃ z,xs=[.str z]/\z.length<=sizeLine/\Q (.int z.length) H):=by
 intro pins s σ H xs us Q I r h
 obtain⟨z,rfl,hz,q⟩:=h
 obtain⟨u,rfl,t,rfl⟩:=vals1 r
 have hn:=jr
 exact len_str (by omega) ⟨.int z.length,H,I.tok _,⟨_,rfl⟩,q⟩
theorem d5:gR X (.type "tuple") (λxs H Q => ∃ p ys,xs=[.ref p]/\((SqL X.K H p ys/\∀ l,H l=none->Q (.ref l) (upd H l (.tup ys)))∨(SqT X.K H p ys/\Q (.ref p) H))):=by
 intro pins s σ H xs us Q I r h
 obtain⟨p,ys,rfl,h⟩:=h
 obtain⟨u,rfl,rx⟩:=vals1 r
 cases rx
 rcases h with ⟨hq,q⟩ |⟨hq,q⟩
 ·obtain⟨its,r',pl,hz⟩:=I.list hq
  have hlen:=r'.length
  refine call_tuple_list pl.isList (λh' kp=>?_) (by simp only[List.size_toArray]<;>omega)
  have I1:Inv X pins σ H { s with heap:=h' }:=I.kept (t':=s.toks) kp
  have I2:Inv X pins σ (upd H h'.objs.size (.tup ys)) { s with heap:=h'.push { cls:=.type "tuple",data:=.seq its.toArray } }:=
   I1.laid (t':=s.toks) (λb o e=>Heap.get?_push_of_some _ e) (Nat.le_refl _) (show ObjOk X.prog X.w _ _ _ (.tup ys) from⟨hz,its,r',TupN.new _ _⟩)
  exact⟨.ref h'.objs.size,_,I2,rfl,q _ (I1.hok.fresh (Nat.le_refl _))⟩
 ·obtain⟨its,r',pl,hz⟩:=I.tuple hq
  exact call_tuple_same pl ⟨.ref p,H,I,rfl,q⟩
def tyV (K:PySem.W.Frag)(T:String)(x:V)(H:Hp):Prop:=match x with
 | .str _=>T="str"
 | .int _=>T="int"
 | .ref p=>(T="list"/\∃ xs,SqL K H p xs)∨(T="tuple"/\((∃ o,K.lookup p=some o/\o.cls = .type "tuple"/\o.dict=none)∨∃ xs,Rd H p (.tup xs))) ∨
   (T="dict"/\((∃ kvs,H p=some (.dK kvs))∨∃ kvs,H p=some (.dT kvs)))∨(T="set"/\∃ S n,H p=some (.set S n))
 |_=>False
theorem yz {pins:List (Addr×Obj)}{σ:St}{H:Hp}{s:Shared}{T:String}{x:V}{v:Value}(I:Inv X pins σ H s)(r:RelV x v)(ty:tyV X.K T x H) :
  s.TypeIs v T/\∀ a,v = .ref a->∃ ob,s.heap.get? a=some ob/\ob.dict=none:=by
 cases x with
 |str z =>
  obtain⟨t,rfl⟩:=r
  cases (show T="str" from ty)
  exact⟨typeIs_str s z t,λ_ e=>nomatch e⟩
 |int i =>
  obtain⟨t,rfl⟩:=r
  cases (show T="int" from ty)
  exact⟨typeIs_int s i t,λ_ e=>nomatch e⟩
 |ref p =>
  cases r
  rcases ty with ⟨rfl,xs,hq⟩ |⟨rfl,⟨o,hk,hc,hd⟩ |⟨xs,hr⟩⟩ |⟨rfl,hk⟩ |⟨rfl,S,n,hk⟩
  ·obtain⟨its,_,pl,_⟩:=I.list hq
   refine⟨pl.isList.typeIs,λa e=>?_⟩
   cases e
   obtain⟨o,n,e,c,hd,_⟩:=pl
   exact⟨o,e,hd⟩
  ·refine⟨⟨o,I.kIn p o hk,hc⟩,λa e=>?_⟩
   cases e
   exact⟨o,I.kIn _ o hk,hd⟩
  ·obtain⟨_,its,_,n,e⟩:=hr.ok I.hok
   refine⟨⟨_,e,rfl⟩,λa e2=>?_⟩
   cases e2
   exact⟨_,e,rfl⟩
  ·have z:∃ o,s.heap.get? p=some o/\o.ExactDict:=by
    rcases hk with ⟨kvs,hk⟩ |⟨kvs,hk⟩
    ·obtain⟨_,_,_,_,o,_,_,e,ex,_⟩:=I.hok p _ hk
     exact⟨o,e,ex⟩
    ·obtain⟨_,_,_,_,o,_,_,e,ex,_⟩:=I.hok p _ hk
     exact⟨o,e,ex⟩
   obtain⟨o,e,ex⟩:=z
   refine⟨⟨o,e,ex.1⟩,λa e2=>?_⟩
   cases e2
   exact⟨o,e,ex.2.1⟩
  ·obtain⟨o,_,_,_,e,ex,_⟩:=I.hok p _ hk
   refine⟨⟨o,e,ex.1⟩,λa e2=>?_⟩
   cases e2
   exact⟨o,e,ex.2.1⟩
 |_=>exact False.elim ty
def tBM (K:PySem.W.Frag)(T:String)(r:V->List V->Hp->VK->Prop)(to:TE)(t:TA):TE:=λσ H Q=>to σ H λx H1=>tyV K T x H1/\t σ H1 λxs H2=>r x xs H2 Q
variable {o e:Expr}{es:List Expr}{to:TE}{t:TA}{name:Str}{apos cpos:Pos}{T id:String}{r:V->List V->Hp->VK->Prop}
theorem ym (pa:PlainAttrs T)(slot:Slot T name id)(hty:typeOf (.builtin id)=pure (.type "method_descriptor"))(hm:MtR X id r)(ho:PE X o to)(ha:PA X (e::es) t)
  (hbase:attributeBase o name X.env (eval o X.env)=eval o X.env:=by rfl)
  (hfew:((backTo cpos (starEach (e::es) X.env)).all (λx => !x.1)&&(backToKw cpos (keywordEach [] X.env)).all (λx=>x.1.isSome)
   && decide ((e::es).length+([]:List Keyword).length+(if ([]:List Keyword).isEmpty then 0 else 1)<30))=true:=by rfl)
  (hline:(apos.endLine==cpos.line)=true:=by rfl) (hs:starEach (e::es) X.env=(false,eval e X.env)::starEach es X.env:=by rfl) (hplain:(backTo cpos (starEach es X.env)).any (·.1)=false:=by rfl) :
  PE X (.Call (.Attribute o name apos) (e::es) [] cpos) (tBM X.K T r to t):=by
 intro pins s σ H Q I h
 refine wpAny_Call_method_late hbase hfew hline rfl (thn (ho pins s σ H _ I h) λv s1 ⟨x,H1,I1,r1,ty,q1⟩=>?_)
 obtain⟨h1,h2⟩:=yz I1 r1 ty
 refine⟨T,id,pa,slot,hty,h1,h2,?_⟩
 have hA:=ha cpos pins s1 σ H1 _ I1 q1
 rw[hs] at hA ⊢
 refine Calls.callWith_builtin (by show (false ||(backTo cpos (starEach es X.env)).any (·.1))=false;rw[hplain]<;>rfl) (Calls.evalArgs_plain ?_)
 exact thn hA λus s2 ⟨vs,H2,I2,r2,q2⟩=>hm pins s2 σ H2 x vs v us Q I2 r1 r2 q2
end
def MtM (X:Cx)(id:String)(r:V->List V->Hp->VK->Prop):Prop:=
 ∀ (pins:List (Addr×Obj)) (s:Shared) (σ:St) (H:Hp) (x:V) (xs:List V) (v:Value) (us:List Value) (Q:VK),Inv X pins σ H s->RelV x v->Vals xs us->r x xs H Q ->
  wpAny (model X.prog X.w) X.A (call (.builtin id) (v::us)) (EP X pins σ Q) X.xe s
theorem Vals.one:∀ {x:V}{us:List Value},Vals [x] us->∃ u,us=[u]/\RelV x u
 |_,_,.cons r .nil=>⟨_,rfl,r⟩
theorem Vals.rep {xs:List V}{us:List Value}(h:Vals xs us):∀ k:Nat,Vals (List.replicate k xs).flatten (List.replicate k us).flatten
 | 0 => .nil
 |k+1=>by
  rw[List.replicate_succ,List.replicate_succ,List.flatten_cons,List.flatten_cons]
  exact Vals.append h (Vals.rep h k)
theorem foldl_rep (its:List Value):∀ (k:Nat) (acc:List Value),
  List.foldl (λx1 x2=>x1++x2) acc.toArray (List.replicate k its.toArray)=(acc++(List.replicate k its).flatten).toArray
 | 0,acc=>by simp
 |k+1,acc=>by
  have e:acc.toArray++its.toArray=(acc++its).toArray:=by simp
  have e2:(acc++its)++(List.replicate k its).flatten=acc++(List.replicate (k+1) its).flatten:=by
   rw[List.replicate_succ,List.flatten_cons,List.append_assoc]
  rw[← e2,← foldl_rep its k (acc++its),← e,List.replicate_succ,List.foldl_cons]
section
variable {X:Cx}{pins:List (Addr×Obj)}{σ:St}{H:Hp}{s:Shared}{l b:Addr}{xs ys zs:List V}
theorem Inv.lset {its its':List Value}{n:Nat}{f:Array Value->Array Value}{t':Nat}(I:Inv X pins σ H s)(hH:H l=some (.lst xs))
  (e:s.heap.get? l=some { cls:=.type "list",data:=.seq its.toArray n }) (hf:f its.toArray=its'.toArray) (hv:Vals ys its') (hz:ys.length<=sizeLine) :
  Inv X pins σ (upd H l (.lst ys)) { s with heap:=s.heap.update l (Obj.mapSeq f),toks:=t' }:=by
 have q:=PySem.IsL.update e f
 rw[hf] at q
 refine I.write (x:=l) (e:=l) (by rw[hH];exact trivial) (.inl rfl) (λb' u hb hu=>(Heap.get?_update_other s.heap (Obj.mapSeq f) (Ne.symm hb)).trans hu) ⟨_,q⟩ ?_
 exact⟨hz,its',_,hv,q⟩
theorem Inv.lnew {its:List Value}{t':Nat}(I:Inv X pins σ H s)(hv:Vals ys its)(hz:ys.length<=sizeLine) :
  Inv X pins σ (upd H s.heap.objs.size (.lst ys)) { s with heap:=s.heap.push { cls:=.type "list",data:=.seq its.toArray },toks:=t' }:=
 I.laid (λ_ _ q=>Heap.get?_push_of_some _ q) (Nat.le_refl _) ⟨hz,its,0,hv,Heap.get?_push_size _ rfl⟩
theorem Inv.fresh (I:Inv X pins σ H s):H s.heap.objs.size=none:=I.hok.fresh (Nat.le_refl _)
theorem Inv.lstM (I:Inv X pins σ H s)(hH:H l=some (.lst xs)):xs.length<=sizeLine/\∃ (its:List Value) (n:Nat),Vals xs its/\xs.length=its.length/\s.heap.get? l=some { cls:=.type "list",data:=.seq its.toArray n }:=by
 obtain⟨z,its,n,r,e⟩:=I.hok l _ hH
 exact⟨z,its,n,r,r.length,e⟩
theorem vH {n:Nat}(h:n<=sizeLine):Builtin.List.listTooLong n=false:=by
 unfold Builtin.List.listTooLong
 exact decide_eq_false (by omega)
end
section
variable {X:Cx}
def xg:V->List V->Hp->VK->Prop:=λx vs H Q => ∃ l xs y,x = .ref l/\vs=[y]/\H l=some (.lst xs)/\xs.length<sizeLine/\Q .non (upd H l (.lst (xs++[y])))
theorem uv:MtM X "list.append" xg:=by
 intro pins s σ H x vs v us Q I rx rv h
 obtain⟨l,xs,y,rfl,rfl,hH,hz,q⟩:=h
 cases rx
 obtain⟨u,rfl,ru⟩:=rv.one
 obtain⟨z,its,n,r,hl,e⟩:=I.lstM hH
 refine call_meets F.slot_list_append ⟨_,e,rfl⟩ F.entry_list_append (F.args_list_append_2 _ _) (PySem.list_append l its.toArray n u (by rw[List.size_toArray];omega)) ⟨e,?_⟩
 refine⟨.non,_,I.lset (its':=its++[u]) hH e (by simp) (r.append (.cons ru .nil)) ?_,rfl,q⟩
 rw[List.length_append,List.length_singleton]
 omega
def Bx:R2:=λx y H Q => ∃ l k xs,x = .ref l/\y = .int k/\H l=some (.lst xs)/\-(2 ^ 63)<=k/\k<2 ^ 63/\xs.length*k.toNat<=sizeLine /\
 ∀ p,H p=none->Q (.ref p) (upd H p (.lst (List.replicate k.toNat xs).flatten))
theorem len_rep {α:Type}(xs:List α)(k:Nat):(List.replicate k xs).flatten.length=k*xs.length:=by
 induction k with
 |zero=>simp
 |succ k ih=>rw[List.replicate_succ,List.flatten_cons,List.length_append,ih,Nat.succ_mul,Nat.add_comm]
theorem zi:OpR X (binaryOp .Mult) Bx:=by
 intro pins s σ H x y v u Q I rx ry h
 obtain⟨l,k,xs,rfl,rfl,hH,h1,h2,hz,q⟩:=h
 cases rx
 obtain⟨t,rfl⟩:=ry
 obtain⟨z,its,n,r,hl,e⟩:=I.lstM hH
 have hlen:its.toArray.size*k.toNat<=sizeLine:=by rw[List.size_toArray,← hl];exact hz
 have hcap:¬ its.toArray.size*k.toNat > (2 ^ 63-1) / 8:=by
  have:(sizeLine:Nat)<=(2 ^ 63-1) / 8:=by decide
  omega
 have hfit:¬ (!Builtin.List.listFitsIndex k)=true:=by
  rw[fitsIndex_both h1 h2]
  exact Bool.false_ne_true
 have hlong:¬ Builtin.List.listTooLong (its.toArray.size*k.toNat)=true:=by
  rw[vH hlen]
  exact Bool.false_ne_true
 have hnew:List.foldl (λx1 x2=>x1++x2) #[] (List.replicate (if its.toArray.isEmpty=true then 0 else k.toNat) its.toArray)=(List.replicate k.toNat its).flatten.toArray:=by
  have f0:∀ m:Nat,List.foldl (λx1 x2=>x1++x2) #[] (List.replicate m its.toArray)=(List.replicate m its).flatten.toArray:=λm=>by
   have:=foldl_rep its m []
   rw[List.nil_append] at this
   exact this
  rw[f0]
  cases its with
  |nil=>simp
  |cons a r'=>rw[if_neg (by simp)]
 refine wpAny_binaryOp_repeat_ref (T:="list") (U:="int") (by decide) ⟨_,e,rfl⟩ (λs'=>typeIs_int s' k t) noFill_list_mul F.fills_int_mul F.slot_int_rmul repeat_list F.slot_int_index.lookup
  (call_meets F.slot_int_rmul (typeIs_int s k t) F.entry_int_rmul (F.args_int_rmul_2 _ _) (int___rmul___int_list k t l its.toArray n)
   ⟨e,rfl,⟨_,e,rfl⟩,call_meets F.slot_list_mul ⟨_,e,rfl⟩ F.entry_list_mul (F.args_list_mul_2 _ _) (AutoListH.list___mul___list_int_3 l its.toArray n k t hfit hcap hlong) ⟨e,?_⟩⟩)
 rw[hnew]
 exact⟨.ref _,_,I.lnew (t':=s.toks) (r.rep k.toNat) (by rw[len_rep,Nat.mul_comm];exact hz),rfl,q _ I.fresh⟩
end
inductive D where
 |non |bl (b:Bool) |int (i:Int) |str (x:Str)
 |tup (xs:List D) |lst (xs:List D) |set (xs:List D) |loc (l:Nat)
 deriving Inhabited
def TQ (K:PySem.W.Frag)(H:Hp)(J:List Addr)(a:Addr)(xs:List V):Prop:=
 (Rd H a (.tup xs)/\a∉J/\xs.length<=sizeLine)∨∃ (o:Obj) (its:Array Value) (n:Nat),K.lookup a=some o/\o.cls = .type "tuple"/\o.dict=none/\o.data = .seq its n/\its.size<=sizeLine/\Vals xs its.toList
def LQ (K:PySem.W.Frag)(H:Hp)(J:List Addr)(a:Addr)(xs:List V):Prop:=
 (Rd H a (.lst xs)/\a∉J/\xs.length<=sizeLine)∨∃ (o:Obj) (its:Array Value) (n:Nat),K.lookup a=some o/\o.cls = .type "list"/\o.dict=none/\o.data = .seq its n/\its.size<=sizeLine/\Vals xs its.toList
theorem TQ.sq {K:PySem.W.Frag}{H:Hp}{J:List Addr}{a:Addr}{xs:List V}(h:TQ K H J a xs):SqT K H a xs:=h.elim (λz => .inl z.1) λ⟨o,its,n,a,b,_,c⟩ => .inr ⟨o,its,n,a,b,c⟩
theorem LQ.sq {K:PySem.W.Frag}{H:Hp}{J:List Addr}{a:Addr}{xs:List V}(h:LQ K H J a xs):SqL K H a xs:=h.elim (λz => .inl z.1) .inr
def Cb (a:Addr)(us:List Value):HO:=HO.ext λh => ∃ o es ep t,h.get? a=some o/\o.ExactSet/\o.data = .set es ep t/\(es.toList.map (·.2))=us/\t.fits es.size=true/\es.size<=sizeLine
def okS (x:Str):Prop:=x.length<=sizeLine/\PyData.strOk x=true
mutual
def At (K:PySem.W.Frag)(H:Hp)(J:List Addr):D->V->Prop
 | .non,v=>v = .non
 | .bl b,v=>v = .bl b
 | .int i,v=>v = .int i
 | .str x,v=>v = .str x/\okS x
 | .tup ds,v => ∃ a xs,v = .ref a/\TQ K H J a xs/\Ats K H J ds xs
 | .lst ds,v => ∃ a xs,v = .ref a/\LQ K H J a xs/\Ats K H J ds xs
 | .set ds,v => ∃ a us xs,v = .ref a/\H a=some (Cb a us)/\a∉J/\Vals xs us/\Ats K H J ds xs
 | .loc l,v => ∃ a,v = .ref a/\J[l]?=some a
def Ats (K:PySem.W.Frag)(H:Hp)(J:List Addr):List D->List V->Prop
 |[],vs=>vs=[]
 |d::ds,vs => ∃ v r,vs=v::r/\At K H J d v/\Ats K H J ds r
end
structure Ex (J:List Addr) (H:Hp) (J':List Addr) (H':Hp):Prop where
 pre:J <+: J'
 keep:∀ b o,H b=some o->b∉J->H' b=some o/\b∉J'
theorem Ex.refl {J:List Addr}{H:Hp}:Ex J H J H:=⟨List.prefix_refl _,λ_ _ h n=>⟨h,n⟩⟩
theorem Ex.trans {J J1 J2:List Addr}{H H1 H2:Hp}(a:Ex J H J1 H1)(b:Ex J1 H1 J2 H2):Ex J H J2 H2:=
 ⟨a.pre.trans b.pre,λc o h n=>let ⟨h1,n1⟩:=a.keep c o h n;b.keep c o h1 n1⟩
theorem Ex.same {J:List Addr}{H H':Hp}(s:Same H H'):Ex J H J H':=⟨List.prefix_refl _,λb o h n=>⟨s b o h,n⟩⟩
section
variable {K:PySem.W.Frag}{H H':Hp}{J J':List Addr}
theorem Rd.ex {a:Addr}{u:HO}(e:Ex J H J' H')(h:Rd H a u)(n:a∉J):Rd H' a u/\a∉J':=by
 rcases h with h |⟨o,h⟩
 ·exact⟨.inl (e.keep a _ h n).1,(e.keep a _ h n).2⟩
 ·exact⟨.inr ⟨o,(e.keep a _ h n).1⟩,(e.keep a _ h n).2⟩
theorem TQ.ex {a:Addr}{xs:List V}(e:Ex J H J' H')(h:TQ K H J a xs):TQ K H' J' a xs:=h.elim (λz => .inl ⟨(z.1.ex e z.2.1).1,(z.1.ex e z.2.1).2,z.2.2⟩) .inr
theorem LQ.ex {a:Addr}{xs:List V}(e:Ex J H J' H')(h:LQ K H J a xs):LQ K H' J' a xs:=h.elim (λz => .inl ⟨(z.1.ex e z.2.1).1,(z.1.ex e z.2.1).2,z.2.2⟩) .inr
theorem TQ.len {a:Addr}{xs:List V}(h:TQ K H J a xs):xs.length<=sizeLine:=by
 rcases h with ⟨_,_,z⟩ |⟨o,its,n,_,_,_,_,z,r⟩
 ·exact z
 ·have e:=Vals.length r
  simp only[Array.length_toList] at e
  omega
theorem LQ.len {a:Addr}{xs:List V}(h:LQ K H J a xs):xs.length<=sizeLine:=by
 rcases h with ⟨_,_,z⟩ |⟨o,its,n,_,_,_,_,z,r⟩
 ·exact z
 ·have e:=Vals.length r
  simp only[Array.length_toList] at e
  omega
theorem sD {α:Type}{l l':List α}(h:l <+: l'){i:Nat}{x : α}(e:l[i]?=some x):l'[i]?=some x:=by
 obtain⟨t,rfl⟩:=h
 rw[List.getElem?_append_left (List.getElem?_eq_some_iff.mp e).1];exact e
mutual
theorem At.ex (e:Ex J H J' H'):∀ {d:D}{v:V},At K H J d v->At K H' J' d v
 | .non,_,h=>by unfold At at h ⊢;exact h
 | .bl _,_,h=>by unfold At at h ⊢;exact h
 | .int _,_,h=>by unfold At at h ⊢;exact h
 | .str _,_,h=>by unfold At at h ⊢;exact h
 | .tup ds,_,h=>by unfold At at h ⊢;obtain⟨a,xs,rfl,q,r⟩:=h;exact⟨a,xs,rfl,q.ex e,Ats.ex e r⟩
 | .lst ds,_,h=>by unfold At at h ⊢;obtain⟨a,xs,rfl,q,r⟩:=h;exact⟨a,xs,rfl,q.ex e,Ats.ex e r⟩
 | .set ds,_,h=>by unfold At at h ⊢;obtain⟨a,us,xs,rfl,q,n,r,z⟩:=h;exact⟨a,us,xs,rfl,(e.keep a _ q n).1,(e.keep a _ q n).2,r,Ats.ex e z⟩
 | .loc l,_,h=>by unfold At at h ⊢;obtain⟨a,rfl,q⟩:=h;exact⟨a,rfl,sD e.pre q⟩
theorem Ats.ex (e:Ex J H J' H'):∀ {ds:List D}{vs:List V},Ats K H J ds vs->Ats K H' J' ds vs
 |[],_,h=>by unfold Ats at h ⊢;exact h
 |d::ds,_,h=>by unfold Ats at h ⊢;obtain⟨v,r,rfl,p,q⟩:=h;exact⟨v,r,rfl,At.ex e p,Ats.ex e q⟩
end
theorem At.non_iff {v:V}:At K H J .non v↔v = .non:=by unfold At;exact Iff.rfl
theorem At.bl_iff {b:Bool}{v:V}:At K H J (.bl b) v↔v = .bl b:=by unfold At;exact Iff.rfl
theorem At.int_iff {i:Int}{v:V}:At K H J (.int i) v↔v = .int i:=by unfold At;exact Iff.rfl
theorem At.str_iff {x:Str}{v:V}:At K H J (.str x) v↔v = .str x/\okS x:=by unfold At;exact Iff.rfl
theorem At.tup_iff {ds:List D}{v:V}:At K H J (.tup ds) v↔∃ a xs,v = .ref a/\TQ K H J a xs/\Ats K H J ds xs:=by unfold At;exact Iff.rfl
theorem At.lst_iff {ds:List D}{v:V}:At K H J (.lst ds) v↔∃ a xs,v = .ref a/\LQ K H J a xs/\Ats K H J ds xs:=by unfold At;exact Iff.rfl
theorem At.loc_iff {l:Nat}{v:V}:At K H J (.loc l) v↔∃ a,v = .ref a/\J[l]?=some a:=by unfold At;exact Iff.rfl
theorem Ats.nil_iff {vs:List V}:Ats K H J [] vs↔vs=[]:=by unfold Ats;exact Iff.rfl
theorem Ats.cons_iff {d:D}{ds:List D}{vs:List V}:Ats K H J (d::ds) vs↔∃ v r,vs=v::r/\At K H J d v/\Ats K H J ds r:=by
 constructor
 ·intro h;unfold Ats at h;exact h
 ·intro h;unfold Ats;exact h
theorem Ats.nil:Ats K H J [] []:=Ats.nil_iff.mpr rfl
theorem Ats.cons {d:D}{v:V}{ds:List D}{vs:List V}(h:At K H J d v)(r:Ats K H J ds vs):Ats K H J (d::ds) (v::vs):=Ats.cons_iff.mpr ⟨v,vs,rfl,h,r⟩
theorem Ats.uncons {d:D}{v:V}{ds:List D}{vs:List V}(h:Ats K H J (d::ds) (v::vs)):At K H J d v/\Ats K H J ds vs:=by
 obtain⟨_,_,e,p,q⟩:=Ats.cons_iff.mp h;cases e;exact⟨p,q⟩
theorem Ats.length:∀ {ds:List D}{vs:List V},Ats K H J ds vs->ds.length=vs.length
 |[],_,h=>by rw[Ats.nil_iff.mp h];rfl
 |d::ds,_,h=>by obtain⟨v,r,rfl,_,q⟩:=Ats.cons_iff.mp h;rw[List.length_cons,List.length_cons,Ats.length q]
theorem Ats.append:∀ {ds es:List D}{vs us:List V},Ats K H J ds vs->Ats K H J es us->Ats K H J (ds++es) (vs++us)
 |[],_,_,_,h,k=>by rw[Ats.nil_iff.mp h];exact k
 |d::ds,_,_,_,h,k=>by obtain⟨v,r,rfl,p,q⟩:=Ats.cons_iff.mp h;exact .cons p (Ats.append q k)
theorem Ats.get:∀ {ds:List D}{vs:List V}{i:Nat}{d:D},Ats K H J ds vs->ds[i]?=some d->∃ v,vs[i]?=some v/\At K H J d v
 |[],_,_,_,_,e=>by simp at e
 |d::ds,_,0,_,h,e=>by obtain⟨v,r,rfl,p,q⟩:=Ats.cons_iff.mp h;simp at e;subst e;exact⟨v,rfl,p⟩
 |d::ds,_,i+1,_,h,e=>by obtain⟨v,r,rfl,p,q⟩:=Ats.cons_iff.mp h;exact Ats.get (i:=i) q (by simpa using e)
theorem Ats.get':∀ {ds:List D}{vs:List V}{i:Nat}{v:V},Ats K H J ds vs->vs[i]?=some v->∃ d,ds[i]?=some d/\At K H J d v
 |[],_,_,_,h,e=>by rw[Ats.nil_iff.mp h] at e;simp at e
 |d::ds,_,0,_,h,e=>by obtain⟨v,r,rfl,p,q⟩:=Ats.cons_iff.mp h;simp at e;subst e;exact⟨d,rfl,p⟩
 |d::ds,_,i+1,_,h,e=>by obtain⟨v,r,rfl,p,q⟩:=Ats.cons_iff.mp h;exact Ats.get' (i:=i) q (by simpa using e)
theorem Ats.take:∀ {ds:List D}{vs:List V}(n:Nat),Ats K H J ds vs->Ats K H J (ds.take n) (vs.take n)
 |_,_,0,_=>by simpa using Ats.nil
 |[],_,_+1,h=>by rw[Ats.nil_iff.mp h];simpa using Ats.nil
 |d::ds,_,n+1,h=>by obtain⟨v,r,rfl,p,q⟩:=Ats.cons_iff.mp h;exact .cons p (Ats.take n q)
theorem Ats.drop:∀ {ds:List D}{vs:List V}(n:Nat),Ats K H J ds vs->Ats K H J (ds.drop n) (vs.drop n)
 |_,_,0,h=>h
 |[],_,_+1,h=>by rw[Ats.nil_iff.mp h];simpa using Ats.nil
 |d::ds,_,n+1,h=>by obtain⟨v,r,rfl,p,q⟩:=Ats.cons_iff.mp h;exact Ats.drop n q
theorem Ats.rep {ds:List D}{vs:List V}(h:Ats K H J ds vs):∀ k:Nat,Ats K H J (List.replicate k ds).flatten (List.replicate k vs).flatten
 | 0=>Ats.nil
 |k+1=>by rw[List.replicate_succ,List.replicate_succ,List.flatten_cons,List.flatten_cons];exact h.append (Ats.rep h k)
theorem Ats.ofInts:∀ (ns:List Int),Ats K H J (ns.map D.int) (ns.map V.int)
 |[] => .nil
 |n::ns => .cons (At.int_iff.mpr rfl) (Ats.ofInts ns)
theorem Ats.toInts:∀ {ns:List Int}{vs:List V},Ats K H J (ns.map D.int) vs->vs=ns.map V.int
 |[],_,h=>Ats.nil_iff.mp h
 |n::ns,_,h=>by obtain⟨v,r,rfl,p,q⟩:=Ats.cons_iff.mp h;rw[At.int_iff.mp p,Ats.toInts q];rfl
end
mutual
def toPy:D->Option PyData
 | .non=>some .none
 | .bl b=>some (.bool b)
 | .int i=>some (.int i)
 | .str x=>some (.str x)
 | .tup ds=>(cZ ds).map .tuple
 | .lst ds=>(cZ ds).map .list
 | .set _=>none
 | .loc _=>none
def cZ:List D->Option (List PyData)
 |[]=>some []
 |d::ds=>(toPy d).bind λp=>(cZ ds).map λr=>p::r
end
inductive MO where
 |dict (kvs:List (D×D)) |lst (xs:List D) |exc (c:Str) |dictN (kvs:List (D×D)) |ins (c:Str) (fs:List (Str×D))
 deriving Inhabited
abbrev Sto:=List MO
def dE:D->Option Key
 | .int i=>some (.inl i)
 | .str x=>some (.inr x)
 |_=>none
def ExO (a C:Addr):HO:=HO.ext λh => ∃ o,h.get? a=some o/\o.cls = .ref C
def dD (d:D):Option PyData:=(toPy d).bind λp=>if keyOk 8 p=true then some p else none
abbrev RKN (K:PySem.W.Frag)(H:Hp)(J:List Addr):(D×D)->(PyData×Addr×V)->Prop:=λp q=>(dD p.1=some q.1/\At K H J p.1 (.ref q.2.1))/\At K H J p.2 q.2.2
abbrev RFs (K:PySem.W.Frag)(H:Hp)(J:List Addr):(Str×D)->(Str×V)->Prop:=λp q=>p.1=q.1/\At K H J p.2 q.2
def MAt (K:PySem.W.Frag)(H:Hp)(J:List Addr):MO->Addr->Prop
 | .lst ds,a => ∃ xs,H a=some (.lst xs)/\Ats K H J ds xs
 | .dict kvs,a => ∃ ps:List (Key×V),H a=some (.dK ps)/\Paired (λ(p:D×D) (q:Key×V)=>(dE p.1=some q.1/\At K H J p.1 (kV q.1))/\At K H J p.2 q.2) kvs ps
 | .exc c,a => ∃ C,PySem.W.nsIn K mainGlobals c=some (some (.ref C))/\H a=some (ExO a C)
 | .dictN kvs,a => ∃ ps:List (PyData×Addr×V),H a=some (.dN ps)/\Paired (RKN K H J) kvs ps
 | .ins c fs,a => ∃ C dx vs,PySem.W.nsIn K mainGlobals c=some (some (.ref C))/\H a=some (.ins C dx vs)/\Paired (RFs K H J) fs vs
structure StoOk (K:PySem.W.Frag) (J:List Addr) (S:Sto) (H:Hp):Prop where
 len:J.length=S.length
 nd:J.Nodup
 at_:∀ (l:Nat) (a:Addr) (o:MO),J[l]?=some a->S[l]?=some o->MAt K H J o a
section
variable {K:PySem.W.Frag}{H H':Hp}{J J':List Addr}{S:Sto}
theorem MAt.ne_none {o:MO}{a:Addr}(h:MAt K H J o a):H a≠none:=by
 cases o with
 |dict kvs=>obtain⟨_,e,_⟩:=h;rw[e];simp
 |lst xs=>obtain⟨_,e,_⟩:=h;rw[e];simp
 |exc c=>obtain⟨_,_,e⟩:=h;rw[e];simp
 |dictN kvs=>obtain⟨_,e,_⟩:=h;rw[e];simp
 |ins c fs=>obtain⟨_,_,_,_,e,_⟩:=h;rw[e];simp
theorem StoOk.tracked (s:StoOk K J S H){a:Addr}(h:a∈J):H a≠none:=by
 obtain⟨l,e⟩:=List.getElem?_of_mem h
 have hl:l<S.length:=by rw[← s.len];exact (List.getElem?_eq_some_iff.mp e).1
 exact (s.at_ l a _ e (List.getElem?_eq_getElem hl)).ne_none
theorem MAt.ex {o:MO}{a:Addr}(e:Ex J H J' H')(k:H' a=H a)(h:MAt K H J o a):MAt K H' J' o a:=by
 cases o with
 |dict kvs=>obtain⟨ps,q,r⟩:=h;exact⟨ps,k.trans q,Paired.mapP r λp q z=>⟨⟨z.1.1,z.1.2.ex e⟩,z.2.ex e⟩⟩
 |lst xs=>obtain⟨ys,q,r⟩:=h;exact⟨ys,k.trans q,r.ex e⟩
 |exc c=>obtain⟨C,q,r⟩:=h;exact⟨C,q,k.trans r⟩
 |dictN kvs=>obtain⟨ps,q,r⟩:=h;exact⟨ps,k.trans q,Paired.mapP r λp q z=>⟨⟨z.1.1,z.1.2.ex e⟩,z.2.ex e⟩⟩
 |ins c fs=>obtain⟨C,dx,vs,n,q,r⟩:=h;exact⟨C,dx,vs,n,k.trans q,Paired.mapP r λp q z=>⟨z.1,z.2.ex e⟩⟩
theorem StoOk.same (s:StoOk K J S H)(e:Same H H'):StoOk K J S H':=⟨s.len,s.nd,λl a o h1 h2=>by
 have q:=s.at_ l a o h1 h2
 refine q.ex (Ex.same e) ?_
 obtain⟨u,hu⟩:=Option.ne_none_iff_exists'.mp q.ne_none
 rw[hu];exact e a u hu⟩
end
theorem aJ {H:Hp}{p:Addr}(h:H p=none)(o:HO):Same H (upd H p o):=λb u q=>by rw[au (aB q h)];exact q
abbrev Rho:=List (Option D)
abbrev Out (α:Type):=Option (Except Str α×Sto)
abbrev WT:=Str->List Addr->Sto->Hp->Prop
noncomputable def ae {α β:Type}(m:Out α) (k : α->Sto->Out β):Out β:=
 match m with
 |none=>none
 |some (.error c,S)=>some (.error c,S)
 |some (.ok a,S)=>k a S
noncomputable def okO {α:Type}(a : α) (S:Sto):Out α:=some (.ok a,S)
@[simp] theorem cu {α β:Type}(a : α)(S:Sto)(k : α->Sto->Out β):ae (okO a S) k=k a S:=rfl
@[simp] theorem h8 {α β:Type}(a : α)(S:Sto)(k : α->Sto->Out β):ae (some (.ok a,S)) k=k a S:=rfl
@[simp] theorem z_ {α β:Type}(c:Str)(S:Sto)(k : α->Sto->Out β):ae (some (.error c,S)) k=some (.error c,S):=rfl
@[simp] theorem zR {α β:Type}(k : α->Sto->Out β):ae none k=none:=rfl
noncomputable def aE {α:Type}(a:Option α) (S:Sto):Out α:=a.map λa=>(.ok a,S)
@[simp] theorem bz {α:Type}(a : α)(S:Sto):aE (some a) S=okO a S:=rfl
@[simp] theorem z8 {α:Type}(S:Sto):aE (none:Option α) S=none:=rfl
structure Cf (X:Cx) (J:List Addr) (ρ:Rho) (S:Sto) (σ:St) (H:Hp):Prop where
 len : ρ.length = σ.length
 env:∀ (i:Nat) (d:D),ρ[i]?=some (some d)->∃ v,σ[i]?=some (some v)/\At X.K H J d v
 sto:StoOk X.K J S H
theorem Cf.re {X:Cx}{J J':List Addr}{ρ:Rho}{S S':Sto}{σ:St}{H H':Hp}(c:Cf X J ρ S σ H)(e:Ex J H J' H')(s:StoOk X.K J' S' H'):Cf X J' ρ S' σ H':=
 ⟨c.len,λi d h=>let ⟨v,h1,h2⟩:=c.env i d h;⟨v,h1,h2.ex e⟩,s⟩
def Cc {α β:Type}(X:Cx)(W:WT)(R:List Addr->Hp->α->β->Prop)(J:List Addr)(H:Hp)(r:Except Str α)(S':Sto)(Q : β->Hp->Prop):Prop:=
 match r with
 | .ok a => ∀ J' H' b,Ex J H J' H'->StoOk X.K J' S' H'->R J' H' a b->Q b H'
 | .error c => ∀ J' H',Ex J H J' H'->StoOk X.K J' S' H'->W c J' S' H'
def tG {α β:Type}(X:Cx)(W:WT)(R:List Addr->Hp->α->β->Prop)(ds:List D)(vs:List V)(g:Rho->Sto->Out α):St->Hp->(β->Hp->Prop)->Prop:=λσ H Q =>
 ∃ J ρ S r S',Cf X J ρ S σ H/\Ats X.K H J ds vs/\g ρ S=some (r,S')/\Cc X W R J H r S' Q
abbrev RD (X:Cx):List Addr->Hp->D->V->Prop:=λJ H d v=>At X.K H J d v
abbrev RDs (X:Cx):List Addr->Hp->List D->List V->Prop:=λJ H d v=>Ats X.K H J d v
abbrev RB:List Addr->Hp->Bool->Bool->Prop:=λ_ _ a b=>a=b
def tE (X:Cx)(W:WT)(g:Rho->Sto->Out D):TE:=tG X W (RD X) [] [] g
def tA (X:Cx)(W:WT)(g:Rho->Sto->Out (List D)):TA:=tG X W (RDs X) [] [] g
def tT (X:Cx)(W:WT)(g:Rho->Sto->Out Bool):TT:=tG X W RB [] [] g
def SE (X:Cx)(W:WT)(e:Expr)(g:Rho->Sto->Out D):Prop:=PE X e (tE X W g)
def SA (X:Cx)(W:WT)(es:List Expr)(g:Rho->Sto->Out (List D)):Prop:=PA X es (tA X W g)
def TS1 (X:Cx)(W:WT)(e:Expr)(g:Rho->Sto->Out Bool):Prop:=PT X e (tT X W g)
def SW (X:Cx)(W:WT)(e:Expr)(g:Rho->Sto->Out Bool):Prop:=PW X e (tT X W g)
theorem PE.imp {X:Cx}{e:Expr}{t t':TE}(h:PE X e t)(i:∀ σ H Q,t' σ H Q->t σ H Q):PE X e t':=λpins s σ H Q I z=>h pins s σ H Q I (i σ H Q z)
theorem PT.imp {X:Cx}{e:Expr}{t t':TT}(h:PT X e t)(i:∀ σ H Q,t' σ H Q->t σ H Q):PT X e t':=λpins s σ H Q I z=>h pins s σ H Q I (i σ H Q z)
theorem PW.imp {X:Cx}{e:Expr}{t t':TT}(h:PW X e t)(i:∀ σ H Q,t' σ H Q->t σ H Q):PW X e t':=λwh pins s σ H Q I z=>h wh pins s σ H Q I (i σ H Q z)
theorem PA.imp {X:Cx}{e:List Expr}{t t':TA}(h:PA X e t)(i:∀ σ H Q,t' σ H Q->t σ H Q):PA X e t':=λpos pins s σ H Q I z=>h pos pins s σ H Q I (i σ H Q z)
section
variable {X:Cx}{W:WT}{α β γ:Type}{R:List Addr->Hp->γ->β->Prop}
theorem tG.bindE {fa:Rho->Sto->Out D}{k:D->Rho->Sto->Out γ}{ds:List D}{vs:List V}{σ:St}{H:Hp}{Q : β->Hp->Prop}
  (h:tG X W R ds vs (λρ S=>ae (fa ρ S) λd S1=>k d ρ S1) σ H Q):tE X W fa σ H λv H1 => ∃ d,tG X W R (d::ds) (v::vs) (k d) σ H1 Q:=by
 obtain⟨J,ρ,S,r,S',c,a,e,z⟩:=h
 cases q:fa ρ S with
 |none=>simp[q] at e
 |some o =>
  obtain⟨ro,S1⟩:=o
  simp only[q] at e
  cases ro with
  |error x =>
   cases e
   exact⟨J,ρ,S,.error x,_,c,.nil,q,z⟩
  |ok d =>
   refine⟨J,ρ,S,.ok d,S1,c,.nil,q,λJ1 H1 v x s1 m=>⟨d,J1,ρ,S1,r,S',c.re x s1,.cons m (a.ex x),e,?_⟩⟩
   cases r with
   |ok g=>exact λJ2 H2 b x2 s2 r2=>z J2 H2 b (x.trans x2) s2 r2
   |error g=>exact λJ2 H2 x2 s2=>z J2 H2 (x.trans x2) s2
theorem tG.bindA {fa:Rho->Sto->Out (List D)}{k:List D->Rho->Sto->Out γ}{ds:List D}{vs:List V}{σ:St}{H:Hp}{Q : β->Hp->Prop}
  (h:tG X W R ds vs (λρ S=>ae (fa ρ S) λd S1=>k d ρ S1) σ H Q):tA X W fa σ H λus H1 => ∃ es,es.length=us.length/\tG X W R (es++ds) (us++vs) (k es) σ H1 Q:=by
 obtain⟨J,ρ,S,r,S',c,a,e,z⟩:=h
 cases q:fa ρ S with
 |none=>simp[q] at e
 |some o =>
  obtain⟨ro,S1⟩:=o
  simp only[q] at e
  cases ro with
  |error x =>
   cases e
   exact⟨J,ρ,S,.error x,_,c,.nil,q,z⟩
  |ok d =>
   refine⟨J,ρ,S,.ok d,S1,c,.nil,q,λJ1 H1 v x s1 m=>⟨d,Ats.length m,J1,ρ,S1,r,S',c.re x s1,Ats.append m (a.ex x),e,?_⟩⟩
   cases r with
   |ok g=>exact λJ2 H2 b x2 s2 r2=>z J2 H2 b (x.trans x2) s2 r2
   |error g=>exact λJ2 H2 x2 s2=>z J2 H2 (x.trans x2) s2
theorem tG.bindT {fa:Rho->Sto->Out Bool}{k:Bool->Rho->Sto->Out γ}{ds:List D}{vs:List V}{σ:St}{H:Hp}{Q : β->Hp->Prop}
  (h:tG X W R ds vs (λρ S=>ae (fa ρ S) λd S1=>k d ρ S1) σ H Q):tT X W fa σ H λb H1=>tG X W R ds vs (k b) σ H1 Q:=by
 obtain⟨J,ρ,S,r,S',c,a,e,z⟩:=h
 cases q:fa ρ S with
 |none=>simp[q] at e
 |some o =>
  obtain⟨ro,S1⟩:=o
  simp only[q] at e
  cases ro with
  |error x =>
   cases e
   exact⟨J,ρ,S,.error x,_,c,.nil,q,z⟩
  |ok d =>
   refine⟨J,ρ,S,.ok d,S1,c,.nil,q,λJ1 H1 v x s1 m=>?_⟩
   cases m
   refine⟨J1,ρ,S1,r,S',c.re x s1,a.ex x,e,?_⟩
   cases r with
   |ok g=>exact λJ2 H2 b x2 s2 r2=>z J2 H2 b (x.trans x2) s2 r2
   |error g=>exact λJ2 H2 x2 s2=>z J2 H2 (x.trans x2) s2
end
section
variable {X:Cx}{pins:List (Addr×Obj)}{σ:St}{H:Hp}{s:Shared}{J:List Addr}
mutual
theorem At.reads (I:Inv X pins σ H s):∀ {d:D}{v:V}{u:Value}{p:PyData},At X.K H J d v->RelV v u->toPy d=some p->p.canLay0=true/\∃ as,Reads s.heap u p as
 | .non,_,_,_,h,r,e=>by
  have h:=At.non_iff.mp h;subst h;simp[toPy] at e;subst e;cases r;exact⟨rfl,[],.none⟩
 | .bl b,_,_,_,h,r,e=>by
  have h:=At.bl_iff.mp h;subst h;simp[toPy] at e;subst e;cases r;exact⟨rfl,[],.bool b⟩
 | .int i,_,_,_,h,r,e=>by
  have h:=At.int_iff.mp h;subst h;simp[toPy] at e;subst e;obtain⟨t,rfl⟩:=r;exact⟨rfl,[],.int i t⟩
 | .str x,_,_,_,h,r,e=>by
  obtain⟨ev,hk⟩:=At.str_iff.mp h;subst ev;simp[toPy] at e;subst e;obtain⟨t,rfl⟩:=r
  exact⟨by rw[PyData.canLay0];exact hk.2,[],.str x t⟩
 | .tup ds,_,_,_,h,r,e=>by
  obtain⟨a,xs,rfl,q,z⟩:=At.tup_iff.mp h
  rw[toPy] at e
  obtain⟨ps,e1,e2⟩:=Option.map_eq_some_iff.mp e
  subst e2
  cases r
  obtain⟨its,rv,⟨o,ho,hc,n,hd⟩,_⟩:=I.tuple q.sq
  obtain⟨c,as,ra⟩:=Ats.readsAll I z rv e1
  exact⟨by rw[PyData.canLay0];exact c,_,.tuple ho hc hd (by simpa using ra)⟩
 | .lst ds,_,_,_,h,r,e=>by
  obtain⟨a,xs,rfl,q,z⟩:=At.lst_iff.mp h
  rw[toPy] at e
  obtain⟨ps,e1,e2⟩:=Option.map_eq_some_iff.mp e
  subst e2
  cases r
  obtain⟨its,rv,⟨o,n,ho,hc,_,hd⟩,_⟩:=I.list q.sq
  obtain⟨c,as,ra⟩:=Ats.readsAll I z rv e1
  exact⟨by rw[PyData.canLay0];exact c,_,.list ho hc hd (by simpa using ra)⟩
 | .set _,_,_,_,_,_,e=>by simp[toPy] at e
 | .loc _,_,_,_,_,_,e=>by simp[toPy] at e
theorem Ats.readsAll (I:Inv X pins σ H s):∀ {ds:List D}{vs:List V}{us:List Value}{ps:List PyData},Ats X.K H J ds vs->Vals vs us->cZ ds=some ps->PyData.canLayAll0 ps=true/\∃ as,ReadsAll s.heap us ps as
 |[],_,_,_,h,r,e=>by
  have h:=Ats.nil_iff.mp h;subst h;simp[cZ] at e;subst e;cases r;exact⟨rfl,[],.nil⟩
 |d::ds,_,_,_,h,r,e=>by
  obtain⟨v,vs,rfl,p,q⟩:=Ats.cons_iff.mp h
  rw[cZ] at e
  obtain⟨pd,e1,e2⟩:=Option.bind_eq_some_iff.mp e
  obtain⟨pr,e3,e4⟩:=Option.map_eq_some_iff.mp e2
  subst e4
  cases r with
  |cons r1 r2 =>
   obtain⟨c1,as,ra⟩:=At.reads I p r1 e1
   obtain⟨c2,bs,rb⟩:=Ats.readsAll I q r2 e3
   exact⟨by rw[PyData.canLayAll0,c1,c2];rfl,_,.cons ra rb⟩
end
end
section
variable {K:PySem.W.Frag}
def rD1 (K:PySem.W.Frag)(g:D->Option D):V->Hp->VK->Prop:=λx H Q => ∃ J dx d,(∀ a∈J,H a≠none)/\At K H J dx x/\g dx=some d/\∀ H' v,Same H H'->At K H' J d v->Q v H'
def rD2 (K:PySem.W.Frag)(g:D->D->Option D):R2:=λx y H Q => ∃ J dx dy d,(∀ a∈J,H a≠none)/\At K H J dx x/\At K H J dy y/\g dx dy=some d/\∀ H' v,Same H H'->At K H' J d v->Q v H'
def rDs (K:PySem.W.Frag)(g:List D->Option D):List V->Hp->VK->Prop:=λxs H Q => ∃ J ds d,(∀ a∈J,H a≠none)/\Ats K H J ds xs/\g ds=some d/\∀ H' v,Same H H'->At K H' J d v->Q v H'
end
theorem sV {H:Hp}{J:List Addr}(h:∀ a∈J,H a≠none){p:Addr}(n:H p=none):p∉J:=λm=>h p m n
theorem At.newTup {K:PySem.W.Frag}{H:Hp}{J:List Addr}{p:Addr}{ds:List D}{xs:List V}(h:Ats K H J ds xs)(n:H p=none)(hJ:∀ a∈J,H a≠none)(hz:xs.length<=sizeLine):At K (upd H p (.tup xs)) J (.tup ds) (.ref p):=
 At.tup_iff.mpr ⟨p,xs,rfl,.inl ⟨.inl upd_same,sV hJ n,hz⟩,h.ex (Ex.same (aJ n _))⟩
theorem At.newLst {K:PySem.W.Frag}{H:Hp}{J:List Addr}{p:Addr}{ds:List D}{xs:List V}(h:Ats K H J ds xs)(n:H p=none)(hJ:∀ a∈J,H a≠none)(hz:xs.length<=sizeLine):At K (upd H p (.lst xs)) J (.lst ds) (.ref p):=
 At.lst_iff.mpr ⟨p,xs,rfl,.inl ⟨.inl upd_same,sV hJ n,hz⟩,h.ex (Ex.same (aJ n _))⟩
section
variable {X:Cx}{W:WT}
theorem tG.mono {α β:Type}{R:List Addr->Hp->α->β->Prop}{ds:List D}{vs:List V}{g:Rho->Sto->Out α}{σ:St}{H:Hp}{Q Q' : β->Hp->Prop}(h:tG X W R ds vs g σ H Q)(i:∀ b H',Q b H'->Q' b H'):tG X W R ds vs g σ H Q':=by
 obtain⟨J,ρ,S,r,S',c,a,e,z⟩:=h
 refine⟨J,ρ,S,r,S',c,a,e,?_⟩
 cases r with
 |ok g=>exact λJ' H' b x s r=>i _ _ (z J' H' b x s r)
 |error g=>exact z
theorem StoOk.all {K:PySem.W.Frag}{J:List Addr}{S:Sto}{H:Hp}(s:StoOk K J S H):∀ a∈J,H a≠none:=λ_ m=>s.tracked m
theorem tG.op1 {g:D->Option D}{dx:D}{x:V}{σ:St}{H:Hp}{Q:VK}(h:tG X W (RD X) [dx] [x] (λ_ S=>aE (g dx) S) σ H Q):rD1 X.K g x H Q:=by
 obtain⟨J,ρ,S,r,S',c,a,e,z⟩:=h
 obtain⟨ax,_⟩:=a.uncons
 cases q:g dx with
 |none=>simp[q] at e
 |some d =>
  simp only[q,bz,okO] at e
  cases e
  exact⟨J,dx,d,c.sto.all,ax,q,λH' v s m=>z J H' v (Ex.same s) (c.sto.same s) m⟩
theorem tG.op2 {g:D->D->Option D}{dx dy:D}{x y:V}{σ:St}{H:Hp}{Q:VK}(h:tG X W (RD X) [dy,dx] [y,x] (λ_ S=>aE (g dx dy) S) σ H Q):rD2 X.K g x y H Q:=by
 obtain⟨J,ρ,S,r,S',c,a,e,z⟩:=h
 obtain⟨ay,a⟩:=a.uncons
 obtain⟨ax,_⟩:=a.uncons
 cases q:g dx dy with
 |none=>simp[q] at e
 |some d =>
  simp only[q,bz,okO] at e
  cases e
  exact⟨J,dx,dy,d,c.sto.all,ax,ay,q,λH' v s m=>z J H' v (Ex.same s) (c.sto.same s) m⟩
theorem tG.opS {g:List D->Option D}{ds:List D}{xs:List V}{σ:St}{H:Hp}{Q:VK}(h:tG X W (RD X) ds xs (λ_ S=>aE (g ds) S) σ H Q):rDs X.K g xs H Q:=by
 obtain⟨J,ρ,S,r,S',c,a,e,z⟩:=h
 cases q:g ds with
 |none=>simp[q] at e
 |some d =>
  simp only[q,bz,okO] at e
  cases e
  exact⟨J,ds,d,c.sto.all,a,q,λH' v s m=>z J H' v (Ex.same s) (c.sto.same s) m⟩
abbrev OpD (X:Cx)(f:Value->Value->Sem Value)(g:D->D->Option D):Prop:=OpR X f (rD2 X.K g)
abbrev UnD (X:Cx)(f:Value->Sem Value)(g:D->Option D):Prop:=UnR X f (rD1 X.K g)
abbrev lL (X:Cx)(f:Value)(g:List D->Option D):Prop:=gR X f (rDs X.K g)
noncomputable def af (i:Nat):Rho->Sto->Out D:=λρ S=>match ρ[i]? with
 |some (some d)=>okO d S
 |_=>none
theorem aa {i:Nat}{x:Str}{pos:Pos}(hN:X.N[i]?=some x:=by rfl)(hv:Vis X.env.scope x:=by first |exact Or.inl rfl |exact Or.inr (Or.inl rfl) |exact Or.inr (Or.inr rfl))(hd:(x==("__debug__":Str))=false:=by decide)
  (hcd:(x==("__classdict__":Str))=false:=by decide):SE X W (.Name x pos) (af i):=(vC hN hv hd hcd).imp λσ H Q h=>by
 obtain⟨J,ρ,S,r,S',c,_,e,z⟩:=h
 unfold af at e
 split at e
 ·rename_i d q
  obtain⟨v,h1,h2⟩:=c.env i d q
  cases e
  exact⟨v,h1,z J H v Ex.refl c.sto h2⟩
 ·cases e
def aD (d:D):Rho->Sto->Out D:=λ_ S=>okO d S
theorem kj {d:D}{v:V}{σ:St}{H:Hp}{Q:VK}(h:tE X W (aD d) σ H Q)(a:∀ J,At X.K H J d v):Q v H:=by
 obtain⟨J,ρ,S,r,S',c,_,e,z⟩:=h
 cases e
 exact z J H v Ex.refl c.sto (a J)
theorem ao {i j pos}:SE X W (.Constant (.int i) j pos) (aD (.int i)):=pe_int.imp λσ H Q h=>kj h λ_=>At.int_iff.mpr rfl
theorem sk {b j pos}:SE X W (.Constant (.bool b) j pos) (aD (.bl b)):=pe_bl.imp λσ H Q h=>kj h λ_=>At.bl_iff.mpr rfl
theorem yK {j pos}:SE X W (.Constant .none j pos) (aD .non):=pe_non.imp λσ H Q h=>kj h λ_=>At.non_iff.mpr rfl
theorem gU {x j pos}(hx:okS x:=by exact⟨by decide,by decide +kernel⟩):SE X W (.Constant (.str x) j pos) (aD (.str x)):=pe_str.imp λσ H Q h=>kj h λ_=>At.str_iff.mpr ⟨rfl,hx⟩
def aG (g:D->D->Option D)(fa fb:Rho->Sto->Out D):Rho->Sto->Out D:=λρ S=>ae (fa ρ S) λx S1=>ae (fb ρ S1) λy S2=>aE (g x y) S2
def cUn (g:D->Option D)(fa:Rho->Sto->Out D):Rho->Sto->Out D:=λρ S=>ae (fa ρ S) λx S1=>aE (g x) S1
variable {a b c:Expr}{fa fb fc:Rho->Sto->Out D}{pos:Pos}
theorem iZ {g:D->D->Option D}{σ:St}{H:Hp}{Q:VK}(h:tE X W (aG g fa fb) σ H Q):tOp (rD2 X.K g) (tE X W fa) (tE X W fb) σ H Q:=
 (tG.bindE h).mono λv H1 ⟨d,h1⟩=>(tG.bindE h1).mono λv2 H2 ⟨d2,h2⟩=>tG.op2 h2
theorem ar {op:Operator}{g:D->D->Option D}(ho:OpD X (binaryOp op) g)(ha:SE X W a fa)(hb:SE X W b fb):SE X W (.BinOp a op b pos) (aG g fa fb):=
 (yj ho ha hb).imp λσ H Q h=>iZ h
theorem Am {op:UnaryOp}{g:D->Option D}(ho:UnD X (unaryOp op) g)(ha:SE X W a fa):SE X W (.UnaryOp op a pos) (cUn g fa):=
 (Aw ho ha).imp λσ H Q h=>(tG.bindE h).mono λv H1 ⟨d,h1⟩=>tG.op1 h1
theorem qM {op:CmpOp}{g:D->D->Option D}(ho:OpD X (compareOp op) g)(ha:SE X W a fa)(hb:SE X W b fb)(hm:behindInMarks op b=false:=by first |exact vI _ (by decide) (by decide) |with_unfolding_all rfl):SE X W (.Compare a [op] [b] pos) (aG g fa fb):=
 (xv ho ha hb hm).imp λσ H Q h=>iZ h
def blO:D->Option Bool
 | .bl b=>some b
 |_=>none
def b9 (f:Rho->Sto->Out D):Rho->Sto->Out Bool:=λρ S=>ae (f ρ S) λx S1=>aE (blO x) S1
theorem io {f:Rho->Sto->Out D}{σ:St}{H:Hp}{Q:Bool->Hp->Prop}(h:tT X W (b9 f) σ H Q):tTest (tE X W f) σ H Q:=
 (tG.bindE h).mono λv H1 ⟨d,h1⟩=>by
  obtain⟨J,ρ,S,r,S',c,m,e,z⟩:=h1
  obtain⟨m,_⟩:=m.uncons
  cases d with
  |bl k =>
   cases e
   exact⟨k,At.bl_iff.mp m,z J H1 k Ex.refl c.sto rfl⟩
  |_=>simp[blO] at e
theorem tTest.mono {t t':TE}(i:∀ σ H Q,t' σ H Q->t σ H Q){σ:St}{H:Hp}{Q:Bool->Hp->Prop}(h:tTest t' σ H Q):tTest t σ H Q:=i _ _ _ h
theorem cD {op:CmpOp}{g:D->D->Option D}(ho:OpD X (compareOp op) g)(ha:SE X W a fa)(hb:SE X W b fb)(hm:behindInMarks op b=false:=by first |exact vI _ (by decide) (by decide) |with_unfolding_all rfl) :
  TS1 X W (.Compare a [op] [b] pos) (b9 (aG g fa fb)):=
 (xh ho ha hb hm).imp λσ H Q h=>tTest.mono (λ_ _ _=>iZ) (io h)
theorem qB (ha:SE X W a fa)(he:∀ whole,isTrue a X.env whole=(do let v ← whole;standAt a.pos;holding [v] (truthy v)):=by intro _;rfl):TS1 X W a (b9 fa):=
 (yV ha he).imp λσ H Q h=>io h
def zN (g g':D->D->Option D)(fa fb fc:Rho->Sto->Out D):Rho->Sto->Out D:=λρ S=>ae (fa ρ S) λx S1=>ae (fb ρ S1) λy S2=>ae (aE ((g x y).bind blO) S2) λk S3 =>
 if k=true then ae (fc ρ S3) λz S4=>aE (g' y z) S4 else okO (.bl false) S3
def A7 (f g:Rho->Sto->Out Bool):Rho->Sto->Out Bool:=λρ S=>ae (f ρ S) λk S1=>if k=true then g ρ S1 else okO false S1
def xV (f g:Rho->Sto->Out Bool):Rho->Sto->Out Bool:=λρ S=>ae (f ρ S) λk S1=>if k=true then okO true S1 else g ρ S1
def AZ (f:Rho->Sto->Out Bool):Rho->Sto->Out Bool:=λρ S=>ae (f ρ S) λk S1=>okO (!k) S1
variable {ga gb:Rho->Sto->Out Bool}{rest:List Expr}
theorem sF {k:Bool}{σ:St}{H:Hp}{Q:Bool->Hp->Prop}(h:tG X W RB [] [] (λ_ S=>okO k S) σ H Q):Q k H:=by
 obtain⟨J,ρ,S,r,S',c,_,e,z⟩:=h
 cases e
 exact z J H k Ex.refl c.sto rfl
theorem u8 (ha:TS1 X W a ga):SW X W (.BoolOp .Or [a] pos) ga:=yS ha
theorem yf (ha:TS1 X W a ga)(hb:SW X W (.BoolOp .Or (b::rest) pos) gb):SW X W (.BoolOp .Or (a::b::rest) pos) (xV ga gb):=
 (Ar ha hb).imp λσ H Q h=>(tG.bindT h).mono λk H1 h1=>by
  cases k with
  |true=>rw[if_pos rfl];exact sF h1
  |false=>rw[if_neg (by decide)];exact h1
theorem rX {e:Expr}(h:SW X W e ga):TS1 X W e ga:=PW.pt h
def B_ (f g:Rho->Sto->Out D):Rho->Sto->Out D:=λρ S=>ae (f ρ S) λx S1=>ae (aE (blO x) S1) λk S2=>if k=true then g ρ S2 else okO (.bl false) S2
def cOr (f g:Rho->Sto->Out D):Rho->Sto->Out D:=λρ S=>ae (f ρ S) λx S1=>ae (aE (blO x) S1) λk S2=>if k=true then okO (.bl true) S2 else g ρ S2
def B8 (f:Rho->Sto->Out D):Rho->Sto->Out D:=λρ S=>ae (f ρ S) λx S1=>ae (aE (blO x) S1) λk S2=>okO (.bl (!k)) S2
def qe (t:Rho->Sto->Out Bool)(f g:Rho->Sto->Out D):Rho->Sto->Out D:=λρ S=>ae (t ρ S) λk S1=>if k=true then f ρ S1 else g ρ S1
theorem je (hc:TS1 X W c ga)(ha:SE X W a fa)(hb:SE X W b fb):SE X W (.IfExp c a b pos) (qe ga fa fb):=
 (vE hc ha hb).imp λσ H Q h=>(tG.bindT h).mono λk H1 h1=>by
  cases k with
  |true=>rw[if_pos rfl];exact h1
  |false=>rw[if_neg (by decide)];exact h1
def aC:Rho->Sto->Out (List D):=λ_ S=>okO [] S
def ah (f:Rho->Sto->Out D)(g:Rho->Sto->Out (List D)):Rho->Sto->Out (List D):=λρ S=>ae (f ρ S) λd S1=>ae (g ρ S1) λds S2=>okO (d::ds) S2
variable {es:List Expr}{gs:Rho->Sto->Out (List D)}
theorem ai:SA X W [] aC:=pa_nil.imp λσ H Q h=>by
 obtain⟨J,ρ,S,r,S',c,_,e,z⟩:=h
 cases e
 exact z J H _ Ex.refl c.sto .nil
theorem ab {e:Expr}(ha:SE X W e fa)(hr:SA X W es gs)(hs:starEach (e::es) X.env=(false,eval e X.env)::starEach es X.env:=by rfl):SA X W (e::es) (ah fa gs):=
 (dJ ha hr hs).imp λσ H Q h=>(tG.bindE h).mono λv H1 ⟨d,h1⟩=>(tG.bindA h1).mono λus H2 ⟨ds,hl,h2⟩=>by
  obtain⟨J,ρ,S,r,S',c,m,e,z⟩:=h2
  cases e
  refine z J H2 _ Ex.refl c.sto ?_
  have split:∀ {ds:List D}{us:List V},ds.length=us.length->Ats X.K H2 J (ds++[d]) (us++[v])->Ats X.K H2 J ds us/\At X.K H2 J d v:=by
   intro ds
   induction ds with
   |nil=>intro us hl m;cases us with
    |nil=>exact⟨.nil,m.uncons.1⟩
    |cons _ _=>simp at hl
   |cons x xs ih=>intro us hl m;cases us with
    |nil=>simp at hl
    |cons y ys =>
     have q:=Ats.uncons (show Ats X.K H2 J (x::(xs++[d])) (y::(ys++[v])) from m)
     have q2:=ih (by simpa using hl) q.2
     exact⟨.cons q.1 q2.1,q2.2⟩
  have q:=split hl m
  exact .cons q.2 q.1
def szO (ds:List D)(d:D):Option D:=if ds.length<=sizeLine then some d else none
def l4 (g:Rho->Sto->Out (List D)):Rho->Sto->Out D:=λρ S=>ae (g ρ S) λds S1=>aE (szO ds (.tup ds)) S1
def wC (g:Rho->Sto->Out (List D)):Rho->Sto->Out D:=λρ S=>ae (g ρ S) λds S1=>aE (szO ds (.lst ds)) S1
theorem eY {k}(h:SA X W es gs):SE X W (.Tuple es k pos) (l4 gs):=(y7 h).imp λσ H Q h=>(tG.bindA h).mono λus H1 ⟨ds,hl,h1⟩=>by
 rw[List.append_nil,List.append_nil] at h1
 obtain⟨J,ρ,S,r,S',c,m,e,z⟩:=h1
 unfold szO at e
 split at e
 ·rename_i le
  cases e
  exact⟨by rw[← hl];exact le,λp hp=>z J _ _ (Ex.same (aJ hp _)) (c.sto.same (aJ hp _)) (At.newTup m hp c.sto.all (by rw[← hl];exact le))⟩
 ·cases e
theorem nN (h:SA X W es gs):SE X W (.List es pos) (wC gs):=(qR h).imp λσ H Q h=>(tG.bindA h).mono λus H1 ⟨ds,hl,h1⟩=>by
 rw[List.append_nil,List.append_nil] at h1
 obtain⟨J,ρ,S,r,S',c,m,e,z⟩:=h1
 unfold szO at e
 split at e
 ·rename_i le
  cases e
  exact⟨by rw[← hl];exact le,λp hp=>z J _ _ (Ex.same (aJ hp _)) (c.sto.same (aJ hp _)) (At.newLst m hp c.sto.all (by rw[← hl];exact le))⟩
 ·cases e
def bO (g:List D->Option D)(t:Rho->Sto->Out (List D)):Rho->Sto->Out D:=λρ S=>ae (t ρ S) λds S1=>aE (g ds) S1
theorem lw {g:List D->Option D}{σ:St}{H:Hp}{Q:VK}(h:tE X W (bO g gs) σ H Q):tCB (rDs X.K g) (tA X W gs) σ H Q:=
 (tG.bindA h).mono λus H1 ⟨ds,hl,h1⟩=>by
  rw[List.append_nil,List.append_nil] at h1
  exact tG.opS h1
theorem bE {g:List D->Option D}{id:String}{x:Str}{p:Pos}{e:Expr}(hc:lL X (.builtin id) g)(hm:X.mg x=none)(hv:bootBuiltins x=some (.builtin id))(ha:SA X W (e::es) gs)(hg:Gl X x:=by rfl)
  (hn:x≠"__name__":=by decide) (hdb:(x==("__debug__":Str))=false:=by decide) (he:starEach (e::es) X.env=(false,eval e X.env)::starEach es X.env:=by rfl) (hpl:(backTo pos (starEach es X.env)).any (·.1)=false:=by rfl) :
  SE X W (.Call (.Name x p) (e::es) [] pos) (bO g gs):=by
 refine PE.imp (iF hc hg hm hv ha hn hdb he hpl) λσ H Q h=>lw h
theorem eB {g:List D->Option D}{T:String}{x:Str}{p:Pos}{e:Expr}(hc:lL X (.type T) g)(hm:X.mg x=none)(hv:bootBuiltins x=some (.type T))(ha:SA X W (e::es) gs)(hg:Gl X x:=by rfl)
  (hn:x≠"__name__":=by decide) (hdb:(x==("__debug__":Str))=false:=by decide) (he:starEach (e::es) X.env=(false,eval e X.env)::starEach es X.env:=by rfl) (hpl:(backTo pos (starEach es X.env)).any (·.1)=false:=by rfl) :
  SE X W (.Call (.Name x p) (e::es) [] pos) (bO g gs):=by
 refine PE.imp (jo hc hg hm hv ha hn hdb he hpl) λσ H Q h=>lw h
end
section
variable {X:Cx}
theorem nF {x y:Str}(hx:PyData.strOk x=true)(hy:PyData.strOk y=true):PyData.strOk (x++y)=true:=by
 unfold PyData.strOk at *
 rw[show (x++y).cps=x.cps++y.cps from rfl,Array.all_append,hx,hy];rfl
def bw:D->D->Option D
 | .int i,.int j=>some (.int (i+j))
 | .str x,.str y=>if x.length+y.length<=sizeLine then some (.str (x++y)) else none
 | .tup xs,.tup ys=>if xs.length+ys.length<=sizeLine then some (.tup (xs++ys)) else none
 | .lst xs,.lst ys=>if xs.length+ys.length<=sizeLine then some (.lst (xs++ys)) else none
 |_,_=>none
theorem wv {prog:Program}{w:World}{A:Around}{E:Value->Shared->Prop}{s:Shared}{t b:Addr}{vs ws:List Value}{Q:Value->Shared->Prop}(ht:IsTup s.heap t vs.toArray)(hb:IsTup s.heap b ws.toArray)(hv:vs=[])
  (h1:Q (.ref b) s):wpAny (model prog w) A (binaryOp .Add (.ref t) (.ref b)) Q E s:=by
 obtain⟨⟨cls,dd,data,sl⟩,ho,hc,n,hd⟩:=id ht
 obtain⟨⟨cls2,dd2,data2,sl2⟩,ho2,hc2,n2,hd2⟩:=id hb
 simp only at hc hd hc2 hd2
 subst hc hd hc2 hd2
 exact concat_meets ⟨_,ho,rfl⟩ ⟨_,ho2,rfl⟩ noFill_tuple_add seq_tuple_add PySem.F.slot_tuple_add PySem.F.entry_tuple_add (PySem.F.args_tuple_add_2 _ _)
   (tuple_addW0 t b vs.toArray ws.toArray n n2 dd dd2 sl sl2 (by simp[hv])) ⟨ho,ho2,h1⟩
theorem rF {prog:Program}{w:World}{A:Around}{E:Value->Shared->Prop}{s:Shared}{t b:Addr}{vs ws:Array Value}{Q:Value->Shared->Prop}(ht:PlainL s.heap t vs)(hb:PlainL s.heap b ws)
  (h:Q (.ref s.heap.objs.size) { s with heap:=s.heap.push { cls:=.type "list",data:=.seq (vs++ws) } }) (hsz:vs.size+ws.size<=sizeLine):wpAny (model prog w) A (binaryOp .Add (.ref t) (.ref b)) Q E s:=by
 obtain⟨⟨cls,dd,data,sl⟩,n,ho,hc,_,hd⟩:=id ht
 obtain⟨⟨cls2,dd2,data2,sl2⟩,n2,ho2,hc2,_,hd2⟩:=id hb
 simp only at hc hd hc2 hd2
 subst hc hd hc2 hd2
 exact concat_meets ⟨_,ho,rfl⟩ ⟨_,ho2,rfl⟩ noFill_list_add seq_list_add PySem.F.slot_list_add PySem.F.entry_list_add (PySem.F.args_list_add_2 _ _)
   (list_addW t b vs ws n n2 dd dd2 sl sl2 hsz) ⟨ho,ho2,h⟩
theorem kH (x y:Str):(x++y).length=x.length+y.length:=by
 show (x.cps++y.cps).size=_
 rw[Array.size_append];rfl
theorem aR:OpD X (binaryOp .Add) bw:=by
 intro pins s σ H x y v u Q I rx ry h
 obtain⟨J,dx,dy,d,hJ,ax,ay,e,q⟩:=h
 unfold bw at e
 split at e
 ·rename_i i j
  cases e
  cases At.int_iff.mp ax;cases At.int_iff.mp ay
  exact zm pins s σ H _ _ v u Q I rx ry ⟨i,j,rfl,rfl,q H _ (Same.refl H) (At.int_iff.mpr rfl)⟩
 ·rename_i a b
  split at e
  ·rename_i le
   cases e
   obtain⟨ex,kx⟩:=At.str_iff.mp ax;obtain⟨ey,ky⟩:=At.str_iff.mp ay
   subst ex ey
   exact qU pins s σ H _ _ v u Q I rx ry ⟨a,b,rfl,rfl,le,q H _ (Same.refl H) (At.str_iff.mpr ⟨rfl,by rw[kH];exact le,nF kx.2 ky.2⟩)⟩
  ·cases e
 ·rename_i xs ys
  split at e
  ·rename_i le
   cases e
   obtain⟨a,us,rfl,t1,m1⟩:=At.tup_iff.mp ax
   obtain⟨b,ws,rfl,t2,m2⟩:=At.tup_iff.mp ay
   by_cases hu:us=[]
   ·subst hu
    cases rx;cases ry
    obtain⟨its,r1,p1,_⟩:=I.tuple t1.sq
    obtain⟨its2,r2,p2,_⟩:=I.tuple t2.sq
    have xs0:xs=[]:=List.length_eq_zero_iff.mp m1.length
    subst xs0
    refine wv p1 p2 (r1.nil_iff.mpr rfl) ⟨.ref b,H,I,rfl,q H _ (Same.refl H) ay⟩
   ·refine xy pins s σ H _ _ v u Q I rx ry ⟨a,b,us,ws,rfl,rfl,t1.sq,t2.sq,hu,by rw[← m1.length,← m2.length];exact le,λhw=>?_,λhw p hp=>?_⟩
    ·subst hw
     have ys0:ys=[]:=List.length_eq_zero_iff.mp m2.length
     subst ys0
     exact q H _ (Same.refl H) (by rw[List.append_nil];exact ax)
    ·exact q _ _ (aJ hp _) (At.newTup (m1.append m2) hp hJ (by rw[List.length_append,← m1.length,← m2.length];exact le))
  ·cases e
 ·rename_i xs ys
  split at e
  ·rename_i le
   cases e
   obtain⟨a,us,rfl,t1,m1⟩:=At.lst_iff.mp ax
   obtain⟨b,ws,rfl,t2,m2⟩:=At.lst_iff.mp ay
   cases rx;cases ry
   obtain⟨its,r1,p1,_⟩:=I.list t1.sq
   obtain⟨its2,r2,p2,_⟩:=I.list t2.sq
   have hz:us.length+ws.length<=sizeLine:=by rw[← m1.length,← m2.length];exact le
   have hp:=I.fresh
   refine rF p1 p2 ?_ (by rw[List.size_toArray,List.size_toArray,← r1.length,← r2.length];exact hz)
   show EP X pins σ Q (.ref s.heap.objs.size) { s with heap:=s.heap.push { cls:=.type "list",data:=.seq (its.toArray++its2.toArray) } }
   refine⟨.ref s.heap.objs.size,_,?_,rfl,q _ _ (aJ hp (.lst (us++ws))) (At.newLst (m1.append m2) hp hJ (by rw[List.length_append];exact hz))⟩
   have z:=I.lnew (its:=its++its2) (t':=s.toks) (r1.append r2) (by rw[List.length_append];exact hz)
   simpa using z
  ·cases e
 ·cases e
def oQ:D->D->Option D
 | .int i,.int j=>some (.int (i-j))
 |_,_=>none
def jQ (i j:Int):Bool:=(decide (-(2 ^ 64)<i)&&decide (i<2 ^ 64)) ||(decide (-(2 ^ 64)<j)&&decide (j<2 ^ 64))
theorem xD {i j:Int}(h:jQ i j=true):CMul i j:=by
 unfold jQ at h
 rw[Bool.or_eq_true,Bool.and_eq_true,Bool.and_eq_true] at h
 rcases h with ⟨a,b⟩ |⟨a,b⟩
 ·exact .inl ⟨of_decide_eq_true a,of_decide_eq_true b⟩
 ·exact .inr ⟨of_decide_eq_true a,of_decide_eq_true b⟩
def du:D->D->Option D
 | .int i,.int j=>if 0<j/\j<1073741824 then some (.int (i / j)) else none
 |_,_=>none
def bS:D->D->Option D
 | .int i,.int j=>if 0<j then some (.int (i % j)) else none
 |_,_=>none
def AC:D->Option D
 | .int i=>some (.int (-i))
 |_=>none
theorem qV:OpD X (binaryOp .Sub) oQ:=by
 intro pins s σ H x y v u Q I rx ry h
 obtain⟨J,dx,dy,d,hJ,ax,ay,e,q⟩:=h
 unfold oQ at e
 split at e
 ·rename_i i j
  cases e
  cases At.int_iff.mp ax;cases At.int_iff.mp ay
  exact zb pins s σ H _ _ v u Q I rx ry ⟨i,j,rfl,rfl,q H _ (Same.refl H) (At.int_iff.mpr rfl)⟩
 ·cases e
theorem gv:OpD X (binaryOp .FloorDiv) du:=by
 intro pins s σ H x y v u Q I rx ry h
 obtain⟨J,dx,dy,d,hJ,ax,ay,e,q⟩:=h
 unfold du at e
 split at e
 ·rename_i i j
  split at e
  ·rename_i c
   cases e
   cases At.int_iff.mp ax;cases At.int_iff.mp ay
   exact xx pins s σ H _ _ v u Q I rx ry ⟨i,j,rfl,rfl,c,q H _ (Same.refl H) (At.int_iff.mpr rfl)⟩
  ·cases e
 ·cases e
theorem cg:OpD X (binaryOp .Mod) bS:=by
 intro pins s σ H x y v u Q I rx ry h
 obtain⟨J,dx,dy,d,hJ,ax,ay,e,q⟩:=h
 unfold bS at e
 split at e
 ·rename_i i j
  split at e
  ·rename_i c
   cases e
   cases At.int_iff.mp ax;cases At.int_iff.mp ay
   exact zk pins s σ H _ _ v u Q I rx ry ⟨i,j,rfl,rfl,c,q H _ (Same.refl H) (At.int_iff.mpr rfl)⟩
  ·cases e
 ·cases e
theorem yy:UnD X (unaryOp .USub) AC:=by
 intro pins s σ H x v Q I rx h
 obtain⟨J,dx,d,hJ,ax,e,q⟩:=h
 unfold AC at e
 split at e
 ·rename_i i
  cases e
  cases At.int_iff.mp ax
  exact yx pins s σ H _ v Q I rx ⟨i,rfl,q H _ (Same.refl H) (At.int_iff.mpr rfl)⟩
 ·cases e
def eqD (x y:D):Option D:=match toPy x,toPy y with
 |some p,some q=>if min p.depth q.depth<=150 then some (.bl (PyData.eqv p q)) else none
 |_,_=>none
def neD (x y:D):Option D:=match toPy x,toPy y with
 |some p,some q=>if min p.depth q.depth<=150 then some (.bl (!PyData.eqv p q)) else none
 |_,_=>none
theorem fD (hu:X.A.units+150<cLine):OpD X (compareOp .Eq) eqD:=by
 intro pins s σ H x y v u Q I rx ry h
 obtain⟨J,dx,dy,d,hJ,ax,ay,e,q⟩:=h
 unfold eqD at e
 split at e
 ·rename_i p p' e1 e2
  split at e
  ·rename_i le
   cases e
   obtain⟨c1,as,r1⟩:=ax.reads I rx e1
   obtain⟨c2,bs,r2⟩:=ay.reads I ry e2
   exact SeqAt.compareEq_reads r1 r2 c1 c2 (by omega) ⟨.bl (PyData.eqv p p'),H,I,rfl,q H _ (Same.refl H) (At.bl_iff.mpr rfl)⟩
  ·cases e
 ·cases e
theorem Az (hu:X.A.units+150<cLine):OpD X (compareOp .NotEq) neD:=by
 intro pins s σ H x y v u Q I rx ry h
 obtain⟨J,dx,dy,d,hJ,ax,ay,e,q⟩:=h
 unfold neD at e
 split at e
 ·rename_i p p' e1 e2
  split at e
  ·rename_i le
   cases e
   obtain⟨c1,as,r1⟩:=ax.reads I rx e1
   obtain⟨c2,bs,r2⟩:=ay.reads I ry e2
   exact SeqAt.compareNe_reads r1 r2 c1 c2 (by omega) ⟨.bl (!PyData.eqv p p'),H,I,rfl,q H _ (Same.refl H) (At.bl_iff.mpr rfl)⟩
  ·cases e
 ·cases e
def ltS (x y:Str):Bool:=decide (x.cps.toList<y.cps.toList)
def ltD:D->D->Option D
 | .int i,.int j=>some (.bl (decide (i<j)))
 | .str x,.str y=>some (.bl (ltS x y))
 |_,_=>none
theorem AA:OpD X (compareOp .Lt) ltD:=by
 intro pins s σ H x y v u Q I rx ry h
 obtain⟨J,dx,dy,d,hJ,ax,ay,e,q⟩:=h
 unfold ltD at e
 split at e
 ·rename_i i j
  cases e
  cases At.int_iff.mp ax;cases At.int_iff.mp ay
  exact Ax pins s σ H _ _ v u Q I rx ry ⟨i,j,rfl,rfl,q H _ (Same.refl H) (At.bl_iff.mpr rfl)⟩
 ·rename_i a b
  cases e
  cases (At.str_iff.mp ax).1;cases (At.str_iff.mp ay).1
  exact ul pins s σ H _ _ v u Q I rx ry ⟨a,b,rfl,rfl,q H _ (Same.refl H) (At.bl_iff.mpr rfl)⟩
 ·cases e
end
section
variable {X:Cx}{W:WT}
def t3:D->Option (List D)
 | .tup xs=>some xs
 | .lst xs=>some xs
 |_=>none
def v9 (x y:D):Option Bool:=match toPy x,(t3 y).bind cZ with
 |some p,some qs=>if p.depth<=150 then some (qs.any λq=>PyData.eqv q p) else none
 |_,_=>none
def inD (x y:D):Option D:=(v9 x y).map .bl
def qW (x y:D):Option D:=(v9 x y).map λb => .bl (!b)
noncomputable def lW (h:Heap) (p:PyData) (u:Value):Bool:=by
 classical exact if H:∃ q as,Reads h u q as/\q.canLay0=true then PyData.eqv H.choose p else false
theorem s9 {h:Heap}{p q:PyData}{u:Value}{as:List Addr}(r:Reads h u q as)(c:q.canLay0=true):lW h p u=PyData.eqv q p:=by
 unfold lW
 have H:∃ q as,Reads h u q as/\q.canLay0=true:=⟨q,as,r,c⟩
 rw[dif_pos H]
 obtain⟨as',r',c'⟩:=H.choose_spec
 rw[SeqAt.Reads.unique _ _ _ _ _ c r r']
theorem tL {h:Heap}{p:PyData}:∀ {us:List Value}{qs:List PyData}{as:List Addr},ReadsAll h us qs as->PyData.canLayAll0 qs=true->us.any (lW h p)=qs.any λq=>PyData.eqv q p
 |_,_,_,.nil,_=>rfl
 |_,_,_,.cons r t,c=>by
  rw[PyData.canLayAll0,Bool.and_eq_true] at c
  rw[List.any_cons,List.any_cons,s9 r c.1,tL t c.2]
theorem mD {h:Heap}:∀ {us:List Value}{qs:List PyData}{as:List Addr},ReadsAll h us qs as->PyData.canLayAll0 qs=true->∀ u∈us,∃ q bs,Reads h u q bs/\q.canLay0=true
 |_,_,_,.nil,_,u,m=>by simp at m
 |_,_,_,.cons r t,c,u,m=>by
  rw[PyData.canLayAll0,Bool.and_eq_true] at c
  rcases List.mem_cons.mp m with e |m
  ·subst e;exact⟨_,_,r,c.1⟩
  ·exact mD t c.2 u m
theorem sS {neg:Bool}{op:CmpOp}(hu:X.A.units+151<cLine)
  (hL:∀ {s:Shared}{l:Addr}{items:Array Value}{x:Value}{Q:Value->Shared->Prop}(e:Value->Bool),s.heap.IsList l items->(∀ y∈items,SeqAt.EqAt X.A.in1 s y x (e y))->Q (.bool (if neg then !items.any e else items.any e)) s->wpAny (model X.prog X.w) X.A (compareOp op x (.ref l)) Q X.xe s)
  (hT:∀ {s:Shared}{l:Addr}{items:Array Value}{x:Value}{Q:Value->Shared->Prop}(e:Value->Bool),IsTup s.heap l items->(∀ y∈items,SeqAt.EqAt X.A.in1 s y x (e y))->Q (.bool (if neg then !items.any e else items.any e)) s->wpAny (model X.prog X.w) X.A (compareOp op x (.ref l)) Q X.xe s) :
  OpD X (compareOp op) (λx y=>(v9 x y).map λb => .bl (if neg then !b else b)):=by
 intro pins s σ H x y v u Q I rx ry h
 obtain⟨J,dx,dy,d,hJ,ax,ay,e,q⟩:=h
 obtain⟨b,e1,e2⟩:=Option.map_eq_some_iff.mp e
 subst e2
 unfold v9 at e1
 split at e1
 ·rename_i p qs ep eq
  split at e1
  ·rename_i le
   cases e1
   obtain⟨ds,es,ed⟩:=Option.bind_eq_some_iff.mp eq
   obtain⟨c1,as,r1⟩:=ax.reads I rx ep
   have fin:∀ {us:List Value}{as:List Addr},ReadsAll s.heap us qs as->PyData.canLayAll0 qs=true->EP X pins σ Q (.bool (if neg then !us.toArray.any (lW s.heap p) else us.toArray.any (lW s.heap p))) s:=λ{us as} ra c=>by
    rw[show us.toArray.any (lW s.heap p)=us.any (lW s.heap p) by simp,tL ra c]
    exact⟨.bl _,H,I,rfl,q H _ (Same.refl H) (At.bl_iff.mpr rfl)⟩
   have ev:∀ {us:List Value}{as:List Addr},ReadsAll s.heap us qs as->PyData.canLayAll0 qs=true->∀ y∈us.toArray,SeqAt.EqAt X.A.in1 s y v (lW s.heap p y):=λ{us as} ra c y hy=>by
    obtain⟨q',bs,r',c'⟩:=mD ra c y (by simpa using hy)
    rw[s9 r' c']
    exact SeqAt.eqAt_reads q' p X.A.in1 s y v bs _ r' r1 c' c1 (by show X.A.units+1+min q'.depth p.depth<cLine;omega)
   cases dy with
   |tup ys =>
    cases es
    obtain⟨a,xs,rfl,t,m⟩:=At.tup_iff.mp ay
    cases ry
    obtain⟨its,rv,pl,_⟩:=I.tuple t.sq
    obtain⟨c2,bs,r2⟩:=Ats.readsAll I m rv ed
    exact hT (lW s.heap p) pl (ev r2 c2) (fin r2 c2)
   |lst ys =>
    cases es
    obtain⟨a,xs,rfl,t,m⟩:=At.lst_iff.mp ay
    cases ry
    obtain⟨its,rv,pl,_⟩:=I.list t.sq
    obtain⟨c2,bs,r2⟩:=Ats.readsAll I m rv ed
    exact hL (lW s.heap p) pl.isList (ev r2 c2) (fin r2 c2)
   |_=>simp[t3] at es
  ·cases e1
 ·cases e1
theorem AB (hu:X.A.units+151<cLine):OpD X (compareOp .In) inD:=
 sS (neg:=false) hu (λe hl he q=>SeqAt.in_listAt e hl he q) (λe hl he q=>SeqAt.in_tupleAt e hl he q)
theorem vG (hu:X.A.units+151<cLine):OpD X (compareOp .NotIn) qW:=
 sS (neg:=true) hu (λe hl he q=>SeqAt.notIn_listAt e hl he q) (λe hl he q=>SeqAt.notIn_tupleAt e hl he q)
theorem gh {x:Str}(h:PyData.strOk x=true){c:Nat}(m:c∈x.cps.toList):c<0x110000:=by
 unfold PyData.strOk at h
 rw[Array.all_eq_true'] at h
 exact of_decide_eq_true (h c (Array.mem_toList_iff.mp m))
theorem ip {l:List Nat}(h:∀ c∈l,c<0x110000):PyData.strOk ⟨l.toArray⟩=true:=by
 unfold PyData.strOk
 rw[Array.all_eq_true']
 intro c m
 exact decide_eq_true (h c (by simpa using m))
def ixD:D->D->Option D
 | .tup xs,.int i=>atI xs i
 | .lst xs,.int i=>atI xs i
 | .str x,.int i=>(atI x.cps.toList i).map λc => .str ⟨#[c]⟩
 |_,_=>none
theorem rM {K:PySem.W.Frag}{H:Hp}{J:List Addr}{ds:List D}{vs:List V}{i:Int}{d:D}(m:Ats K H J ds vs)(h:atI ds i=some d):∃ v,atI vs i=some v/\At K H J d v:=by
 unfold atI at h ⊢
 rw[← m.length]
 obtain⟨j,e1,e2⟩:=Option.bind_eq_some_iff.mp h
 obtain⟨v,e3,a⟩:=m.get e2
 exact⟨v,by rw[e1];exact e3,a⟩
def IxD (X:Cx)(g:D->D->Option D):Prop:=IxR X (rD2 X.K g)
theorem ixd:IxD X ixD:=by
 intro value slice pins s σ H x y v u Q I rx ry h hs
 obtain⟨J,dx,dy,d,hJ,ax,ay,e,q⟩:=h
 unfold ixD at e
 split at e
 ·rename_i xs i
  obtain⟨a,us,rfl,t,m⟩:=At.tup_iff.mp ax
  cases At.int_iff.mp ay
  obtain⟨w,e1,a1⟩:=rM m e
  exact zz value slice pins s σ H _ _ v u Q I rx ry ⟨a,us,i,w,rfl,rfl,t.sq,e1,q H _ (Same.refl H) a1⟩ hs
 ·rename_i xs i
  obtain⟨a,us,rfl,t,m⟩:=At.lst_iff.mp ax
  cases At.int_iff.mp ay
  obtain⟨w,e1,a1⟩:=rM m e
  exact sP value slice pins s σ H _ _ v u Q I rx ry ⟨a,us,i,w,rfl,rfl,t.sq,e1,q H _ (Same.refl H) a1⟩ hs
 ·rename_i z i
  obtain⟨ex,kx⟩:=At.str_iff.mp ax
  subst ex
  cases At.int_iff.mp ay
  obtain⟨c,e1,e2⟩:=Option.map_eq_some_iff.mp e
  subst e2
  refine zA value slice pins s σ H _ _ v u Q I rx ry ⟨z,i,c,rfl,rfl,kx.1,e1,q H _ (Same.refl H) (At.str_iff.mpr ⟨rfl,by show 1<=sizeLine;decide,ip (l:=[c]) λc' m=>?_⟩)⟩ hs
  obtain⟨j,_,e4,_⟩:=km e1
  rw[List.mem_singleton.mp m]
  exact gh kx.2 (List.mem_of_getElem? e4)
 ·cases e
variable {a b c:Expr}{fa fb fc:Rho->Sto->Out D}{pos:Pos}
theorem yg {g:D->D->Option D}(hr:IxD X g)(ha:SE X W a fa)(hb:SE X W b fb)(hs:kn b:=by exact λ_ _=>rfl):SE X W (.Subscript a b pos) (aG g fa fb):=
 (yl hr ha hb hs).imp λσ H Q h=>iZ h
def fq {α:Type}(xs:List α)(lo hi:Option Int):List α:=(xs.drop (HT.sIx xs.length 0 lo)).take (HT.sIx xs.length xs.length hi-HT.sIx xs.length 0 lo)
def n9 (x:Str)(lo hi:Option Int):Str:=⟨(fq x.cps.toList lo hi).toArray⟩
def slD (d:D)(lo hi:Option Int):Option D:=match d with
 | .tup xs=>some (.tup (fq xs lo hi))
 | .lst xs=>some (.lst (fq xs lo hi))
 | .str x=>some (.str (n9 x lo hi))
 |_=>none
theorem Ats.cut {K:PySem.W.Frag}{H:Hp}{J:List Addr}{ds:List D}{vs:List V}(m:Ats K H J ds vs)(lo hi:Option Int):Ats K H J (fq ds lo hi) (pU vs lo hi):=by
 unfold fq pU
 rw[← m.length]
 exact (m.drop _).take _
theorem ls {α:Type}{xs:List α}{lo hi:Option Int}(h:HT.sIx xs.length 0 lo=0/\HT.sIx xs.length xs.length hi=xs.length):fq xs lo hi=xs:=by
 unfold fq
 rw[h.1,h.2];simp
theorem jN (n:Nat)(lo hi:Option Int):Builtin.Str.strSliceIndices lo hi 1 n=sliceRange ((HT.sIx n 0 lo:Nat):Int) ((HT.sIx n n hi:Nat):Int) 1:=by
 unfold Builtin.Str.strSliceIndices
 have h:=iw lo hi n
 unfold sliceBounds at h
 simp only[Option.getD_none] at h
 have h1:=h.1
 have h2:=h.2.1
 show sliceRange _ _ 1=_
 rw[← h1,← h2]
 cases lo<;>cases hi<;>rfl
theorem qF (x:Str)(lo hi:Option Int):(Builtin.Str.strSliceIndices lo hi 1 x.length).filterMap (x.cps[·]?)=fq x.cps.toList lo hi:=by
 have hl:x.cps.toList.length=x.length:=by simp[Str.length]
 rw[jN,sliceRange_one,pick_run]
 unfold fq
 rw[hl]
theorem qI (x:Str)(t:Tok)(lo hi:Option (Int×Tok)){Q:Value->Shared->Prop}{s:Shared}(hsz:x.length<=sizeLine)(h:∀ t' k,Q (.str (n9 x (lo.map (·.1)) (hi.map (·.1))) t') { s with toks:=k }):(sliceMade x t lo hi none).post Q s:=by
 unfold sliceMade
 have ep:slicePicked x lo hi none=Builtin.Str.strSliceIndices (lo.map (·.1)) (hi.map (·.1)) 1 x.length:=rfl
 have eq:((slicePicked x lo hi none).filterMap (x.cps[·]?))=fq x.cps.toList (lo.map (·.1)) (hi.map (·.1)):=by rw[ep];exact qF x _ _
 have hl:x.cps.toList.length=x.length:=by simp[Str.length]
 have len:(n9 x (lo.map (·.1)) (hi.map (·.1))).length<=sizeLine:=by
  unfold n9 fq
  show (List.toArray _).size<=_
  rw[List.size_toArray,List.length_take,List.length_drop,hl]
  omega
 have same:(((none:Option (Int×Tok)).map (·.1)).getD 1==1&&(slicePicked x lo hi none).length==x.length)=true->x=n9 x (lo.map (·.1)) (hi.map (·.1)):=λc=>by
  have c2:(slicePicked x lo hi none).length=x.length:=by
   rw[Bool.and_eq_true] at c
   exact eq_of_beq c.2
  rw[ep,jN,sliceRange_one,List.length_map,List.length_range] at c2
  have b1:=HT.sIx_le x.length x.length (Nat.le_refl _) (hi.map (·.1))
  have b2:=HT.sIx_le x.length 0 (Nat.zero_le _) (lo.map (·.1))
  have w:=ls (xs:=x.cps.toList) (lo:=lo.map (·.1)) (hi:=hi.map (·.1)) (by rw[hl];omega)
  unfold n9
  rw[w]
 refine post_val_or_str ⟨?_,λt' k=>?_⟩
 ·split
  ·rename_i c;exact hsz
  ·rw[eq];exact len
 ·split
  ·rename_i c
   have z:=h t' k
   rw[← same c] at z
   exact z
  ·rw[eq];exact h t' k
theorem part_of {v:Value}{o:Option Int}(p:IsPart v o):∃ q:Option (Int×Tok),v=partValue q/\o=q.map (·.1):=by
 cases p with
 |none=>exact⟨none,rfl,rfl⟩
 |int i t=>exact⟨some (i,t),rfl,rfl⟩
def rDl (K:PySem.W.Frag)(g:D->Option Int->Option Int->Option D):V->Option Int->Option Int->Hp->VK->Prop:=λx lo hi H Q => ∃ J dx d,(∀ a∈J,H a≠none)/\At K H J dx x/\g dx lo hi=some d/\∀ H' v,Same H H'->At K H' J d v->Q v H'
theorem gJ {prog:Program}{w:World}{A:Around}{E:Value->Shared->Prop}{s:Shared}{t sl:Addr}{items:Array Value}{vl vu:Value}{lo hi:Option Int}{Q:Value->Shared->Prop}(ht:IsTup s.heap t items)(hs:s.heap.IsSliceOf sl vl vu .none)(pl:IsPart vl lo)(pu:IsPart vu hi)
  (hw:HT.sIx items.size 0 lo=0/\HT.sIx items.size items.size hi=items.size) (h:Q (.ref t) s):wpAny (model prog w) A (getItem (.ref t) (.ref sl)) Q E s:=by
 obtain⟨os,hos,hcs,hds⟩:=id hs
 have hTs:s.TypeIs (.ref sl) "slice":=⟨os,hos,hcs⟩
 unfold getItem
 try with_reducible refine wpAny_holding ?_
 first |refine wpAny_bind (wpAny_pure ?_) |skip
 refine wpAny_bind (wpAny_sequenceKey ht.typeIs (by decide) ?_)
 refine wpAny_bind (wpAny_callSpecial?_slot (name:=Str.ofString "__getitem__") ht.typeIs PyProof.Rows.slot_tuple_getitem
  (wpAny_call_entry PyProof.Rows.slot_tuple_getitem ht.typeIs entry_tuple_getitem ?_ (args_tuple_getitem _ _)))
 show wpAny _ _ (Builtin.Tuple.tupleItemsOf (.ref t) >>= _) _ _ s
 refine wpAny_bind (tupleItemsOf_ ht ?_)
 refine wpAny_bind (wpAny_typeOf hTs ?_)
 rw[if_pos (by decide)]
 refine wpAny_bind (HT.sliceApplied_gen hs pl pu ?_)
 show wpAny _ _ (if (((HT.sIx items.size 0 lo:Nat):Int)==0&&(1:Int)==1&&(HT.sIx items.size items.size hi-HT.sIx items.size 0 lo)==items.size)=true then _ else _) _ _ s
 rw[if_pos (by rw[hw.1,hw.2];simp)]
 unfold Builtin.Tuple.tupleIsExact
 refine wpAny_bind (wpAny_bind (wpAny_typeOf ht.typeIs (wpAny_pure ?_)))
 rw[if_pos (by decide)]
 exact wpAny_bind (wpAny_rule (wpAny_pure ⟨_,rfl,wpAny_pure h⟩))
def SlD (X:Cx)(g:D->Option Int->Option Int->Option D):Prop:=SlR X (rDl X.K g)
theorem tY {x:Str}(h:PyData.strOk x=true)(lo hi:Option Int):PyData.strOk (n9 x lo hi)=true:=ip λc m=>gh h (by
 unfold fq at m
 exact List.mem_of_mem_drop (List.mem_of_mem_take m))
theorem xG (x:Str)(lo hi:Option Int):(n9 x lo hi).length<=x.length:=by
 unfold n9 fq
 show (List.toArray _).size<=_
 rw[List.size_toArray,List.length_take,List.length_drop]
 have hl:x.cps.toList.length=x.length:=by simp[Str.length]
 omega
theorem sld:SlD X slD:=by
 intro pins s σ H x v vl vu lo hi sl Q I rx hs pl pu h
 obtain⟨J,dx,d,hJ,ax,e,q⟩:=h
 unfold slD at e
 split at e
 ·rename_i xs
  cases e
  obtain⟨a,us,rfl,t,m⟩:=At.tup_iff.mp ax
  have hl:=m.length
  by_cases hw:HT.sIx us.length 0 lo=0/\HT.sIx us.length us.length hi=us.length
  ·cases rx
   obtain⟨its,r,ht,hz⟩:=I.tuple t.sq
   have hlen:its.toArray.size=us.length:=by rw[List.size_toArray];exact r.length.symm
   refine⟨"tuple",_,PyProof.Rows.slot_tuple_getitem.lookup,ht.typeIs,?_⟩
   refine gJ ht hs pl pu (by rw[hlen];exact hw) ⟨.ref a,H,I,rfl,q H _ (Same.refl H) ?_⟩
   rw[ls (by rw[hl];exact hw)]
   exact ax
  ·exact yE pins s σ H _ v vl vu lo hi sl Q I rx hs pl pu ⟨a,us,rfl,t.sq,hw,λp hp=>q _ _ (aJ hp _) (At.newTup (m.cut lo hi) hp hJ (Nat.le_trans (dM us lo hi) t.len))⟩
 ·rename_i xs
  cases e
  obtain⟨a,us,rfl,t,m⟩:=At.lst_iff.mp ax
  exact w5 pins s σ H _ v vl vu lo hi sl Q I rx hs pl pu ⟨a,us,rfl,t.sq,λp hp=>q _ _ (aJ hp _) (At.newLst (m.cut lo hi) hp hJ (Nat.le_trans (dM us lo hi) t.len))⟩
 ·rename_i z
  cases e
  obtain⟨ex,kx⟩:=At.str_iff.mp ax
  subst ex
  obtain⟨tk,rfl⟩:=rx
  obtain⟨pl',e1,e2⟩:=part_of pl
  obtain⟨pu',e3,e4⟩:=part_of pu
  subst e1 e2 e3 e4
  refine⟨"str",_,F.slot_str_getitem.lookup,typeIs_str _ _ _,wpAny_getItem_str_slice (l:=pl') (u:=pu') (st:=none) hs rfl (qI z tk pl' pu' kx.1 λt' k=>?_)⟩
  exact⟨.str _,H,I.tok _,⟨t',rfl⟩,q H _ (Same.refl H) (At.str_iff.mpr ⟨rfl,Nat.le_trans (xG z _ _) kx.1,tY kx.2 _ _⟩)⟩
 ·cases e
def rh:D->Option (Option Int)
 | .int i=>some (some i)
 |_=>none
def iY (f:Option (Rho->Sto->Out D)):Rho->Sto->Out (Option Int):=match f with
 |none=>λ_ S=>okO none S
 |some f=>λρ S=>ae (f ρ S) λd S1=>aE (rh d) S1
def SO (X:Cx)(W:WT)(e:Option Expr)(f:Option (Rho->Sto->Out D)):Prop:=match e,f with
 |none,none=>True
 |some e,some f=>SE X W e f
 |_,_=>False
def cSl (g:D->Option Int->Option Int->Option D)(f:Rho->Sto->Out D)(lo hi:Option (Rho->Sto->Out D)):Rho->Sto->Out D:=λρ S=>ae (f ρ S) λx S1=>ae (iY lo ρ S1) λl S2=>ae (iY hi ρ S2) λu S3=>aE (g x l u) S3
def tPt (X:Cx)(W:WT)(f:Option (Rho->Sto->Out D)):TO:=tG X W (λ_ _ a b=>a=b) [] [] (iY f)
theorem tG.bindP {α β:Type}{R:List Addr->Hp->α->β->Prop}{f:Option (Rho->Sto->Out D)}{k:Option Int->Rho->Sto->Out α}{ds:List D}{vs:List V}{σ:St}{H:Hp}{Q : β->Hp->Prop}
  (h:tG X W R ds vs (λρ S=>ae (iY f ρ S) λd S1=>k d ρ S1) σ H Q):tPt X W f σ H λb H1=>tG X W R ds vs (k b) σ H1 Q:=by
 obtain⟨J,ρ,S,r,S',c,a,e,z⟩:=h
 cases q:iY f ρ S with
 |none=>simp[q] at e
 |some o =>
  obtain⟨ro,S1⟩:=o
  simp only[q] at e
  cases ro with
  |error x =>
   cases e
   exact⟨J,ρ,S,.error x,_,c,.nil,q,z⟩
  |ok d =>
   refine⟨J,ρ,S,.ok d,S1,c,.nil,q,λJ1 H1 v x s1 m=>?_⟩
   cases m
   refine⟨J1,ρ,S1,r,S',c.re x s1,a.ex x,e,?_⟩
   cases r with
   |ok g=>exact λJ2 H2 b x2 s2 r2=>z J2 H2 b (x.trans x2) s2 r2
   |error g=>exact λJ2 H2 x2 s2=>z J2 H2 (x.trans x2) s2
theorem yi {e:Option Expr}{f:Option (Rho->Sto->Out D)}(h:SO X W e f):PO X e (tPt X W f):=by
 cases e with
 |none =>
  cases f with
  |none =>
   intro pins s σ H Q I z
   refine xn pins s σ H Q I ?_
   obtain⟨J,ρ,S,r,S',c,_,e,z⟩:=z
   cases e
   exact z J H _ Ex.refl c.sto rfl
  |some _=>exact h.elim
 |some e =>
  cases f with
  |none=>exact h.elim
  |some f =>
   intro pins s σ H Q I z
   refine xm h pins s σ H Q I ?_
   refine (tG.bindE z).mono λv H1 ⟨d,h1⟩=>?_
   obtain⟨J,ρ,S,r,S',c,m,e,z⟩:=h1
   obtain⟨m,_⟩:=m.uncons
   cases d with
   |int i =>
    cases e
    exact⟨i,At.int_iff.mp m,z J H1 _ Ex.refl c.sto rfl⟩
   |_=>simp[rh] at e
theorem oU {g:D->Option Int->Option Int->Option D}{lo hi:Option Expr}{fl fh:Option (Rho->Sto->Out D)}{p2:Pos}(hr:SlD X g)(ha:SE X W a fa)(hl:SO X W lo fl)(hh:SO X W hi fh):SE X W (.Subscript a (.Slice lo hi none p2) pos) (cSl g fa fl fh):=
 (vD hr ha (yi hl) (yi hh)).imp λσ H Q h=>(tG.bindE h).mono λv H1 ⟨d,h1⟩=>(tG.bindP h1).mono λl H2 h2=>(tG.bindP h2).mono λu H3 h3=>by
  obtain⟨J,ρ,S,r,S',c,m,e,z⟩:=h3
  obtain⟨m,_⟩:=m.uncons
  cases q:g d l u with
  |none=>simp[q] at e
  |some d' =>
   simp only[q,bz,okO] at e
   cases e
   exact⟨J,d,d',c.sto.all,m,q,λH' v' s m'=>z J H' v' (Ex.same s) (c.sto.same s) m'⟩
end
end L2
namespace L2
open PySem PySem.Spec PyProof.Rows PySem.W
section
variable {X:Cx}{W:WT}
theorem jq:fillsNumberSlot (.type "tuple") "mul"=pure false:=
 PySem.fillsNumberSlot_seq (id:="tuple.__mul__") (r:=some (.builtin "tuple.__rmul__")) F.slot_tuple_mul.lookup (by decide +kernel) F.slot_tuple_rmul.lookup (by decide +kernel)
theorem nP:seqRepeat? (.type "tuple")=pure (some (.builtin "tuple.__mul__")):=by
 unfold seqRepeat?
 rw[PySem.seqSlot_of (T:="tuple") (name:="__mul__") (id:="tuple.__mul__") F.slot_tuple_mul.lookup (by decide +kernel),PySem.seqSlot_of (T:="tuple") (name:="__rmul__") (id:="tuple.__rmul__") F.slot_tuple_rmul.lookup (by decide +kernel)]
 rfl
theorem k_ (a:Int)(t:Tok)(l:Addr)(items:Array Value)(n:Nat)(dd:Option Addr)(sl:Array (Option Value)) :
  Meets (Builtin.«int.__rmul__» ⟨[.int a t,.ref l],[]⟩) (λ_ R s=>s.heap.get? l=some { cls:=.type "tuple",dict:=dd,data:=.seq items n,slots:=sl }/\R (.ok (.ret Value.notImplemented)) s):=
 .of_wp λprog w A R s h=>by obtain⟨hp,g,d,tk,os⟩:=s;obtain⟨hl,h⟩:=h;wp_walk;exact⟨_,rfl,h⟩
theorem qz (l:Addr)(items:Array Value)(n:Nat)(dd:Option Addr)(sl:Array (Option Value))(k:Int)(t:Tok)(h1 : 2<=k)(h2:k<2 ^ 30)(he:items.isEmpty=false)(hsz:items.size*k.toNat<=sizeLine) :
  Meets (Builtin.«tuple.__mul__» ⟨[.ref l,.int k t],[]⟩) (λ_ R s=>s.heap.get? l=some { cls:=.type "tuple",dict:=dd,data:=.seq items n,slots:=sl }/\R (.ok (.ret (Value.ref s.heap.objs.size))) { s with heap:=s.heap.push { cls:=Value.type "tuple",data:=Data.seq (List.foldl (λx1 x2=>x1++x2) #[] (List.replicate k.toNat items)) },toks:=s.toks }):=
 .of_wp λprog w A R s h=>by
  obtain⟨hp,g,d,tk,os⟩:=s;obtain⟨hl,h⟩:=h
  have f1:=AutoSeq1.idx_int
  wp_walk using AutoSeq1.wpAny_loadPart' hl
  have p1:(0:Int)<=k:=by omega
  have hk:((k.toNat:Nat):Int)=k:=by omega
  have c1:¬ ((decide (k < -2 ^ 63) ||decide (k≥2 ^ 63))=true):=by
   rw[decide_eq_false (by omega),decide_eq_false (by omega)];decide
  have c2:¬ ((items.isEmpty ||k==1)=true):=by
   rw[he,Bool.false_or,beq_eq_false_iff_ne.mpr (by omega)];decide
  have c3:¬ ((decide (k<=0) ||items.isEmpty)=true):=by
   rw[he,decide_eq_false (by omega)];decide
  have c4:((items.size*k.toNat:Nat):Int)=(items.size:Int)*k:=by rw[Int.natCast_mul,hk]
  have hs24:(sizeLine:Nat)=2 ^ 24:=rfl
  have c5:¬ ((items.size:Int)*k > (2 ^ 63-1) / 8):=by rw[← c4];omega
  have c6:Builtin.Tuple.tupleTooMany ((items.size:Int)*k)=false:=by
   unfold Builtin.Tuple.tupleTooMany
   rw[← c4];exact decide_eq_false (by omega)
  rw[if_neg c1]
  refine wpAny_bind (tupleItemsOf_ (⟨_,hl,rfl,n,rfl⟩:IsTup hp l items) ?_)
  dsimp only
  rw[if_neg c2,if_neg c3,if_neg c5,if_neg (by rw[c6];decide)]
  have hf:sizeOk (.seq (List.foldl (λx1 x2=>x1++x2) #[] (List.replicate k.toNat items))):=by
   have e:List.foldl (λx1 x2=>x1++x2) #[] (List.replicate k.toNat items)=(List.replicate k.toNat items.toList).flatten.toArray:=by
    have:=foldl_rep items.toList k.toNat []
    simpa using this
   show (List.foldl (λx1 x2=>x1++x2) #[] (List.replicate k.toNat items)).size<=sizeLine
   rw[e,List.size_toArray,len_rep,Array.length_toList,Nat.mul_comm]
   exact hsz
  first
   |exact wpAny_bind (m:=Builtin.Tuple.tupleExact _) (wpAny_newObj_type (wpAny_pure ⟨_,rfl,h⟩) hf)
   |exact wpAny_bind (m:=Builtin.Tuple.tupleExact _) (wpAny_newObj_type (wpAny_bind (wpAny_pure (wpAny_pure ⟨_,rfl,h⟩))) hf)
def b8:D->D->Option D
 | .int i,.int j=>if jQ i j then some (.int (i*j)) else none
 | .str x,.int n=>if -1000<=n/\n<1 then some (.str ⟨#[]⟩) else if 1<=n/\n<=1000/\x.length<=1000 then some (.str ⟨(List.replicate n.toNat x.cps.toList).flatten.toArray⟩) else none
 | .tup xs,.int n=>if 2<=n/\n<=1000/\0<xs.length/\xs.length<=1000 then some (.tup (List.replicate n.toNat xs).flatten) else none
 |_,_=>none
theorem vP (x:Str)(n:Int)(h : 1<=n):Txt.mul x n=⟨(List.replicate n.toNat x.cps.toList).flatten.toArray⟩:=by
 have f:∀ m:Nat,(List.replicate m x.cps).foldl (·++·) #[]=(List.replicate m x.cps.toList).flatten.toArray:=λm=>by
  have:∀ (m:Nat) (acc:List Nat),(List.replicate m x.cps).foldl (·++·) acc.toArray=(acc++(List.replicate m x.cps.toList).flatten).toArray:=by
   intro m
   induction m with
   |zero=>intro acc;simp
   |succ m ih =>
    intro acc
    rw[List.replicate_succ,List.foldl_cons,List.replicate_succ,List.flatten_cons,← List.append_assoc]
    have e:acc.toArray++x.cps=(acc++x.cps.toList).toArray:=by simp
    rw[e];exact ih _
  have:=this m []
  simpa using this
 unfold Txt.mul
 rw[if_neg (by omega)]
 split
 ·rename_i c
  rw[Bool.or_eq_true] at c
  rcases c with c |c
  ·have:n=1:=eq_of_beq c
   subst this
   show x=⟨([x.cps.toList].flatten).toArray⟩
   simp
  ·have hx:x.cps.size=0:=eq_of_beq c
   have:x.cps.toList=[]:=by simpa using Array.size_eq_zero_iff.mp hx
   have hz:∀ m:Nat,(List.replicate m ([]:List Nat)).flatten=[]:=λm=>by induction m with
    |zero=>rfl
    |succ m ih=>rw[List.replicate_succ,List.flatten_cons,ih];rfl
   rw[this,hz]
   cases x with
   |mk cps =>
    simp only at this
    have:cps = #[]:=by simpa using this
    rw[this]
 ·rw[f]
theorem cU:OpD X (binaryOp .Mult) b8:=by
 intro pins s σ H x y v u Q I rx ry h
 obtain⟨J,dx,dy,d,hJ,ax,ay,e,q⟩:=h
 unfold b8 at e
 split at e
 ·rename_i i j
  split at e
  ·rename_i c
   cases e
   cases At.int_iff.mp ax;cases At.int_iff.mp ay
   exact zj pins s σ H _ _ v u Q I rx ry ⟨i,j,rfl,rfl,xD c,q H _ (Same.refl H) (At.int_iff.mpr rfl)⟩
  ·cases e
 ·rename_i z n
  obtain⟨ex,kx⟩:=At.str_iff.mp ax
  subst ex
  cases At.int_iff.mp ay
  obtain⟨t,rfl⟩:=rx
  obtain⟨t',rfl⟩:=ry
  split at e
  ·rename_i c
   cases e
   refine SB.mul ⟨by rw[decide_eq_false (by omega),decide_eq_false (by omega)];rfl,λh=>absurd c.2 h,λh=>absurd c.2 h⟩ λt' k=>?_
   rw[show Txt.mul z n=⟨#[]⟩ from if_pos c.2]
   exact⟨.str _,H,I.tok _,⟨t',rfl⟩,q H _ (Same.refl H) (At.str_iff.mpr ⟨rfl,by show 0<=sizeLine;decide,by decide +kernel⟩)⟩
  ·rename_i c
   split at e
   ·rename_i c2
    cases e
    have hs24:(sizeLine:Nat)=2 ^ 24:=rfl
    have hlen:z.length*n.toNat<=1000000:=by
     have:n.toNat<=1000:=by omega
     exact Nat.le_trans (Nat.mul_le_mul c2.2.2 this) (by decide)
    have ok:MulOk z n:=by
     refine⟨by rw[decide_eq_false (by omega),decide_eq_false (by omega)];rfl,λ_ _ hh=>?_,λ_ _=>?_⟩
     ·have h1:(2 ^ 63-1) / n≥(2 ^ 63-1) / 1000:=by
       apply Int.le_ediv_of_mul_le (by omega)
       have:((2 ^ 63-1) / 1000:Int)=9223372036854775:=by decide
       rw[this]
       omega
      have h2:((2 ^ 63-1) / 1000:Int)=9223372036854775:=by decide
      omega
     ·unfold Builtin.Str.tooLong
      exact decide_eq_false (by omega)
    refine SB.mul ok λt' k=>?_
    rw[vP z n (by omega)]
    have hl:z.cps.toList.length=z.length:=by simp[Str.length]
    refine⟨.str _,H,I.tok _,⟨t',rfl⟩,q H _ (Same.refl H) (At.str_iff.mpr ⟨rfl,?_,ip λc m=>?_⟩)⟩
    ·show (List.toArray _).size<=_
     rw[List.size_toArray,len_rep,hl,Nat.mul_comm]
     omega
    ·obtain⟨l,hl1,hl2⟩:=List.mem_flatten.mp m
     rw[(List.mem_replicate.mp hl1).2] at hl2
     exact gh kx.2 hl2
   ·cases e
 ·rename_i xs n
  split at e
  ·rename_i c
   cases e
   obtain⟨a,us,rfl,tq,m⟩:=At.tup_iff.mp ax
   cases At.int_iff.mp ay
   cases rx
   obtain⟨t',rfl⟩:=ry
   obtain⟨its,r,⟨⟨cls,dd,data,sl⟩,ho,hc,nn,hd⟩,hz⟩:=I.tuple tq.sq
   simp only at hc hd
   subst hc hd
   have l1:=m.length
   have l2:=r.length
   have hs24:(sizeLine:Nat)=2 ^ 24:=rfl
   have hlen:its.toArray.size*n.toNat<=sizeLine:=by
    rw[List.size_toArray]
    have h1:its.length<=1000:=by omega
    have h2:n.toNat<=1000:=by omega
    exact Nat.le_trans (Nat.mul_le_mul h1 h2) (by rw[hs24];decide)
   have h0 : 0<its.length:=by omega
   have hne:its.toArray.isEmpty=false:=by
    cases its with
    |nil=>simp at h0
    |cons _ _=>rfl
   refine wpAny_binaryOp_repeat_ref (T:="tuple") (U:="int") (by decide) ⟨_,ho,rfl⟩ (λs'=>typeIs_int s' n t') jq F.fills_int_mul F.slot_int_rmul nP F.slot_int_index.lookup
    (call_meets F.slot_int_rmul (typeIs_int s n t') F.entry_int_rmul (F.args_int_rmul_2 _ _) (k_ n t' a its.toArray nn dd sl)
     ⟨ho,rfl,⟨_,ho,rfl⟩,call_meets F.slot_tuple_mul ⟨_,ho,rfl⟩ F.entry_tuple_mul (F.args_tuple_mul_2 _ _) (qz a its.toArray nn dd sl n t' c.1 (by omega) hne hlen) ⟨ho,?_⟩⟩)
   have hnew:List.foldl (λx1 x2=>x1++x2) #[] (List.replicate n.toNat its.toArray)=(List.replicate n.toNat its).flatten.toArray:=by
    have:=foldl_rep its n.toNat []
    rw[List.nil_append] at this
    exact this
   rw[hnew]
   have hrep:(List.replicate n.toNat us).flatten.length<=sizeLine:=by
    rw[len_rep,Nat.mul_comm,l2]
    rw[List.size_toArray] at hlen;exact hlen
   exact⟨.ref s.heap.objs.size,_,I.laid (t':=s.toks) (o:=.tup (List.replicate n.toNat us).flatten) (λb ob q=>Heap.get?_push_of_some _ q) (Nat.le_refl _) ⟨hrep,_,r.rep n.toNat,TupN.new _ _⟩,rfl,q _ _ (aJ I.fresh _) (At.newTup (m.rep n.toNat) I.fresh hJ hrep)⟩
  ·cases e
 ·cases e
end
section
variable {X:Cx}{W:WT}
variable {a b c e:Expr}{fa fb fc:Rho->Sto->Out D}{pos:Pos}{es:List Expr}{gs:Rho->Sto->Out (List D)}
def cm:List D->Option D
 |[.tup xs]=>some (.int xs.length)
 |[.lst xs]=>some (.int xs.length)
 |[.str x]=>some (.int x.length)
 |_=>none
theorem ft:lL X (.builtin "len") cm:=by
 intro pins s σ H xs us Q I r h
 obtain⟨J,ds,d,hJ,m,e,q⟩:=h
 unfold cm at e
 split at e
 ·rename_i ys
  cases e
  obtain⟨v,w,rfl,a,n⟩:=Ats.cons_iff.mp m
  cases Ats.nil_iff.mp n
  obtain⟨p,zs,rfl,t,mz⟩:=At.tup_iff.mp a
  exact fu pins s σ H _ us Q I r ⟨p,zs,rfl,.inr t.sq,by rw[← mz.length];exact q H _ (Same.refl H) (At.int_iff.mpr rfl)⟩
 ·rename_i ys
  cases e
  obtain⟨v,w,rfl,a,n⟩:=Ats.cons_iff.mp m
  cases Ats.nil_iff.mp n
  obtain⟨p,zs,rfl,t,mz⟩:=At.lst_iff.mp a
  exact fu pins s σ H _ us Q I r ⟨p,zs,rfl,.inl t.sq,by rw[← mz.length];exact q H _ (Same.refl H) (At.int_iff.mpr rfl)⟩
 ·rename_i y
  cases e
  obtain⟨v,w,rfl,a,n⟩:=Ats.cons_iff.mp m
  cases Ats.nil_iff.mp n
  obtain⟨ex,kx⟩:=At.str_iff.mp a
  subst ex
  exact og pins s σ H _ us Q I r ⟨y,rfl,kx.1,q H _ (Same.refl H) (At.int_iff.mpr rfl)⟩
 ·cases e
def intD:List D->Option D
 |[.int i]=>some (.int i)
 |[.bl k]=>some (.int (if k then 1 else 0))
 |_=>none
theorem zK:lL X (.type "int") intD:=by
 intro pins s σ H xs us Q I r h
 obtain⟨J,ds,d,hJ,m,e,q⟩:=h
 unfold intD at e
 split at e
 ·rename_i i
  cases e
  obtain⟨v,w,rfl,a,n⟩:=Ats.cons_iff.mp m
  cases Ats.nil_iff.mp n
  cases At.int_iff.mp a
  exact m5 pins s σ H _ us Q I r (.inl ⟨i,rfl,q H _ (Same.refl H) (At.int_iff.mpr rfl)⟩)
 ·rename_i k
  cases e
  obtain⟨v,w,rfl,a,n⟩:=Ats.cons_iff.mp m
  cases Ats.nil_iff.mp n
  cases At.bl_iff.mp a
  exact m5 pins s σ H _ us Q I r (.inr ⟨k,rfl,q H _ (Same.refl H) (At.int_iff.mpr rfl)⟩)
 ·cases e
def lT:List D->Option D
 |[.tup xs]=>some (.tup xs)
 |[.lst xs]=>some (.tup xs)
 |_=>none
theorem of:lL X (.type "tuple") lT:=by
 intro pins s σ H xs us Q I r h
 obtain⟨J,ds,d,hJ,m,e,q⟩:=h
 unfold lT at e
 split at e
 ·rename_i ys
  cases e
  obtain⟨v,w,rfl,a,n⟩:=Ats.cons_iff.mp m
  cases Ats.nil_iff.mp n
  obtain⟨p,zs,rfl,t,mz⟩:=At.tup_iff.mp a
  exact d5 pins s σ H _ us Q I r ⟨p,zs,rfl,.inr ⟨t.sq,q H _ (Same.refl H) a⟩⟩
 ·rename_i ys
  cases e
  obtain⟨v,w,rfl,a,n⟩:=Ats.cons_iff.mp m
  cases Ats.nil_iff.mp n
  obtain⟨p,zs,rfl,t,mz⟩:=At.lst_iff.mp a
  exact d5 pins s σ H _ us Q I r ⟨p,zs,rfl,.inl ⟨t.sq,λl hl=>q _ _ (aJ hl _) (At.newTup mz hl hJ t.len)⟩⟩
 ·cases e
end
inductive Fl where
 |next (ρ:Rho) |ret (d:D) |brk (ρ:Rho) |cont (ρ:Rho)
def EndS (X:Cx)(W:WT)(J:List Addr)(H:Hp)(r:Except Str Fl)(S':Sto)(E:Ends):Prop:=
 match r with
 | .ok (.next ρ') => ∀ J' σ' H',Ex J H J' H'->Cf X J' ρ' S' σ' H'->E.nx σ' H'
 | .ok (.brk ρ') => ∀ J' σ' H',Ex J H J' H'->Cf X J' ρ' S' σ' H'->E.bk σ' H'
 | .ok (.cont ρ') => ∀ J' σ' H',Ex J H J' H'->Cf X J' ρ' S' σ' H'->E.ct σ' H'
 | .ok (.ret d) => ∀ J' H' v,Ex J H J' H'->StoOk X.K J' S' H'->At X.K H' J' d v->E.rt v H'
 | .error c => ∀ J' H',Ex J H J' H'->StoOk X.K J' S' H'->W c J' S' H'
theorem EndS.ex {X:Cx}{W:WT}{J J1:List Addr}{H H1:Hp}{r:Except Str Fl}{S':Sto}{E:Ends}(h:EndS X W J H r S' E)(x:Ex J H J1 H1):EndS X W J1 H1 r S' E:=by
 cases r with
 |error c=>exact λJ' H' x' s=>h J' H' (x.trans x') s
 |ok f =>
  cases f with
  |next ρ=>exact λJ' σ' H' x' c=>h J' σ' H' (x.trans x') c
  |brk ρ=>exact λJ' σ' H' x' c=>h J' σ' H' (x.trans x') c
  |cont ρ=>exact λJ' σ' H' x' c=>h J' σ' H' (x.trans x') c
  |ret d=>exact λJ' H' v x' s a=>h J' H' v (x.trans x') s a
def tS (X:Cx)(W:WT)(f:Rho->Sto->Out Fl):TS:=λE σ H => ∃ J ρ S r S',Cf X J ρ S σ H/\f ρ S=some (r,S')/\EndS X W J H r S' E
def SS (X:Cx)(W:WT)(st:Stmt)(f:Rho->Sto->Out Fl):Prop:=PS X st (tS X W f)
def SSs (X:Cx)(W:WT)(st:List Stmt)(f:Rho->Sto->Out Fl):Prop:=PSs X st (tS X W f)
theorem PS.imp {X:Cx}{st:Stmt}{t t':TS}(h:PS X st t)(i:∀ E σ H,t' E σ H->t E σ H):PS X st t':=λpins s σ H D I z=>h pins s σ H D I (i _ _ _ z)
theorem PSs.imp {X:Cx}{st:List Stmt}{t t':TS}(h:PSs X st t)(i:∀ E σ H,t' E σ H->t E σ H):PSs X st t':=λpins s σ H D I z=>h pins s σ H D I (i _ _ _ z)
section
variable {X:Cx}{W:WT}{st:Stmt}{rest:List Stmt}{f g:Rho->Sto->Out Fl}{e c:Expr}{fe:Rho->Sto->Out D}{gt:Rho->Sto->Out Bool}{pos:Pos}
def fW:Rho->Sto->Out Fl:=λρ S=>okO (.next ρ) S
def aN (f g:Rho->Sto->Out Fl):Rho->Sto->Out Fl:=λρ S=>ae (f ρ S) λfl S1=>match fl with
 | .next ρ'=>g ρ' S1
 |o=>okO o S1
def bJ (f:Rho->Sto->Out D):Rho->Sto->Out Fl:=λρ S=>ae (f ρ S) λd S1=>okO (.ret d) S1
def cIf (t:Rho->Sto->Out Bool)(f g:Rho->Sto->Out Fl):Rho->Sto->Out Fl:=λρ S=>ae (t ρ S) λk S1=>if k=true then f ρ S1 else g ρ S1
def bI (i:Nat)(f:Rho->Sto->Out D):Rho->Sto->Out Fl:=λρ S=>ae (f ρ S) λd S1=>okO (.next (ρ.set i (some d))) S1
def m_ (f:Rho->Sto->Out D):Rho->Sto->Out Fl:=λρ S=>ae (f ρ S) λ_ S1=>okO (.next ρ) S1
theorem c_:SSs X W [] fW:=pss_nil.imp λE σ H h=>by
 obtain⟨J,ρ,S,r,S',c,e,z⟩:=h
 cases e
 exact z J σ H Ex.refl c
theorem vg {E:Ends}{σ:St}{H:Hp}(h:tS X W (aN f g) E σ H):Ad (tS X W f) (tS X W g) E σ H:=by
 obtain⟨J,ρ,S,r,S',c,e,z⟩:=h
 unfold aN at e
 cases q:f ρ S with
 |none=>simp[q] at e
 |some o =>
  obtain⟨ro,S1⟩:=o
  simp only[q] at e
  cases ro with
  |error x =>
   cases e
   exact⟨J,ρ,S,.error x,_,c,q,z⟩
  |ok fl =>
   cases fl with
   |next ρ'=>exact⟨J,ρ,S,.ok (.next ρ'),S1,c,q,λJ' σ' H' x c'=>⟨J',ρ',S1,r,S',c',e,z.ex x⟩⟩
   |ret d=>cases e;exact⟨J,ρ,S,.ok (.ret d),_,c,q,z⟩
   |brk ρ'=>cases e;exact⟨J,ρ,S,.ok (.brk ρ'),_,c,q,z⟩
   |cont ρ'=>cases e;exact⟨J,ρ,S,.ok (.cont ρ'),_,c,q,z⟩
theorem aj (h1:SS X W st f)(h2:SSs X W rest g):SSs X W (st::rest) (aN f g):=(vx h1 h2).imp λE σ H h=>vg h
theorem aq (h1:SS X W st f):SSs X W [st] f:=xi h1
theorem tS.bindE {k:D->Rho->Sto->Out Fl}{E:Ends}{σ:St}{H:Hp}(h:tS X W (λρ S=>ae (fe ρ S) λd S1=>k d ρ S1) E σ H) :
  tE X W fe σ H λv H1 => ∃ J ρ S d r S',Cf X J ρ S σ H1/\At X.K H1 J d v/\k d ρ S=some (r,S')/\EndS X W J H1 r S' E:=by
 obtain⟨J,ρ,S,r,S',c,e,z⟩:=h
 cases q:fe ρ S with
 |none=>simp[q] at e
 |some o =>
  obtain⟨ro,S1⟩:=o
  simp only[q] at e
  cases ro with
  |error x =>
   cases e
   exact⟨J,ρ,S,.error x,_,c,.nil,q,z⟩
  |ok d=>exact⟨J,ρ,S,.ok d,S1,c,.nil,q,λJ1 H1 v x s1 m=>⟨J1,ρ,S1,d,r,S',c.re x s1,m,e,z.ex x⟩⟩
theorem tS.bindT {k:Bool->Rho->Sto->Out Fl}{E:Ends}{σ:St}{H:Hp}(h:tS X W (λρ S=>ae (gt ρ S) λd S1=>k d ρ S1) E σ H) :
  tT X W gt σ H λb H1=>tS X W (k b) E σ H1:=by
 obtain⟨J,ρ,S,r,S',c,e,z⟩:=h
 cases q:gt ρ S with
 |none=>simp[q] at e
 |some o =>
  obtain⟨ro,S1⟩:=o
  simp only[q] at e
  cases ro with
  |error x =>
   cases e
   exact⟨J,ρ,S,.error x,_,c,.nil,q,z⟩
  |ok d =>
   refine⟨J,ρ,S,.ok d,S1,c,.nil,q,λJ1 H1 v x s1 m=>?_⟩
   cases m
   exact⟨J1,ρ,S1,r,S',c.re x s1,e,z.ex x⟩
theorem aK (he:SE X W e fe):SS X W (.Return (some e) pos) (bJ fe):=(yX he).imp λE σ H h=>(tS.bindE h).mono λv H1 ⟨J,ρ,S,d,r,S',c,m,q,z⟩=>by
 cases q
 exact z J H1 v Ex.refl c.sto m
theorem iq {a b:List Stmt}(hc:TS1 X W c gt)(ha:SSs X W a f)(hb:SSs X W b g):SS X W (.If c a b pos) (cIf gt f g):=(As hc ha hb).imp λE σ H h=>(tS.bindT h).mono λk H1 h1=>by
 cases k with
 |true=>rw[if_pos rfl];exact h1
 |false=>rw[if_neg (by decide)];exact h1
theorem j4 (he:SE X W e fe)(hs:swapsWith e none pos.line X.env=pure false:=by rfl):SS X W (.Expr e pos) (m_ fe):=(xk he hs).imp λE σ H h=>(tS.bindE h).mono λv H1 ⟨J,ρ,S,d,r,S',c,m,q,z⟩=>by
 cases q
 exact z J σ H1 Ex.refl c
theorem Cf.set {J:List Addr}{ρ:Rho}{S:Sto}{σ:St}{H:Hp}{i:Nat}{d:D}{v:V}(c:Cf X J ρ S σ H)(m:At X.K H J d v):Cf X J (ρ.set i (some d)) S (σ.set i (some v)) H:=by
 refine⟨by rw[List.length_set,List.length_set];exact c.len,λj d' h=>?_,c.sto⟩
 by_cases hj:j=i
 ·subst hj
  have hl:j < ρ.length:=by
   have:=(List.getElem?_eq_some_iff.mp h).1
   rwa [List.length_set] at this
  rw[List.getElem?_set_self hl] at h
  cases h
  exact⟨v,List.getElem?_set_self (by rw[← c.len];exact hl),m⟩
 ·rw[List.getElem?_set_ne (Ne.symm hj)] at h
  obtain⟨v',h1,h2⟩:=c.env j d' h
  exact⟨v',by rw[List.getElem?_set_ne (Ne.symm hj)];exact h1,h2⟩
theorem aL {i:Nat}{x:Str}{pos':Pos}(hN:X.N.Nodup)(he:SE X W e fe)(hi:X.N[i]?=some x:=by rfl)(hx:Loc X.env.scope x:=by first |exact Or.inl rfl |exact Or.inr rfl)(hs:swapsWith e (some (.Name x pos')) pos.line X.env=pure false:=by rfl)
  (hf:X.fn x=true∨X.env.scope.names.lookup x=some .local:=by first |exact .inl rfl |exact .inr rfl |assumption) :
  SS X W (.Assign [.Name x pos'] e pos) (bI i fe):=(yW hN hi hx he hs hf).imp λE σ H h=>(tS.bindE h).mono λv H1 ⟨J,ρ,S,d,r,S',c,m,q,z⟩=>by
 cases q
 exact z J _ H1 Ex.refl (c.set m)
def tgD (X:Cx)(u:D->Rho->Option Rho):TG:=λv σ H Q => ∃ J ρ S d ρ',Cf X J ρ S σ H/\At X.K H J d v/\u d ρ=some ρ'/\∀ σ',Cf X J ρ' S σ' H->Q σ' H
def Bm (X:Cx)(u:List D->Rho->Option Rho):TGs:=λvs σ H Q => ∃ J ρ S ds ρ',Cf X J ρ S σ H/\Ats X.K H J ds vs/\u ds ρ=some ρ'/\∀ σ',Cf X J ρ' S σ' H->Q σ' H
def SG (X:Cx)(tg:Expr)(u:D->Rho->Option Rho):Prop:=PG X tg (tgD X u)
def SGs (X:Cx)(tg:List Expr)(u:List D->Rho->Option Rho):Prop:=PGs X tg (Bm X u)
theorem PG.imp {tg:Expr}{t t':TG}(h:PG X tg t)(i:∀ v σ H Q,t' v σ H Q->t v σ H Q):PG X tg t':=λpins s σ H v u Q I r z=>h pins s σ H v u Q I r (i _ _ _ _ z)
theorem PGs.imp {tg:List Expr}{t t':TGs}(h:PGs X tg t)(i:∀ v σ H Q,t' v σ H Q->t v σ H Q):PGs X tg t':=λpins s σ H v u Q I r z=>h pins s σ H v u Q I r (i _ _ _ _ z)
noncomputable def aH (i:Nat):D->Rho->Option Rho:=λd ρ=>some (ρ.set i (some d))
def gN:List D->Rho->Option Rho:=λds ρ=>match ds with
 |[]=>some ρ
 |_=>none
def aU (u:D->Rho->Option Rho)(us:List D->Rho->Option Rho):List D->Rho->Option Rho:=λds ρ=>match ds with
 |d::r=>(u d ρ).bind λρ'=>us r ρ'
 |[]=>none
def kC (n:Nat)(us:List D->Rho->Option Rho):D->Rho->Option Rho:=λd ρ=>match d with
 | .tup ds=>if ds.length=n then us ds ρ else none
 |_=>none
theorem aO {i:Nat}{x:Str}(hN:X.N.Nodup)(hi:X.N[i]?=some x:=by rfl)(hx:Loc X.env.scope x:=by first |exact Or.inl rfl |exact Or.inr rfl)(hf:X.fn x=true∨X.env.scope.names.lookup x=some .local:=by first |exact .inl rfl |exact .inr rfl |assumption) :
  SG X (.Name x pos) (aH i):=(xp hN hi hx hf).imp λv σ H Q h=>by
 obtain⟨J,ρ,S,d,ρ',c,m,e,z⟩:=h
 cases e
 exact z _ (c.set m)
theorem j6:SGs X [] gN:=pgs_nil.imp λv σ H Q h=>by
 obtain⟨J,ρ,S,ds,ρ',c,m,e,z⟩:=h
 cases ds with
 |nil=>cases e;exact⟨Ats.nil_iff.mp m,z _ c⟩
 |cons _ _=>cases e
theorem bR {e:Expr}{es:List Expr}{u:D->Rho->Option Rho}{us:List D->Rho->Option Rho}(h1:SG X e u)(h2:SGs X es us)
  (hs:(assignEach (e::es) X.env).map (·.2)=assign e X.env::(assignEach es X.env).map (·.2):=by rfl):SGs X (e::es) (aU u us):=(vB h1 h2 hs).imp λv σ H Q h=>by
 obtain⟨J,ρ,S,ds,ρ',c,m,e,z⟩:=h
 cases ds with
 |nil=>cases e
 |cons d r =>
  obtain⟨v1,vr,rfl,m1,m2⟩:=Ats.cons_iff.mp m
  obtain⟨ρ1,e1,e2⟩:=Option.bind_eq_some_iff.mp e
  exact⟨v1,vr,rfl,J,ρ,S,d,ρ1,c,m1,e1,λσ1 c1=>⟨J,ρ1,S,r,ρ',c1,m2,e2,z⟩⟩
theorem nK {es:List Expr}{k:Nat}{us:List D->Rho->Option Rho}{n:Nat}(hc:X.calm=true)(h:SGs X es us)
  (hn:(assignEach es X.env).length=n:=by rfl) (hst:(assignEach es X.env).findIdx? (·.1)=none:=by rfl):SG X (.Tuple es k pos) (kC n us):=(y4 hc h hn hst).imp λv σ H Q h=>by
 obtain⟨J,ρ,S,d,ρ',c,m,e,z⟩:=h
 cases d with
 |tup ds =>
  obtain⟨a,xs,rfl,t,ms⟩:=At.tup_iff.mp m
  simp only[kC] at e
  split at e
  ·rename_i hl
   exact⟨a,xs,rfl,t.sq,by rw[← ms.length];exact hl,J,ρ,S,ds,ρ',c,ms,e,z⟩
  ·cases e
 |_=>cases e
def oi (u:D->Rho->Option Rho)(f:Rho->Sto->Out D):Rho->Sto->Out Fl:=λρ S=>ae (f ρ S) λd S1=>aE ((u d ρ).map Fl.next) S1
theorem yD {tg e:Expr}{u:D->Rho->Option Rho}(he:SE X W e fe)(hg:SG X tg u)(hs:swapsWithSole [tg] e pos.line X.env=pure false:=by rfl)(hw:swappedStores [tg] e X.env=pure none:=by rfl)
  (h1:(assignEach [tg] X.env).map (·.2)=[assign tg X.env]:=by rfl):SS X W (.Assign [tg] e pos) (oi u fe):=(vy he hg hs hw h1).imp λE σ H h=>(tS.bindE h).mono λv H1 ⟨J,ρ,S,d,r,S',c,m,q,z⟩=>by
 cases hu:u d ρ with
 |none=>simp[hu] at q
 |some ρ' =>
  simp only[hu,Option.map_some,bz,okO] at q
  cases q
  exact⟨J,ρ,_,d,ρ',c,m,hu,λσ' c'=>z J σ' H1 Ex.refl c'⟩
structure Walk (X:Cx) (Jt:It) (ds:List D) (J0:List Addr) (H0:Hp):Prop where
 len:ds.length<=sizeLine
 go:∀ J H i,Ex J0 H0 J H->i<ds.length->Jt.go i H
 yld:∀ J H (i:Nat) x H',Ex J0 H0 J H->(∀ a∈J,H a≠none)->i<ds.length->Jt.yld i H x H'->∃ d,ds[i]?=some d/\At X.K H' J d x/\Same H H'
 stop:∀ J H i,Ex J0 H0 J H->ds.length<=i->Jt.stop i H
def iW (X:Cx)(W:WT)(fi:Rho->Sto->Out (List D)):TI:=λσ H R => ∃ J ρ S r S',Cf X J ρ S σ H/\fi ρ S=some (r,S')/\match r with
 | .ok ds => ∀ J' H' Jt,Ex J H J' H'->StoOk X.K J' S' H'->Walk X Jt ds J' H'->R Jt H'
 | .error c => ∀ J' H',Ex J H J' H'->StoOk X.K J' S' H'->W c J' S' H'
def SI (X:Cx)(W:WT)(tg iter:Expr)(fi:Rho->Sto->Out (List D)):Prop:=PI X tg iter (iW X W fi)
theorem PI.imp {tg iter:Expr}{t t':TI}(h:PI X tg iter t)(i:∀ σ H R,t' σ H R->t σ H R):PI X tg iter t':=λpins s σ H R I z=>h pins s σ H R I (i _ _ _ z)
def dL (u:D->Rho->Option Rho)(body:Rho->Sto->Out Fl):List D->Rho->Sto->Out Fl
 |[],ρ,S=>okO (.next ρ) S
 |d::ds,ρ,S=>match u d ρ with
  |none=>none
  |some ρ1=>ae (body ρ1 S) λfl S1=>match fl with
   | .next ρ'=>dL u body ds ρ' S1
   | .cont ρ'=>dL u body ds ρ' S1
   | .brk ρ'=>okO (.next ρ') S1
   | .ret d=>okO (.ret d) S1
def fX (fi:Rho->Sto->Out (List D))(u:D->Rho->Option Rho)(body:Rho->Sto->Out Fl):Rho->Sto->Out Fl:=λρ S=>ae (fi ρ S) λds S1=>dL u body ds ρ S1
theorem dW {tg iter:Expr}{body:List Stmt}{fi:Rho->Sto->Out (List D)}{u:D->Rho->Option Rho}(hp:PassesOwn (model X.prog X.w) X.A X.env X.xe)(hc:X.calm=true)(hi:SI X W tg iter fi)(hg:SG X tg u)(hb:SSs X W body f)
  (hs:∀ x,foldedSetIterable iter X.env x=pure x:=by intro _;rfl):SS X W (.For tg iter body [] pos) (fX fi u f):=(yY hp hc hi hg hb hs).imp λE σ H h=>by
 obtain⟨J,ρ,S,r,S',c,e,z⟩:=h
 unfold fX at e
 cases q:fi ρ S with
 |none=>simp[q] at e
 |some o =>
  obtain⟨ro,S1⟩:=o
  simp only[q] at e
  cases ro with
  |error x =>
   cases e
   exact⟨J,ρ,S,.error x,_,c,q,z⟩
  |ok ds =>
   refine⟨J,ρ,S,.ok ds,S1,c,q,λJ0 H0 Jt x0 s0 w=>?_⟩
   refine⟨λi m σ H=>m=ds.length-i/\∃ Jx ρx Sx,Ex J0 H0 Jx H/\Cf X Jx ρx Sx σ H/\∃ r S',dL u f (ds.drop i) ρx Sx=some (r,S')/\EndS X W Jx H r S' E,
    ⟨_,rfl,J0,ρ,S1,Ex.refl,c.re x0 s0,r,S',by simpa using e,z.ex x0⟩,λi m σ1 H1 hw=>?_⟩
   obtain⟨hm,Jx,ρx,Sx,ex,cx,r1,S1',el,ez⟩:=hw
   by_cases hi:i<ds.length
   ·refine .inr ⟨w.go Jx H1 i ex hi,λσ' H' => ∃ Jy ρy Sy,Ex J0 H0 Jy H'/\Cf X Jy ρy Sy σ' H'/\∃ r S',dL u f (ds.drop (i+1)) ρy Sy=some (r,S')/\EndS X W Jy H' r S' E,
     λσ' H' hn=>⟨ds.length-(i+1),by omega,rfl,hn⟩,λx H' y=>?_⟩
    obtain⟨d,ed,ad,sm⟩:=w.yld Jx H1 i x H' ex cx.sto.all hi y
    have hd:ds.drop i=d::ds.drop (i+1):=by
     rw[List.drop_eq_getElem_cons hi]
     rw[List.getElem?_eq_getElem hi] at ed
     cases ed;rfl
    rw[hd] at el
    unfold dL at el
    cases hu:u d ρx with
    |none=>simp[hu] at el
    |some ρ1 =>
     simp only[hu] at el
     have xs:Ex Jx H1 Jx H':=Ex.same sm
     refine⟨Jx,ρx,Sx,d,ρ1,cx.re xs (cx.sto.same sm),ad,hu,λσ2 c2=>?_⟩
     cases qb:f ρ1 Sx with
     |none=>simp[qb] at el
     |some o =>
      obtain⟨ro,S2⟩:=o
      simp only[qb] at el
      have ez':=ez.ex xs
      cases ro with
      |error x =>
       cases el
       exact⟨Jx,ρ1,Sx,.error x,_,c2,qb,ez'⟩
      |ok fl =>
       cases fl with
       |next ρ'=>exact⟨Jx,ρ1,Sx,.ok (.next ρ'),S2,c2,qb,λJ' σ' H2 x' c'=>⟨J',ρ',S2,ex.trans (xs.trans x'),c',r1,S1',el,ez'.ex x'⟩⟩
       |cont ρ'=>exact⟨Jx,ρ1,Sx,.ok (.cont ρ'),S2,c2,qb,λJ' σ' H2 x' c'=>⟨J',ρ',S2,ex.trans (xs.trans x'),c',r1,S1',el,ez'.ex x'⟩⟩
       |brk ρ'=>cases el;exact⟨Jx,ρ1,Sx,.ok (.brk ρ'),_,c2,qb,ez'⟩
       |ret dd=>cases el;exact⟨Jx,ρ1,Sx,.ok (.ret dd),_,c2,qb,ez'⟩
   ·refine .inl ⟨w.stop Jx H1 i ex (by omega),?_⟩
    rw[List.drop_eq_nil_of_le (by omega)] at el
    unfold dL at el
    cases el
    exact ez Jx σ1 H1 Ex.refl cx
def rJ (f:Rho->Sto->Out D):Rho->Sto->Out (List D):=λρ S=>ae (f ρ S) λd S1=>aE (match d with | .tup xs=>some xs |_=>none) S1
def wB (f:Rho->Sto->Out D):Rho->Sto->Out (List D):=λρ S=>ae (f ρ S) λd S1=>aE (match d with | .lst xs=>some xs |_=>none) S1
theorem Walk.list {a:Addr}{ds:List D}{xs:List V}{J:List Addr}{H:Hp}(t:LQ X.K H J a xs)(m:Ats X.K H J ds xs):Walk X (Itl X.K a) ds J H where
 len:=by rw[m.length];exact t.len
 go:=λJ1 H1 i x hi=>by
  have m1:=m.ex x
  obtain⟨v,hv,_⟩:=m1.get (List.getElem?_eq_getElem hi)
  exact⟨xs,v,(t.ex x).sq,hv⟩
 yld:=λJ1 H1 i v H' x hJ hi y=>by
  obtain⟨rfl,hy⟩:=y
  obtain⟨d,e,a⟩:=(m.ex x).get' (hy xs (t.ex x).sq)
  exact⟨d,e,a,Same.refl _⟩
 stop:=λJ1 H1 i x hi=>⟨xs,(t.ex x).sq,by rw[← m.length];exact hi⟩
theorem Walk.tup {a:Addr}{ds:List D}{xs:List V}{J:List Addr}{H:Hp}(t:TQ X.K H J a xs)(m:Ats X.K H J ds xs):Walk X (Itt X.K a) ds J H where
 len:=by rw[m.length];exact t.len
 go:=λJ1 H1 i x hi=>by
  have m1:=m.ex x
  obtain⟨v,hv,_⟩:=m1.get (List.getElem?_eq_getElem hi)
  exact⟨xs,v,(t.ex x).sq,hv⟩
 yld:=λJ1 H1 i v H' x hJ hi y=>by
  obtain⟨rfl,hy⟩:=y
  obtain⟨d,e,a⟩:=(m.ex x).get' (hy xs (t.ex x).sq)
  exact⟨d,e,a,Same.refl _⟩
 stop:=λJ1 H1 i x hi=>⟨xs,(t.ex x).sq,by rw[← m.length];exact hi⟩
theorem nW {k:D->Option (List D)}{σ:St}{H:Hp}{R:It->Hp->Prop}(h:iW X W (λρ S=>ae (fe ρ S) λd S1=>aE (k d) S1) σ H R) :
  tE X W fe σ H λv H1 => ∃ J S d ds,StoOk X.K J S H1/\At X.K H1 J d v/\k d=some ds/\∀ H' Jt,Same H1 H'->Walk X Jt ds J H'->R Jt H':=by
 obtain⟨J,ρ,S,r,S',c,e,z⟩:=h
 cases q:fe ρ S with
 |none=>simp[q] at e
 |some o =>
  obtain⟨ro,S1⟩:=o
  simp only[q] at e
  cases ro with
  |error x =>
   cases e
   exact⟨J,ρ,S,.error x,_,c,.nil,q,z⟩
  |ok d =>
   refine⟨J,ρ,S,.ok d,S1,c,.nil,q,λJ1 H1 v x s1 m=>?_⟩
   cases hk:k d with
   |none=>simp[hk] at e
   |some ds =>
    simp only[hk,h8,bz,okO] at e
    cases e
    exact⟨J1,_,d,ds,s1,m,hk,λH' Jt sm w=>z J1 H' Jt (x.trans (Ex.same sm)) (s1.same sm) w⟩
theorem yH {tg:Expr}(he:SE X W e fe):SI X W tg e (rJ fe):=(y3 he).imp λσ H R h=>(nW h).mono λv H1 ⟨J,S,d,ds,s,m,hk,z⟩=>by
 cases d with
 |tup xs =>
  cases hk
  obtain⟨a,us,rfl,t,ms⟩:=At.tup_iff.mp m
  exact⟨a,rfl,⟨us,t.sq⟩,z H1 _ (Same.refl _) (Walk.tup t ms)⟩
 |_=>cases hk
theorem yJ {tg:Expr}(he:SE X W e fe):SI X W tg e (wB fe):=(xo he).imp λσ H R h=>(nW h).mono λv H1 ⟨J,S,d,ds,s,m,hk,z⟩=>by
 cases d with
 |lst xs =>
  cases hk
  obtain⟨a,us,rfl,t,ms⟩:=At.lst_iff.mp m
  exact⟨a,rfl,⟨us,t.sq⟩,z H1 _ (Same.refl _) (Walk.list t ms)⟩
 |_=>cases hk
def dI:List D->Option (List D)
 |[.int j]=>if -(2 ^ 62)<=j/\j<=16777216 then some ((List.range j.toNat).map λ(k:Nat)=>D.int k) else none
 |_=>none
def gL (k:List D->Option (List D))(t:Rho->Sto->Out (List D)):Rho->Sto->Out (List D):=λρ S=>ae (t ρ S) λds S1=>aE (k ds) S1
theorem Walk.range {J:List Addr}{H:Hp}(lo:Int)(n:Nat)(hz:n<=sizeLine):Walk X (Itr lo n) ((List.range n).map λ(k:Nat)=>D.int (lo+k)) J H where
 len:=by rw[List.length_map,List.length_range];exact hz
 go:=λJ1 H1 i x hi=>by rw[List.length_map,List.length_range] at hi;exact hi
 yld:=λJ1 H1 i v H' x hJ hi y=>by
  obtain⟨rfl,rfl⟩:=y
  rw[List.length_map,List.length_range] at hi
  exact⟨.int (lo+i),by rw[List.getElem?_map,List.getElem?_range hi];rfl,At.int_iff.mpr rfl,Same.refl _⟩
 stop:=λJ1 H1 i x hi=>by rw[List.length_map,List.length_range] at hi;exact hi
theorem iB {k:List D->Option (List D)}{t:Rho->Sto->Out (List D)}{σ:St}{H:Hp}{R:It->Hp->Prop}(h:iW X W (λρ S=>ae (t ρ S) λd S1=>aE (k d) S1) σ H R) :
  tA X W t σ H λvs H1 => ∃ J S es ds,StoOk X.K J S H1/\Ats X.K H1 J es vs/\k es=some ds/\∀ H' Jt,Same H1 H'->Walk X Jt ds J H'->R Jt H':=by
 obtain⟨J,ρ,S,r,S',c,e,z⟩:=h
 cases q:t ρ S with
 |none=>simp[q] at e
 |some o =>
  obtain⟨ro,S1⟩:=o
  simp only[q] at e
  cases ro with
  |error x =>
   cases e
   exact⟨J,ρ,S,.error x,_,c,.nil,q,z⟩
  |ok es =>
   refine⟨J,ρ,S,.ok es,S1,c,.nil,q,λJ1 H1 v x s1 m=>?_⟩
   cases hk:k es with
   |none=>simp[hk] at e
   |some ds =>
    simp only[hk,h8,bz,okO] at e
    cases e
    exact⟨J1,_,es,ds,s1,m,hk,λH' Jt sm w=>z J1 H' Jt (x.trans (Ex.same sm)) (s1.same sm) w⟩
theorem eA {tg a:Expr}{t:Rho->Sto->Out (List D)}{x:Str}{p:Pos}(hx:x="range")(hm:X.mg x=none)(ha:SA X W [a] t)(hg:Gl X x:=by rfl)(hs:starEach [a] X.env=[(false,eval a X.env)]:=by rfl):SI X W tg (.Call (.Name x p) [a] [] pos) (gL dI t):=by
 subst hx
 refine PI.imp (uh hg hm ha hs) λσ H R h=>(iB h).mono λvs H1 ⟨J,S,es,ds,s,m,hk,z⟩=>?_
 unfold dI at hk
 split at hk
 ·rename_i j
  split at hk
  ·rename_i c
   cases hk
   obtain⟨v,r,rfl,a1,n⟩:=Ats.cons_iff.mp m
   cases Ats.nil_iff.mp n
   cases At.int_iff.mp a1
   refine⟨j,rfl,c.1,by omega,z H1 _ (Same.refl _) ?_⟩
   have w:=Walk.range (X:=X) (J:=J) (H:=H1) 0 j.toNat (by show j.toNat<=16777216;omega)
   simpa using w
  ·cases hk
 ·cases hk
end
structure InScope (scope:Scope) (env:Env):Prop where
 kind:scope.kind = .function
 nocell:∀ y∈scope.names,y.2≠.cell
 names:∀ y∈scope.names,y.2 = .local->scope.names.lookup y.1=some .local
 frees:∀ y∈scope.names,y.2 = .free->env.kindOf y.1=some .cell∨env.kindOf y.1=some .free
theorem cX {env:Env}:∀ (names:List (Str×NameKind)) (acc:List (Str×Addr)),(∀ y∈names,y.2 = .free->∃ c,env.cells.lookup y.1=some c)->(∀ x c,acc.lookup x=some c->env.cells.lookup x=some c) ->
  ∃ cl:List (Str×Addr),(forIn names acc λ(x:Str×NameKind) r=>(do
    let (name,kind):=x
    if kind==.free then pure (ForInStep.yield ((name,← cellOf env name)::r)) else pure (ForInStep.yield r):Sem (ForInStep (List (Str×Addr)))))=pure cl /\
   (∀ x c,cl.lookup x=some c->env.cells.lookup x=some c)/\(∀ x c,acc.lookup x=some c->∃ c',cl.lookup x=some c')/\(∀ y∈names,y.2 = .free->∃ c,cl.lookup y.1=some c)
 |[],acc,_,ha=>⟨acc,by simp,ha,λx c h=>⟨c,h⟩,by simp⟩
 |(n,k)::r,acc,hc,ha=>by
  by_cases hk:k = .free
  ·subst hk
   obtain⟨c,ec⟩:=hc (n,.free) (List.mem_cons_self ..) rfl
   have ha':∀ x c',((n,c)::acc).lookup x=some c'->env.cells.lookup x=some c':=λx c' h=>by
    rw[List.lookup_cons] at h
    cases hx:x==n with
    |true =>
     rw[hx] at h
     cases h
     have:x=n:=eq_of_beq hx
     rw[this];exact ec
    |false=>rw[hx] at h;exact ha x c' h
   obtain⟨cl,e,h1,h2,h3⟩:=cX r ((n,c)::acc) (λy hy=>hc y (List.mem_cons_of_mem _ hy)) ha'
   have ecell:cellOf env n=pure c:=by unfold cellOf;rw[ec]
   refine⟨cl,?_,h1,λx c' h=>?_,λy hy hf=>?_⟩
   ·rw[List.forIn_cons]
    simp only[beq_self_eq_true,if_true,ecell,pure_bind]
    exact e
   ·by_cases hx:(x==n)=true
    ·exact h2 x c (by rw[List.lookup_cons,hx])
    ·exact h2 x c' (by rw[List.lookup_cons,Bool.eq_false_iff.mpr hx];exact h)
   ·rcases List.mem_cons.mp hy with rfl |hy
    ·exact h2 n c (by rw[List.lookup_cons,beq_self_eq_true])
    ·exact h3 y hy hf
  ·obtain⟨cl,e,h1,h2,h3⟩:=cX r acc (λy hy=>hc y (List.mem_cons_of_mem _ hy)) ha
   refine⟨cl,?_,h1,h2,λy hy hf=>?_⟩
   ·rw[List.forIn_cons]
    have:(k==NameKind.free)=false:=by simpa using hk
    simp only[this,Bool.false_eq_true,if_false,pure_bind]
    exact e
   ·rcases List.mem_cons.mp hy with rfl |hy
    ·exact absurd hf hk
    ·exact h3 y hy hf
def jy (X:Cx)(scope:Scope)(cl:List (Str×Addr))(N':List Str)(C:Addr)(s3:Shared)(H3:Hp)(fp:List Addr):Cx:=
 { X with N:=N',s₀:=s3,H₀:=H3,env:=compEnvC scope cl C X.env,outer:=X.stack,ex:=fp,fn:=λ_=>false,pn:=[],xe:=λ_ _=>False }
theorem cb {env:Env}{x:Str}:∀ {names:List (Str×NameKind)}{k:NameKind},(names.map λ(n,k)=>if (k==NameKind.free&&env.scope.kind==.function&&env.kindOf n==some .cell) then (n,NameKind.cell) else (n,k)).lookup x=some k->(∀ y∈names,y.2≠.cell) ->
  (k = .cell∨k = .free)->(x,NameKind.free)∈names
 |[],_,h,_,_=>by simp at h
 |(n,k0)::r,k,h,nc,hk=>by
  rw[List.map_cons] at h
  by_cases hc:(k0==NameKind.free&&env.scope.kind==.function&&env.kindOf n==some .cell)=true
  ·simp only[hc,if_true,List.lookup_cons] at h
   cases hx:x==n with
   |true =>
    have e:x=n:=eq_of_beq hx
    subst e
    have:k0 = .free:=by simp at hc;exact hc.1.1
    subst this
    exact List.mem_cons_self ..
   |false =>
    rw[hx] at h
    exact List.mem_cons_of_mem _ (cb h (λy hy=>nc y (List.mem_cons_of_mem _ hy)) hk)
  ·simp only[hc,if_false,List.lookup_cons,Bool.false_eq_true] at h
   cases hx:x==n with
   |true =>
    rw[hx] at h
    have e:x=n:=eq_of_beq hx
    subst e
    cases h
    rcases hk with rfl |rfl
    ·exact absurd rfl (nc (x,.cell) (List.mem_cons_self ..))
    ·exact List.mem_cons_self ..
   |false =>
    rw[hx] at h
    exact List.mem_cons_of_mem _ (cb h (λy hy=>nc y (List.mem_cons_of_mem _ hy)) hk)
def d4 {α:Type}(ts:Nat)(ix:List Nat)(σ:List (Option α)):List (Option α):=List.replicate ts none++ix.map λi=>(σ[i]?).getD none
def gK (ts:List Str)(ix:List Nat)(N:List Str):List Str:=ts++ix.map λi=>N.getD i Str.empty
theorem ff {env:Env}{x:Str}:∀ {names:List (Str×NameKind)},names.lookup x=some .free ->
  (names.map λ(n,k)=>if (k==NameKind.free&&env.scope.kind==.function&&env.kindOf n==some .cell) then (n,NameKind.cell) else (n,k)).lookup x=some .cell ∨
  (names.map λ(n,k)=>if (k==NameKind.free&&env.scope.kind==.function&&env.kindOf n==some .cell) then (n,NameKind.cell) else (n,k)).lookup x=some .free
 |[],h=>by simp at h
 |(n,k0)::r,h=>by
  rw[List.map_cons]
  rw[List.lookup_cons] at h
  by_cases hc:(k0==NameKind.free&&env.scope.kind==.function&&env.kindOf n==some .cell)=true
  ·simp only[hc,if_true,List.lookup_cons]
   cases hx:x==n with
   |true=>exact .inl rfl
   |false=>rw[hx] at h;exact ff h
  ·simp only[hc,if_false,List.lookup_cons,Bool.false_eq_true]
   cases hx:x==n with
   |true=>rw[hx] at h;exact .inr h
   |false=>rw[hx] at h;exact ff h
theorem lookup_mem {x:Str}{k:NameKind}:∀ {names:List (Str×NameKind)},names.lookup x=some k->(x,k)∈names
 |[],h=>by simp at h
 |(n,k0)::r,h=>by
  rw[List.lookup_cons] at h
  cases hx:x==n with
  |true=>rw[hx] at h;cases h;rw[eq_of_beq hx];exact List.mem_cons_self ..
  |false=>rw[hx] at h;exact List.mem_cons_of_mem _ (lookup_mem h)
section
variable {X:Cx}{pins:List (Addr×Obj)}{σ:St}{H:Hp}{s:Shared}
theorem Inv.enter {scope:Scope}{cl:List (Str×Addr)}{ts:List Str}{ix:List Nat}{fp:List Addr}{s3:Shared}{h4:Heap}{H3:Hp}{m:Str->Option Value}{tk:Nat}(I:Inv X pins σ H3 s3)(S:InScope scope X.env)
  (h1:∀ x c,cl.lookup x=some c->X.env.cells.lookup x=some c) (h2:∀ y∈scope.names,y.2 = .free->∃ c,cl.lookup y.1=some c) (hcap:∀ t∈ix,scope.names.lookup (X.N.getD t Str.empty)=some .free)
  (f:∀ b∈fp,ge X pins H3 b) (fo:∀ b∈fp,∃ o,s3.heap.get? b=some o) (k:∀ b o,s3.heap.get? b=some o->h4.get? b=some o) (hn:h4.Ns s3.heap.objs.size m) :
  Inv (jy X scope cl (gK ts ix X.N) s3.heap.objs.size s3 H3 fp) [] (d4 ts.length ix σ) H3 { s3 with heap:=h4,toks:=tk }:=by
 refine⟨⟨I.ok.mod,S.kind,I.ok.glob,I.ok.blt,Nat.le_refl _,λx y c a b=>I.ok.inj x y c (h1 x c a) (h1 y c b),λx hx=>?_,(λx c a=>by cases a),I.ok.hd,I.ok.frames,.inl rfl,λb hb=>⟨?_,λx c e=>(f b hb).2.2.2.2.1 x c (h1 x c e)⟩,I.bs,Nat.le_trans I.ok.bsz I.sz,λb o e hb=>?_,λb hb z=>?_,I.stack,I.stkFree⟩,
  rfl,I.bare,Un.kept k,⟨m,hn,λi x v e1 e2 e3=>?_⟩,λx c e=>?_,I.fresh,λx c e=>I.freeC x c (h1 x c e),λp hp=>absurd (show p∈([]:List (Addr×Obj)) from hp) (by simp),I.hok.kept k,?_⟩
 ·have q:(x,NameKind.free)∈scope.names:=by
   rcases hx with z |z
   ·exact cb z S.nocell (.inl rfl)
   ·exact cb z S.nocell (.inr rfl)
  exact h2 _ q rfl
 ·obtain⟨o,ho⟩:=fo b hb
  exact Nat.ne_of_lt (Heap.lt_size ho)
 ·obtain⟨f0,_,_,f3,_⟩:=f b hb
  rcases f3 with z |z
  ·exact I.ok.noex b o e z
  ·exact absurd (Nat.lt_of_lt_of_le (Heap.lt_size e) (Nat.le_trans I.ok.bsz z)) (Nat.lt_irrefl _)
 ·obtain⟨f0,f1,f2,f3,_⟩:=f b hb
  rcases List.mem_cons.mp (I.stkSub b z) with e |e
  ·exact f1 e
  ·exact f2 e
 ·-- a captured name
  have e2':(d4 ts.length ix σ)[i]?=some (some v):=e2
  have e1':(gK ts ix X.N)[i]?=some x:=e1
  unfold d4 at e2'
  unfold gK at e1'
  by_cases hi:i<ts.length
  ·rw[List.getElem?_append_left (by simpa using hi),List.getElem?_replicate] at e2'
   rw[if_pos hi] at e2'
   cases e2'
  ·rw[List.getElem?_append_right (by simpa using hi)] at e2'
   rw[List.getElem?_append_right (by simpa using hi)] at e1'
   rw[List.length_replicate] at e2'
   rw[List.getElem?_map] at e2' e1'
   cases et:ix[i-ts.length]? with
   |none=>rw[et] at e2';cases e2'
   |some t =>
    rw[et] at e2' e1'
    simp only[Option.map_some,Option.some.injEq] at e2' e1'
    have hs : σ[t]?=some (some v):=by
     cases q : σ[t]? with
     |none=>rw[q] at e2';cases e2'
     |some w=>rw[q] at e2';simp only[Option.getD_some] at e2';rw[e2']
    have ht:t<X.N.length:=by rw[← I.len];exact (List.getElem?_eq_some_iff.mp hs).1
    have hN:X.N[t]?=some x:=by
     rw[List.getD_eq_getElem?_getD,List.getElem?_eq_getElem ht] at e1'
     rw[List.getElem?_eq_getElem ht]
     simp only[Option.getD_some] at e1'
     rw[e1']
    have hfree:scope.names.lookup x=some .free:=by
     have:=hcap t (List.mem_of_getElem? et)
     rwa [e1'] at this
    have hm:=lookup_mem hfree
    have kinds:=S.frees _ hm rfl
    obtain⟨m0,_,hl⟩:=I.loc
    obtain⟨u,r,l⟩:=hl t x v hN hs (by
     rcases kinds with z |z
     ·exact .inr (.inl z)
     ·exact .inr (.inr z))
    refine⟨u,r,.inr ⟨ff hfree,?_⟩⟩
    obtain⟨c,ec⟩:=h2 _ hm rfl
    have ec':=h1 x c ec
    rcases l with ⟨kl,_⟩ |⟨_,c',e',cell⟩
    ·have kl':X.env.kindOf x=some .local:=kl
     rcases kinds with z |z
     ·have z':X.env.kindOf x=some .cell:=z
      rw[kl'] at z';cases z'
     ·have z':X.env.kindOf x=some .free:=z
      rw[kl'] at z';cases z'
    ·rw[ec'] at e'
     cases e'
     exact⟨c,ec,cell.keeps k⟩
 ·obtain⟨v,o,ho,hd⟩:=I.cell x c (h1 x c e)
  exact⟨v,o,k c o ho,hd⟩
 ·show (d4 ts.length ix σ).length=(gK ts ix X.N).length
  unfold d4 gK
  simp
theorem Inv.leave {scope:Scope}{cl:List (Str×Addr)}{N':List Str}{σ':St}{fp:List Addr}{s3 s':Shared}{h':Heap}{H3 H':Hp}{pins':List (Addr×Obj)}(I:Inv X pins σ H3 s3)(f:∀ b∈fp,ge X pins H3 b)
  (I':Inv (jy X scope cl N' s3.heap.objs.size s3 H3 fp) pins' σ' H' s') (k:∀ b,b≠s3.heap.objs.size->h'.get? b=s'.heap.get? b):Inv X pins σ H' { s' with heap:=h' }:=by
 have un:Un (frs X.stack) fp H3 H' s3.heap s'.heap:=I'.base
 have nC:∀ b o,s3.heap.get? b=some o->b≠s3.heap.objs.size:=λb o e=>Nat.ne_of_lt (Heap.lt_size e)
 have un':Un (frs X.stack) fp H3 H' s3.heap h':=by
  refine⟨λb o e n hb hx=>?_,λb o e n hb hx=>?_,un.free,λb o e hx=>?_,un.tups,un.frzs,un.tbls⟩
  ·rw[k b (nC b o e)];exact un.keep b o e n hb hx
  ·rw[k b (nC b o e)];exact un.slot b o e n hb hx
  ·rw[k b (nC b o e)];exact un.there b o e hx
 have hok:HOk X.prog X.w H' h':=λb u e=>by
  have hC:H' s3.heap.objs.size=none:=I'.free
  have ne:∀ c v,H' c=some v->c≠s3.heap.objs.size:=λc v q z=>by rw[z,hC] at q;cases q
  refine (I'.hok b u e).stay (λc v hc q=>?_) (λ_ q=>q) λ_ _ q=>q
  rw[k c]
  ·exact q
  ·rcases hc with z |z
   ·rw[z];exact ne b u e
   ·exact ne c _ z
 have os:s'.os=s3.os:=I'.os
 exact I.call' (s':={ s' with heap:=h' }) os un' hok I'.bare λb hb=>let ⟨_,a,_,b',c,d⟩:=f b hb;⟨b',a,c,d⟩
end
section
variable {prog:Program}{w:World}{A:Around}{R:Result->Shared->Prop}{s:Shared}
theorem n_ {elt target iter:Expr}{ifs:List Expr}{scope:Scope}{pos:Pos}{it acc:Value}{env:Env}(I:Nat->Shared->Prop)
  (turn:∀ n s,I n s->wpAny (model prog w) A (pyNext it) (λr s₁=>match r with
   |none=>R (.ok .next) s₁
   |some v=>wpAny (model prog w) A (letOwnedTupleGo target it v) (λ_ s₁'=>wpAny (model prog w) A (assign target env v) (λ_ s₂ =>
     wpAny (model prog w) A (forIn ifs true λc r=>if r=true then do let ok ← isTrue c env (eval c env);pure (ForInStep.yield ok) else pure (ForInStep.yield r)) (λok s₃ =>
      if ok=true then wpAny (model prog w) A (eval elt env) (λx s₄ =>
       wpAny (model prog w) A (call (.builtin "list.append") [acc,x]) (λ_ s₅ => ∃ m,m<n/\I m s₅) (λ_ _=>False) s₄) (λ_ _=>False) s₃
      else ∃ m,m<n/\I m s₃) (λ_ _=>False) s₂) (λ_ _=>False) s₁') (λ_ _=>False) s₁) (λ_ _=>False) s)
  (n:Nat) (h:I n s):codeAny (model prog w) A (.compLoop (.ListComp elt [⟨target,iter,ifs,0⟩] scope pos) 0 it acc env) R s:=by
 have no:∀ {α:Type}{t:Sem α}{Q : α->Shared->Prop}{E:Value->Shared->Prop}{s:Shared},wpAny (model prog w) A t Q (λ_ _=>False) s->wpAny (model prog w) A t Q E s:=λh=>wpAny_mono h (λ_ _ q=>q) λ_ _ f=>f.elim
 refine codeAny_loop rfl I (λn s hI=>?_) n h
 show wpAny _ A ((compTurn (.ListComp elt [⟨target,iter,ifs,0⟩] scope pos) 0 it acc env).onRaise (λx=>do noteFrame x env;theTreesLotGoes x)) _ _ s
 refine wpAny_noted ?_
 rw[compTurn_list]
 refine wpAny_bind (wpAny_standAt (wpAny_bind (wpAny_mono (no (turn n s hI)) (λr s₁ h₁=>?_) λ_ _ h'=>h')))
 cases r with
 |none=>exact wpAny_pure h₁
 |some v =>
  refine wpAny_bind (wpAny_mono (no h₁) (λ_ s₁' h₁'=>?_) λ_ _ h'=>h')
  refine wpAny_bind (wpAny_mono (no h₁') (λ_ s₂ h₂=>wpAny_bind (wpAny_mono (no h₂) (λok s₃ h₃=>?_) λ_ _ h'=>h')) λ_ _ h'=>h')
  cases ok with
  |false=>exact wpAny_pure ⟨rfl,h₃⟩
  |true =>
   exact wpAny_bind (wpAny_bind (wpAny_mono (no h₃) (λx s₄ h₄=>wpAny_bind (wpAny_mono (no h₄) (λ_ s₅ h₅=>wpAny_pure (wpAny_pure ⟨rfl,h₅⟩)) λ_ _ h'=>h')) λ_ _ h'=>h'))
end
section
variable {X:Cx}{pins:List (Addr×Obj)}{σ:St}{H:Hp}{s:Shared}{D₀:Addr}
theorem Inv.adopt {ys:List V}{its:List Value}{n:Nat}(I:Inv X pins σ H s)(f:ge X pins H D₀)(e:s.heap.get? D₀=some { cls:=.type "list",data:=.seq its.toArray n })(r:Vals ys its)(hz:ys.length<=sizeLine):Inv X pins σ (upd H D₀ (.lst ys)) s:=by
 obtain⟨hn,f1,f2,f3,f4,f5⟩:=f
 have ne:∀ b o,H b=some o->b≠D₀:=λb o q=>aB q hn
 have q:=I.step (h':=s.heap) (H':=upd H D₀ (.lst ys)) (g':=s.gens) (d':=s.drawn) (t':=s.toks) (ch:=[D₀]) (λb hb=>by
   have:b=D₀:=by simpa using hb
   subst this
   exact⟨f3,f1,f4,f5⟩)
  (λb o _ _ _ e _=>e) (λb o _ _ _ e _=>⟨o.slots,e⟩) (λb o hb _ n'=>by rw[au (λz=>hb (by simp[z]))];exact n') (λb o _ e=>⟨o,e⟩)
  (λb xs q=>by rw[au (ne b _ q)];exact q) (λb o xs q=>by rw[au (ne b _ q)];exact q) (λb ps q=>⟨#[],by rw[au (ne b _ q),q];simp⟩) (λ_ hm=>hm) (λb u q=>?_) I.bare
 ·exact q
 ·by_cases hb:b=D₀
  ·subst hb
   rw[upd_same] at q
   cases q
   exact⟨hz,its,n,r,e⟩
  ·rw[au hb] at q
   exact (I.hok b u q).stay (λc v _ z=>z) (λc z=>by rw[au (ne c _ z)];exact z) λc xs z=>by rw[au (ne c _ z)];exact z
end
def STs (X:Cx)(W:WT)(ifs:List Expr)(g:Rho->Sto->Out Bool):Prop:=
 ∀ (pins:List (Addr×Obj)) (s:Shared) (σ:St) (H:Hp) (Q:Bool->Hp->Prop),Inv X pins σ H s->tT X W g σ H Q ->
  wpAny (model X.prog X.w) X.A (forIn ifs true λc r=>if r=true then do let ok ← isTrue c X.env (eval c X.env);pure (ForInStep.yield ok) else pure (ForInStep.yield r)) (TP X pins σ Q) X.xe s
def iX:Rho->Sto->Out Bool:=λ_ S=>okO true S
theorem j3 {X:Cx}{W:WT}:STs X W [] iX:=by
 intro pins s σ H Q I h
 rw[List.forIn_nil]
 exact wpAny_pure ⟨H,I,sF h⟩
theorem wX {X:Cx}{W:WT}{c:Expr}{g:Rho->Sto->Out Bool}(hc:TS1 X W c g):STs X W [c] g:=by
 intro pins s σ H Q I h
 rw[List.forIn_cons]
 simp only[if_true,List.forIn_nil]
 refine wpAny_bind (wpAny_bind (thn (hc pins s σ H Q I h) λb s1 q=>wpAny_pure ?_))
 exact wpAny_pure q
noncomputable def okP {α:Type}(m:Out α):Option (α×Sto):=match m with
 |some (.ok a,S)=>some (a,S)
 |_=>none
def dO (u:D->Rho->Option Rho)(gt:Rho->Sto->Out Bool)(fe:Rho->Sto->Out D):List D->Rho->Sto->Option (List D×Sto)
 |[],_,S=>some ([],S)
 |d::ds,ρ,S=>(u d ρ).bind λρ1=>(okP (gt ρ1 S)).bind λ(k,S1) =>
  if k=true then (okP (fe ρ1 S1)).bind λ(y,S2)=>(dO u gt fe ds ρ1 S2).map λ(ys,S3)=>(y::ys,S3)
  else dO u gt fe ds ρ1 S1
def gQ (n:Nat)(ix:List Nat)(fi:Rho->Sto->Out (List D))(u:D->Rho->Option Rho)(gt:Rho->Sto->Out Bool)(fe:Rho->Sto->Out D):Rho->Sto->Out D:=λρ S=>ae (fi ρ S) λds S1 =>
 match dO u gt fe ds (d4 n ix ρ) S1 with
 |some (out,S2)=>okO (.lst out) S2
 |none=>none
abbrev W0:WT:=λ_ _ _ _=>False
section
variable {X:Cx}{W:WT}
structure CompEnd (X:Cx) (pins:List (Addr×Obj)) (σ:St) (J0:List Addr) (H0:Hp) (S2:Sto) (out:List D) (a C:Addr) (s':Shared):Prop where
 ns:∃ m,s'.heap.Ns C m
 own:X.s₀.heap.objs.size<=C/\C≠X.env.locals/\(∀ x c,X.env.cells.lookup x=some c->c≠C)/\∀ p∈X.pn++pins,p.1≠C
 fin:∀ h',(∀ b,b≠C->h'.get? b=s'.heap.get? b)->∃ J' H',Inv X pins σ H' { s' with heap:=h' }/\Ex J0 H0 J' H'/\StoOk X.K J' S2 H'/\At X.K H' J' (.lst out) (.ref a)/\H' C=none
def rR (X':Cx)(tn:Nat->Heap->Prop)(fp:List Addr)(a:Addr)(u:D->Rho->Option Rho)(gt:Rho->Sto->Out Bool)(fe:Rho->Sto->Out D)(ds out:List D)(J0:List Addr)(H2:Hp)(S2:Sto)(n:Nat)(s':Shared):Prop:=
 ∃ (i:Nat) (σ':St) (H':Hp) (Jx:List Addr) (ρx:Rho) (Sx:Sto) (dn rest:List D) (ys:List V) (us:List Value) (ep:Nat),
  n=ds.length-i+1/\i<=ds.length/\Inv X' [] σ' H' s'/\tn i s'.heap/\(∀ b∈a::fp,H' b=none)/\Ex J0 H2 Jx H'/\Cf X' Jx ρx Sx σ' H' /\
  s'.heap.get? a=some { cls:=.type "list",data:=.seq us.toArray ep }/\Vals ys us/\Ats X'.K H' Jx dn ys/\dn.length<=i/\dO u gt fe (ds.drop i) ρx Sx=some (rest,S2)/\out=dn++rest
theorem uN {X':Cx}{tg elt:Expr}{ifs:List Expr}{u:D->Rho->Option Rho}{gt:Rho->Sto->Out Bool}{fe:Rho->Sto->Out D}{it a:Addr}{fp:List Addr}{tn:Nat->Heap->Prop}{Jt:It}{ds out:List D}{J0:List Addr}{H2:Hp}{S2:Sto}{R:Result->Shared->Prop}
  (hx:X'.xe=λ_ _=>False) (hc:X'.calm=true) (sg:SG X' tg u) (st:STs X' W0 ifs gt) (se:SE X' W0 elt fe) (T:Turn X'.prog X'.w X'.K tg Jt fp it tn) (wk:Walk X' Jt ds J0 H2) (na:a∉fp) (hz:ds.length<=sizeLine)
  (fin:∀ (pins':List (Addr×Obj)) (H':Hp) (b:Addr),b∈a::fp->H' b=none->(∀ p∈pins',p.1≠b)->ge X' pins' H' b)
  (endR:∀ (s':Shared) (σ':St) (H':Hp) (Jx:List Addr) (ρx:Rho) (ys:List V) (us:List Value) (ep:Nat),Inv X' [] σ' H' s'->Ex J0 H2 Jx H'->Cf X' Jx ρx S2 σ' H'->H' a=none->s'.heap.get? a=some { cls:=.type "list",data:=.seq us.toArray ep }->Vals ys us->Ats X'.K H' Jx out ys->ys.length<=sizeLine->R (.ok .next) s') :
  ∀ n s,rR X' tn fp a u gt fe ds out J0 H2 S2 n s->wpAny (model X'.prog X'.w) X'.A (pyNext (.ref it)) (λr s₁=>match r with
   |none=>R (.ok .next) s₁
   |some v=>wpAny (model X'.prog X'.w) X'.A (letOwnedTupleGo tg (.ref it) v) (λ_ s₁'=>wpAny (model X'.prog X'.w) X'.A (assign tg X'.env v) (λ_ s₂ =>
     wpAny (model X'.prog X'.w) X'.A (forIn ifs true λc r=>if r=true then do let ok ← isTrue c X'.env (eval c X'.env);pure (ForInStep.yield ok) else pure (ForInStep.yield r)) (λok s₃ =>
      if ok=true then wpAny (model X'.prog X'.w) X'.A (eval elt X'.env) (λx s₄ =>
       wpAny (model X'.prog X'.w) X'.A (call (.builtin "list.append") [.ref a,x]) (λ_ s₅ => ∃ m,m<n/\rR X' tn fp a u gt fe ds out J0 H2 S2 m s₅) (λ_ _=>False) s₄) (λ_ _=>False) s₃
      else ∃ m,m<n/\rR X' tn fp a u gt fe ds out J0 H2 S2 m s₃) (λ_ _=>False) s₂) (λ_ _=>False) s₁') (λ_ _=>False) s₁) (λ_ _=>False) s:=by
 rintro n s ⟨i,σ',H',Jx,ρx,Sx,dn,rest,ys,us,ep,hn,hi,I',tni,fr,ex,cx,ga,vs,ad,dl,ec,eo⟩
 have fa:=fin [] H' a (List.mem_cons_self ..) (fr a (List.mem_cons_self ..)) (λp hp=>by simp at hp)
 have I1:Inv X' [(a,{ cls:=.type "list",data:=.seq us.toArray ep })] σ' H' s:=I'.pins_of λp hp=>by
  have:p=(a,{ cls:=.type "list",data:=.seq us.toArray ep }):=by simpa using hp
  subst this
  exact⟨ga,fa.1,fa.2.1,fa.2.2.1,λv z=>by cases z⟩
 have fp1:∀ H1:Hp,(∀ b∈fp,H1 b=none)->∀ b∈fp,ge X' [(a,{ cls:=.type "list",data:=.seq us.toArray ep })] H1 b:=λH1 hn b hb=>fin _ H1 b (List.mem_cons_of_mem _ hb) (hn b hb) λp hp=>by
  have:p=(a,{ cls:=.type "list",data:=.seq us.toArray ep }):=by simpa using hp
  subst this
  intro z
  have z':a=b:=z
  exact na (z'▸hb)
 by_cases hlt:i<ds.length
 ·refine thn (T.item X' rfl rfl rfl hc i _ s σ' H' (λ_ _=>False) I1 (fp1 H' λb hb=>fr b (List.mem_cons_of_mem _ hb)) tni (wk.go Jx H' i ex hlt)) λr s1 ⟨v,er,h1⟩=>?_
  subst er
  refine thn h1 λ_ s5 ⟨x,H5,I5,r5,y5,tn5,fr5⟩=>?_
  obtain⟨d,ed,ad5,sm⟩:=wk.yld Jx H' i x H5 ex cx.sto.all hlt y5
  have x5:Ex Jx H' Jx H5:=Ex.same sm
  have c5:Cf X' Jx ρx Sx σ' H5:=cx.re x5 (cx.sto.same sm)
  have hd:ds.drop i=d::ds.drop (i+1):=by
   rw[List.drop_eq_getElem_cons hlt]
   rw[List.getElem?_eq_getElem hlt] at ed
   cases ed;rfl
  rw[hd,dO] at ec
  obtain⟨ρ1,eu,ec⟩:=Option.bind_eq_some_iff.mp ec
  obtain⟨⟨k,S1⟩,eg,ec⟩:=Option.bind_eq_some_iff.mp ec
  have eg':gt ρ1 Sx=some (.ok k,S1):=by
   unfold okP at eg
   split at eg
   ·rename_i q;cases eg;exact q
   ·cases eg
  have I5':=I5.pinned (fp1 H5 fr5) (T.obj _ _ tn5)
  have keep:∀ {σ6:St}{H6:Hp}{s6:Shared},Inv X' ([(a,{ cls:=.type "list",data:=.seq us.toArray ep })]++jm fp s5.heap) σ6 H6 s6->tn (i+1) s6.heap/\(∀ b∈a::fp,H6 b=none)/\s6.heap.get? a=some { cls:=.type "list",data:=.seq us.toArray ep }:=λ{σ6 H6 s6} I6=>by
   have pa:=I6.pin (a,{ cls:=.type "list",data:=.seq us.toArray ep }) (List.mem_append_right _ (List.mem_append_left _ (by simp)))
   refine⟨T.keep _ _ _ tn5 λb hb o e=>(I6.pin (b,o) (List.mem_append_right _ (List.mem_append_right _ (fj hb e)))).1,λb hb=>?_,pa.1⟩
   rcases List.mem_cons.mp hb with rfl |hb
   ·exact pa.2.1
   ·obtain⟨o,e,_⟩:=T.obj _ _ tn5 b hb
    exact (I6.pin (b,o) (List.mem_append_right _ (List.mem_append_right _ (fj hb e)))).2.1
  have nop:∀ {σ6:St}{H6:Hp}{s6:Shared},Inv X' ([(a,{ cls:=.type "list",data:=.seq us.toArray ep })]++jm fp s5.heap) σ6 H6 s6->Inv X' [] σ6 H6 s6:=λ{σ6 H6 s6} I6=>I6.pins_of λp hp=>absurd hp (by simp)
  have g:=sg _ s5 σ' H5 x v (λσ6 H6=>H6=H5/\Cf X' Jx ρ1 Sx σ6 H6) I5' r5 ⟨Jx,ρx,Sx,d,ρ1,c5,ad5,eu,λσ6 c6=>⟨rfl,c6⟩⟩
  rw[hx] at g
  refine thn g λ_ s6 ⟨σ6,H6,I6,eH,c6⟩=>?_
  subst eH
  have t:=st _ s6 σ6 H6 (λb H7=>b=k/\∃ J7,Ex Jx H6 J7 H7/\Cf X' J7 ρ1 S1 σ6 H7) I6 ⟨Jx,ρ1,Sx,.ok k,S1,c6,.nil,eg',λJ7 H7 b x7 s7 eb=>by
   cases eb
   exact⟨rfl,J7,x7,c6.re x7 s7⟩⟩
  rw[hx] at t
  refine thn t λb s7 ⟨H7,I7,eb,J7,x7,c7⟩=>?_
  subst eb
  have ex7:Ex J0 H2 J7 H7:=ex.trans (x5.trans x7)
  have ad7:Ats X'.K H7 J7 dn ys:=(ad.ex x5).ex x7
  cases b with
  |false =>
   rw[if_neg (by decide)]
   simp only[Bool.false_eq_true,if_false] at ec
   obtain⟨t8,fr8,g8⟩:=keep I7
   exact⟨ds.length-(i+1)+1,by omega,i+1,σ6,H7,J7,ρ1,S1,dn,rest,ys,us,ep,rfl,by omega,nop I7,t8,fr8,ex7,c7,g8,vs,ad7,by omega,ec,eo⟩
  |true =>
   rw[if_pos rfl]
   simp only[if_true] at ec
   obtain⟨⟨y,Sy⟩,ey,ec⟩:=Option.bind_eq_some_iff.mp ec
   obtain⟨⟨ry,S3⟩,ey2,ec⟩:=Option.map_eq_some_iff.mp ec
   have ey':fe ρ1 S1=some (.ok y,Sy):=by
    unfold okP at ey
    split at ey
    ·rename_i q;cases ey;exact q
    ·cases ey
   simp only[Prod.mk.injEq] at ec
   obtain⟨er,es⟩:=ec
   subst es er
   have t:=se _ s7 σ6 H7 (λw H8 => ∃ J8,Ex J7 H7 J8 H8/\Cf X' J8 ρ1 Sy σ6 H8/\At X'.K H8 J8 y w) I7 ⟨J7,ρ1,S1,.ok y,Sy,c7,.nil,ey',λJ8 H8 w x8 s8 aw=>⟨J8,x8,c7.re x8 s8,aw⟩⟩
   rw[hx] at t
   refine thn t λw s8 ⟨vw,H8,I8,rw8,J8,x8,c8,aw⟩=>?_
   obtain⟨t8,fr8,g8⟩:=keep I8
   have ad8:Ats X'.K H8 J8 dn ys:=ad7.ex x8
   have l1:=ad8.length
   have l2:=vs.length
   refine call_meets F.slot_list_append ⟨_,g8,rfl⟩ F.entry_list_append (F.args_list_append_2 _ _) (PySem.list_append a us.toArray ep w (by rw[List.size_toArray];omega)) ⟨g8,?_⟩
   have ga':=PySem.IsL.update g8 (·.push w)
   have fa8:=fin [] H8 a (List.mem_cons_self ..) (fr8 a (List.mem_cons_self ..)) (λp hp=>by simp at hp)
   have I9:Inv X' [] σ6 H8 { s8 with heap:=s8.heap.update a (Obj.mapSeq (·.push w)),toks:=s8.toks }:=(nop I8).turned (it:=a) (λb o hb e=>(Heap.get?_update_other s8.heap (Obj.mapSeq (·.push w)) (Ne.symm hb)).trans e) fa8.1 fa8.2.1 fa8.2.2.2.1 fa8.2.2.2.2.1 fa8.2.2.2.2.2
   refine⟨ds.length-(i+1)+1,by omega,i+1,σ6,H8,J8,ρ1,Sy,dn++[y],ry,ys++[vw],us++[w],_,rfl,by omega,I9,?_,fr8,ex7.trans x8,c8,by simpa using ga',vs.append (.cons rw8 .nil),ad8.append (.cons aw .nil),by rw[List.length_append,List.length_singleton];omega,ey2,by rw[eo];simp⟩
   exact T.keep _ _ _ t8 λb hb o e=>(Heap.get?_update_other s8.heap (Obj.mapSeq (·.push w)) (λz:a=b=>na (by rw[z];exact hb))).trans e
 ·refine thn (T.done X' rfl rfl rfl hc i _ s σ' H' (λ_ _=>False) I1 (fp1 H' λb hb=>fr b (List.mem_cons_of_mem _ hb)) tni (wk.stop Jx H' i ex (by omega))) λr s1 ⟨er,J1⟩=>?_
  subst er
  rw[List.drop_eq_nil_of_le (by omega),dO] at ec
  cases ec
  rw[List.append_nil] at eo
  subst eo
  have l1:=ad.length
  have pa:=J1.pin (a,{ cls:=.type "list",data:=.seq us.toArray ep }) (List.mem_append_right _ (by simp))
  exact endR s1 σ' H' Jx ρx ys us ep (J1.pins_of λp hp=>absurd hp (by simp)) ex cx pa.2.1 pa.1 vs ad (by omega)
theorem mY {tg iter elt:Expr}{ifs:List Expr}{scope:Scope}{pos:Pos}{u:D->Rho->Option Rho}{gt:Rho->Sto->Out Bool}{fe:Rho->Sto->Out D}{ts:List Str}{ix:List Nat}{cl:List (Str×Addr)}
  {pins:List (Addr×Obj)}{σ:St}{s2:Shared}{E:Value->Shared->Prop}{it:Addr}{fp:List Addr}{tn:Nat->Heap->Prop}{Jt:It}{H2:Hp}{J0:List Addr}{ρ:Rho}{S1 S2:Sto}{ds out:List D}{RR:Value->Addr->Result->Shared->Prop}
  (hc:X.calm=true) (Sc:InScope scope X.env) (h1:∀ x c,cl.lookup x=some c->X.env.cells.lookup x=some c) (h2:∀ y∈scope.names,y.2 = .free->∃ c,cl.lookup y.1=some c) (hcap:∀ t∈ix,scope.names.lookup (X.N.getD t Str.empty)=some .free)
  (hin:∀ C s3 H3 fp,SG (jy X scope cl (gK ts ix X.N) C s3 H3 fp) tg u/\STs (jy X scope cl (gK ts ix X.N) C s3 H3 fp) W0 ifs gt/\SE (jy X scope cl (gK ts ix X.N) C s3 H3 fp) W0 elt fe)
  (I2:Inv X pins σ H2 s2) (T:Turn X.prog X.w X.K tg Jt fp it tn) (t0:tn 0 s2.heap) (f2:∀ b∈fp,ge X pins H2 b) (c2:Cf X J0 ρ S1 σ H2) (wk:Walk X Jt ds J0 H2)
  (ec:dO u gt fe ds (d4 ts.length ix ρ) S1=some (out,S2))
  (hRR:∀ a C s',CompEnd X pins σ J0 H2 S2 out a C s'->RR (.ref a) C (.ok .next) s') :
  wpAny (model X.prog X.w) X.A (newList []) (λacc s₃=>wpAny (model X.prog X.w) X.A (newFunctionEnv scope X.env.globals cl [] X.env.qual none .none (some X.env)) (λcenv s₄ =>
   codeAny (model X.prog X.w) X.A (.compStart (.ListComp elt [⟨tg,iter,ifs,0⟩] scope pos) 0 (.ref it) acc { cenv with scope:=relabel scope X.env }) (RR acc cenv.locals) s₄) E s₃) E s2:=by
 refine wpAny_newObj_type (wpAny_newFunctionEnv Sc.nocell (by intro y hy;simp at hy) (λh4 hn4 hsb4=>?_) Sc.kind)
 dsimp only at hn4 hsb4 ⊢
 generalize hA:s2.heap.objs.size=a at *
 have k3:∀ b o,s2.heap.get? b=some o->(s2.heap.push { cls:=.type "list",dict:=none,data:=.seq ([]:List Value).toArray }).get? b=some o:=λb o e=>Heap.get?_push_of_some _ e
 obtain⟨s3,hs3⟩:∃ s3:Shared,s3={ s2 with heap:=s2.heap.push { cls:=.type "list",dict:=none,data:=.seq ([]:List Value).toArray } }:=⟨_,rfl⟩
 have I3:Inv X pins σ H2 s3:=by rw[hs3];exact I2.kept (t':=s2.toks) k3
 have hh3:s3.heap=s2.heap.push { cls:=.type "list",dict:=none,data:=.seq ([]:List Value).toArray }:=by rw[hs3]
 have sz3:s3.heap.objs.size=a+1:=by rw[hh3,Heap.size_push,hA]
 rw[← hh3] at hn4 hsb4
 have a3:s3.heap.get? a=some { cls:=.type "list",data:=.seq ([]:List Value).toArray }:=by rw[hh3,← hA];exact Heap.get?_push_size _ rfl
 have fa:ge X pins H2 a:=I2.fpOk (by rw[hA];exact Nat.le_refl _) (by rw[← hA];exact I2.fresh)
 have fobj:∀ b∈fp,∃ o,s2.heap.get? b=some o:=λb hb=>let ⟨o,e,_⟩:=T.obj 0 _ t0 b hb;⟨o,e⟩
 have na:a∉fp:=λhb=>by
  obtain⟨o,e⟩:=fobj a hb
  have:=Heap.lt_size e
  rw[hA] at this
  exact absurd this (Nat.lt_irrefl _)
 have f3:∀ b∈a::fp,ge X pins H2 b:=λb hb=>by
  rcases List.mem_cons.mp hb with rfl |hb
  ·exact fa
  ·exact f2 b hb
 have fo:∀ b∈a::fp,∃ o,s3.heap.get? b=some o:=λb hb=>by
  rcases List.mem_cons.mp hb with rfl |hb
  ·exact⟨_,a3⟩
  ·obtain⟨o,e⟩:=fobj b hb
   exact⟨o,by rw[hh3];exact k3 b o e⟩
 have k4:∀ b o,s3.heap.get? b=some o->h4.get? b=some o:=λb o e=>hsb4.extBut b o (Nat.ne_of_lt (Heap.lt_size e)) (Heap.get?_push_of_some _ e)
 have toks:∀ t,Inv (jy X scope cl (gK ts ix X.N) s3.heap.objs.size s3 H2 (a::fp)) [] (d4 ts.length ix σ) H2 { s3 with heap:=h4,toks:=t }:=λt=>I3.enter Sc h1 h2 hcap f3 fo k4 hn4
 obtain⟨sg,st,se⟩:=hin s3.heap.objs.size s3 H2 (a::fp)
 have fin:∀ (pins':List (Addr×Obj)) (H':Hp) (b:Addr),b∈a::fp->H' b=none->(∀ p∈pins',p.1≠b)->ge (jy X scope cl (gK ts ix X.N) s3.heap.objs.size s3 H2 (a::fp)) pins' H' b:=λpins' H' b hb hn hp=>by
  refine⟨hn,?_,λz=>?_,.inl hb,λx c e=>(f3 b hb).2.2.2.2.1 x c (h1 x c e),λp hq=>hp p hq⟩
  ·obtain⟨o,e⟩:=fo b hb
   exact Nat.ne_of_lt (Heap.lt_size e)
  ·obtain⟨_,f1,f2',_⟩:=f3 b hb
   rcases List.mem_cons.mp (I3.stkSub b z) with q |q
   ·exact f1 q
   ·exact f2' q
 have own:X.s₀.heap.objs.size<=s3.heap.objs.size/\s3.heap.objs.size≠X.env.locals/\(∀ x c,X.env.cells.lookup x=some c->c≠s3.heap.objs.size)/\∀ p∈X.pn++pins,p.1≠s3.heap.objs.size:=by
  obtain⟨_,g1,g2,g3,g4,g5⟩:=I3.fpOk (H':=λ_=>none) (Nat.le_refl s3.heap.objs.size) rfl
  exact⟨I3.sz,g1,g4,g5⟩
 have c3:Cf (jy X scope cl (gK ts ix X.N) s3.heap.objs.size s3 H2 (a::fp)) J0 (d4 ts.length ix ρ) S1 (d4 ts.length ix σ) H2:=by
  refine⟨by unfold d4;simp,λi d h=>?_,c2.sto⟩
  unfold d4 at h ⊢
  by_cases hi:i<ts.length
  ·rw[List.getElem?_append_left (by simpa using hi),List.getElem?_replicate,if_pos hi] at h
   cases h
  ·rw[List.getElem?_append_right (by simpa using hi),List.length_replicate,List.getElem?_map] at h ⊢
   cases et:ix[i-ts.length]? with
   |none=>rw[et] at h;cases h
   |some t =>
    rw[et] at h
    simp only[Option.map_some,Option.some.injEq] at h ⊢
    have hr : ρ[t]?=some (some d):=by
     cases q : ρ[t]? with
     |none=>rw[q] at h;cases h
     |some w=>rw[q] at h;simp only[Option.getD_some] at h;rw[h]
    obtain⟨v,e1,e2⟩:=c2.env t d hr
    exact⟨v,by rw[e1];rfl,e2⟩
 have w3:Walk (jy X scope cl (gK ts ix X.N) s3.heap.objs.size s3 H2 (a::fp)) Jt ds J0 H2:=⟨wk.len,wk.go,wk.yld,wk.stop⟩
 have loop:∀ t,codeAny (model X.prog X.w) X.A (.compLoop (.ListComp elt [⟨tg,iter,ifs,0⟩] scope pos) 0 (.ref it) (.ref a) (compEnvC scope cl s3.heap.objs.size X.env)) (RR (.ref a) s3.heap.objs.size) { s3 with heap:=h4,toks:=t }:=by
  intro t
  refine n_ _ (uN (R:=RR (.ref a) s3.heap.objs.size) (S2:=S2) (out:=out) (X':=jy X scope cl (gK ts ix X.N) s3.heap.objs.size s3 H2 (a::fp)) rfl hc sg st se T w3 na wk.len fin ?_) (ds.length+1) ?_
  ·intro s' σ' H' Jx ρx ys us ep I' ex cx ha ga vs ad lz
   refine hRR a s3.heap.objs.size s' ⟨let ⟨m,hm,_⟩:=I'.loc;⟨m,hm⟩,own,λh' k=>?_⟩
   have I4:=I3.leave f3 I' k
   have ga':h'.get? a=some { cls:=.type "list",data:=.seq us.toArray ep }:=by
    rw[k a (by rw[sz3];exact Nat.ne_of_lt (Nat.lt_succ_self _))];exact ga
   have fa':ge X pins H' a:=⟨ha,fa.2⟩
   have I5:=I4.adopt fa' ga' vs lz
   have sm:Same H' (upd H' a (.lst ys)):=aJ ha _
   have hC:H' s3.heap.objs.size=none:=I'.free
   refine⟨Jx,_,I5,ex.trans (Ex.same sm),cx.sto.same sm,At.newLst ad ha cx.sto.all lz,?_⟩
   rw[au (by rw[sz3];exact Nat.ne_of_gt (Nat.lt_succ_self _))]
   exact hC
  ·refine⟨0,_,H2,J0,d4 ts.length ix ρ,S1,[],out,[],[],0,rfl,Nat.zero_le _,toks t,?_,λb hb=>(f3 b hb).1,Ex.refl,c3,k4 a _ a3,.nil,.nil,Nat.le_refl _,by simpa using ec,rfl⟩
   exact T.keep 0 _ _ t0 λb hb o e=>k4 b o (by rw[hh3];exact k3 b o e)
 have L:=loop (s2.toks+([]:List (Str×Value)).length)
 have t4:tn 0 h4:=T.keep 0 _ _ t0 λb hb o e=>k4 b o (by rw[hh3];exact k3 b o e)
 rw[hs3] at L
 exact codeAny_compStart_list L (T.self _ 0 _ _ _ t4 L)
def Bb (X:Cx)(scope:Scope)(ts:List Str)(ix:List Nat)(tg:Expr)(ifs:List Expr)(elt:Expr)(u:D->Rho->Option Rho)(gt:Rho->Sto->Out Bool)(fe:Rho->Sto->Out D):Prop:=
 ∀ (cl:List (Str×Addr)) (C:Addr) (s3:Shared) (H3:Hp) (fp:List Addr),SG (jy X scope cl (gK ts ix X.N) C s3 H3 fp) tg u/\STs (jy X scope cl (gK ts ix X.N) C s3 H3 fp) W0 ifs gt/\SE (jy X scope cl (gK ts ix X.N) C s3 H3 fp) W0 elt fe
theorem lv {scope:Scope}{pins:List (Addr×Obj)}{σ:St}{H:Hp}{s:Shared}(I:Inv X pins σ H s)(Sc:InScope scope X.env):∃ cl,closureFor scope X.env=pure cl/\(∀ x c,cl.lookup x=some c->X.env.cells.lookup x=some c)/\(∀ y∈scope.names,y.2 = .free->∃ c,cl.lookup y.1=some c):=by
 obtain⟨cl,e,h1,_,h3⟩:=cX (env:=X.env) scope.names [] (λy hy hf=>I.ok.has y.1 (Sc.frees y hy hf)) (by simp)
 refine⟨cl,?_,h1,h3⟩
 unfold closureFor
 exact (congrArg (λ(m:Sem (List (Str×Addr)))=>m >>= λr=>(pure r:Sem (List (Str×Addr)))) e).trans rfl
theorem mX {fi:Rho->Sto->Out (List D)}{u:D->Rho->Option Rho}{gt:Rho->Sto->Out Bool}{fe:Rho->Sto->Out D}{n:Nat}{ix:List Nat}{σ:St}{H:Hp}{Q:VK}(h:tE X W (gQ n ix fi u gt fe) σ H Q) :
  iW X W fi σ H λJt H0 => ∃ J0 ρ S1 S2 ds out,Cf X J0 ρ S1 σ H0/\Walk X Jt ds J0 H0/\dO u gt fe ds (d4 n ix ρ) S1=some (out,S2)/\∀ J' H' v,Ex J0 H0 J' H'->StoOk X.K J' S2 H'->At X.K H' J' (.lst out) v->Q v H':=by
 obtain⟨J,ρ,S,r,S',c,_,e,z⟩:=h
 unfold gQ at e
 cases q:fi ρ S with
 |none=>simp[q] at e
 |some o =>
  obtain⟨ro,S1⟩:=o
  simp only[q] at e
  cases ro with
  |error x =>
   cases e
   exact⟨J,ρ,S,.error x,_,c,q,z⟩
  |ok ds =>
   simp only[h8] at e
   cases qc:dO u gt fe ds (d4 n ix ρ) S1 with
   |none=>rw[qc] at e;cases e
   |some p =>
    obtain⟨out,S2⟩:=p
    rw[qc] at e
    cases e
    exact⟨J,ρ,S,.ok ds,S1,c,q,λJ0 H0 Jt x0 s0 w=>⟨J0,ρ,S1,_,ds,out,c.re x0 s0,w,qc,λJ' H' v x' s' m'=>z J' H' v (x0.trans x') s' m'⟩⟩
theorem j7 {tg iter elt:Expr}{ifs:List Expr}{scope:Scope}{pos:Pos}{fi:Rho->Sto->Out (List D)}{u:D->Rho->Option Rho}{gt:Rho->Sto->Out Bool}{fe:Rho->Sto->Out D}{ts:List Str}{ix:List Nat}
  (hc:X.calm=true) (Sc:InScope scope X.env) (hcap:∀ t∈ix,scope.names.lookup (X.N.getD t Str.empty)=some .free) (hi:SI X W tg iter fi) (hin:Bb X scope ts ix tg ifs elt u gt fe)
  (hs:∀ x,foldedSetIterable iter X.env x=pure x:=by intro _;rfl):SE X W (.ListComp elt [⟨tg,iter,ifs,0⟩] scope pos) (gQ ts.length ix fi u gt fe):=by
 intro pins s σ H Q I h
 obtain⟨cl,hcl,h1,h2⟩:=lv I Sc
 rw[eval_ListComp]
 refine wpAny_comprehension_free (use:=none) rfl hs hcl Sc.kind Sc.names ?_
 refine thn (hi pins s σ H _ I (mX h)) λv s1 h1'=>thn h1' λitv s2 h2'=>?_
 obtain⟨it,fp,tn,Jt,H2,e,I2,T,t0,f2,J0,ρ,S1,S2,ds,out,c2,wk,ec,fin⟩:=h2'
 subst e
 refine mY hc Sc h1 h2 hcap (λC s3 H3 fp=>hin cl C s3 H3 fp) I2 T t0 f2 c2 wk ec λa C s' ce=>?_
 obtain⟨m,hm⟩:=ce.ns
 refine⟨m,hm,λh' sb=>?_⟩
 obtain⟨J',H',I',x',s',m',_⟩:=ce.fin h' λb hb=>sb.2 b hb
 exact⟨.ref a,H',I',rfl,fin J' H' _ x' s' m'⟩
end
section
variable {X:Cx}{W:WT}
theorem qG {tg iter elt:Expr}{ifs:List Expr}{scope:Scope}{pos spos py:Pos}{fi:Rho->Sto->Out (List D)}{u:D->Rho->Option Rho}{gt:Rho->Sto->Out Bool}{fe:Rho->Sto->Out D}{ts:List Str}{ix:List Nat}{i:Nat}{y:Str}
  (hN:X.N.Nodup) (hc:X.calm=true) (Sc:InScope scope X.env) (hcap:∀ t∈ix,scope.names.lookup (X.N.getD t Str.empty)=some .free) (hi:SI X W tg iter fi) (hin:Bb X scope ts ix tg ifs elt u gt fe)
  (hy:X.N[i]?=some y:=by rfl) (hx:Loc X.env.scope y:=by first |exact Or.inl rfl |exact Or.inr rfl) (hsw:swapsWith (.ListComp elt [⟨tg,iter,ifs,0⟩] scope pos) (some (.Name y py)) spos.line X.env=pure true:=by rfl)
  (hf:X.fn y=true∨X.env.scope.names.lookup y=some .local:=by first |exact .inl rfl |exact .inr rfl |assumption)
  (hs:∀ x,foldedSetIterable iter X.env x=pure x:=by intro _;rfl):SS X W (.Assign [.Name y py] (.ListComp elt [⟨tg,iter,ifs,0⟩] scope pos) spos) (bI i (gQ ts.length ix fi u gt fe)):=by
 intro pins s σ H E I h
 obtain⟨cl,hcl,h1,h2⟩:=lv I Sc
 have h:=tS.bindE h
 rw[exec_Assign_Name_used _ _ _ _ hsw]
 refine wpAny_bind (wpAny_standAt (wpAny_bind ?_))
 show wpAny _ X.A (do let _ ← comprehension (.ListComp elt [⟨tg,iter,ifs,0⟩] scope pos) scope X.env _ (newList []) false (eval iter X.env) (some (assign (.Name y py) X.env))) _ _ s
 refine wpAny_bind (wpAny_mono (wpAny_comprehension_free (use:=some (assign (.Name y py) X.env)) (Q:=λ_ s'=>SP X pins E .next s') rfl hs hcl Sc.kind Sc.names ?_) (λ_ s' hq=>wpAny_pure (wpAny_pure hq)) λ_ _ e=>e)
 refine thn (hi pins s σ H _ I (mX h)) λv s1 h1'=>thn h1' λitv s2 h2'=>?_
 obtain⟨it,fp,tn,Jt,H2,e,I2,T,t0,f2,J0,ρ,S1,S2,ds,out,c2,wk,ec,fin⟩:=h2'
 subst e
 refine mY hc Sc h1 h2 hcap (λC s3 H3 fp=>hin cl C s3 H3 fp) I2 T t0 f2 c2 wk ec λa C s' ce=>?_
 obtain⟨m,hm⟩:=ce.ns
 obtain⟨o1,o2,o3,o4⟩:=ce.own
 obtain⟨J',H',I',x',st',m',hC⟩:=ce.fin s'.heap λ_ _=>rfl
 have I'':Inv X pins σ H' s':=I'
 have q:=fin J' H' _ x' st' m'
 show wpAny _ X.A (assign (.Name y py) X.env (.ref a)) _ _ s'
 refine wpAny_assign_Name (mj I'' hN hy hx (v:=.ref a) rfl (λs3 I3 ⟨ad,sb,hd⟩=>?_) hf)
 have nad:C≠ad:=by
  rcases hd with z |z
  ·rw[z];exact o2
  ·exact (o3 y ad z).symm
 refine⟨m,hm.sameBut sb nad,λh' sb'=>?_⟩
 have I4:Inv X pins (σ.set i (some (.ref a))) H' { s3 with heap:=h' }:=I3.turned (t':=s3.toks) (it:=C) (λb o hb e=>(sb'.2 b hb).trans e) hC o2 (.inr o1) o3 o4
 obtain⟨Jq,ρq,Sq,dq,rq,Sq',cq,mq,eq,zq⟩:=q
 cases eq
 exact⟨_,H',I4,zq Jq _ H' Ex.refl (cq.set mq)⟩
def spD (K:PySem.W.Frag)(F:List D->Sto->Out D):Sp:=λvs H Q _ => ∃ J S ds d S',Ats K H J ds vs/\StoOk K J S H/\F ds S=some (.ok d,S')/\∀ J' H' v,Ex J H J' H'->StoOk K J' S' H'->At K H' J' d v->Q v H'
def FnD (P:Program)(w:World)(K:PySem.W.Frag)(mg:Str->Option Value)(base:Heap)(k:Nat)(f:Addr)(fd:FuncData)(ps:List Str)(F:List D->Sto->Out D):Prop:=
 FnOk P w K mg base CX0 k f fd ps (spD K F)
def gO (m:Out D):Out D:=match m with
 |some (.ok d,S)=>some (.ok d,S)
 |_=>none
def bi (F:List D->Sto->Out D)(t:Rho->Sto->Out (List D)):Rho->Sto->Out D:=λρ S=>ae (t ρ S) λds S1=>gO (F ds S1)
variable {x:Str}{p pos:Pos}{e:Expr}{es:List Expr}{gs:Rho->Sto->Out (List D)}
theorem wo {F:List D->Sto->Out D}{σ:St}{H:Hp}{Q:VK}{Ex':XK}(h:tE X W (bi F gs) σ H Q):ye (spD X.K F) [] Ex' (tA X W gs) σ H Q:=
 (tG.bindA h).mono λus H1 ⟨ds,hl,h1⟩=>by
  rw[List.append_nil,List.append_nil] at h1
  obtain⟨J,ρ,S,r,S',c,m,e,z⟩:=h1
  have e:gO (F ds S)=some (r,S'):=e
  unfold gO at e
  split at e
  ·rename_i d S2 q
   cases e
   exact⟨J,S,ds,d,_,by rw[List.append_nil];exact m,c.sto,q,λJ' H' v x' s' m'=>z J' H' v x' s' m'⟩
  ·cases e
theorem xc {k:Nat}{f:Addr}{fd:FuncData}{ps:List Str}{F:List D->Sto->Out D}(G:FnD X.prog X.w X.K X.mg X.base k f fd ps F)(hr:Room k X.A)(hm:X.mg x=some (.ref f))(hk:PySem.W.keepIn X.K (.ref f)=true)(hb:Binds X.K fd ps [])
  (ha:SA X W (e::es) gs) (hg:Gl X x:=by rfl) (hdb:(x==("__debug__":Str))=false:=by decide) (he:starEach (e::es) X.env=(false,eval e X.env)::starEach es X.env:=by rfl) (hpl:(backTo pos (starEach es X.env)).any (·.1)=false:=by rfl) :
  SE X W (.Call (.Name x p) (e::es) [] pos) (bi F gs):=
 PE.imp (xw (E:=E0) G hr hg hm hk hb .nil vF ha hdb he hpl) λσ H Q h=>wo h
theorem sZ {P:Program}{w:World}{K:PySem.W.Frag}{mg:Str->Option Value}{base:Heap}{x qual:Str}{st:Stmt}{f:Addr}{fd:FuncData}{N ps:List Str}{k:Nat}{F:List D->Sto->Out D}(Fn:Fun K x qual st f fd)(S:FnScope N ps (al st))
  (len:∀ ds S r,F ds S=some r->ds.length=ps.length)
  (hbody:∀ (cdv:Value) (A:Around) (outer:List Env) (s:Shared) (H:Hp) (E:XK),Room k (A.deeper (envOfC qual (al st) s.heap.objs.size f cdv)) ->
   ∃ G:Rho->Sto->Out Fl,SSs (j1 CX0 P w K mg base N qual (al st) f cdv A outer s H E).nox W0 (bd st) G /\
    ∀ ds S d S',F ds S=some (.ok d,S')->∃ r,G (ds.map some++List.replicate (N.length-ds.length) none) S=some (.ok r,S')/\(r = .ret d∨(d = .non/\∃ ρ,r = .next ρ))) :
  FnD P w K mg base (k+1) f fd ps F:=by
 refine Fn.ok S (λvs H Q E h=>?_) (λcdv A outer s H vs Q E hr h=>?_)
 ·obtain⟨J,St,ds,d,S',m,_,e,_⟩:=h
  rw[← m.length];exact len ds St _ e
 ·obtain⟨J,St,ds,d,S',m,so,e,z⟩:=h
  obtain⟨G,hG,hF⟩:=hbody cdv A outer s H E hr
  obtain⟨r,eG,er⟩:=hF ds St d S' e
  refine⟨_,hG,J,_,St,.ok r,S',⟨?_,λi d' hd=>?_,so⟩,eG,?_⟩
  ·unfold start
   rw[List.length_append,List.length_append,List.length_map,List.length_map,m.length]
   simp
  ·by_cases hi:i<ds.length
   ·rw[List.getElem?_append_left (by simpa using hi),List.getElem?_map] at hd
    cases q:ds[i]? with
    |none=>rw[q] at hd;cases hd
    |some d0 =>
     rw[q] at hd
     cases hd
     obtain⟨v,ev,av⟩:=m.get q
     refine⟨v,?_,av⟩
     unfold start
     rw[List.getElem?_append_left (by rw[List.length_map,← m.length];exact hi),List.getElem?_map,ev]
     rfl
   ·rw[List.getElem?_append_right (by simpa using hi),List.getElem?_replicate] at hd
    split at hd<;>cases hd
  ·rcases er with rfl |⟨rfl,ρ,rfl⟩
   ·exact λJ' H' v x' s' a'=>z J' H' v x' s' a'
   ·exact λJ' σ' H' x' c'=>z J' H' _ x' c'.sto (At.non_iff.mpr rfl)
end
section
variable {X:Cx}{W:WT}
def Its (x:Str):It:=⟨λi _=>i<x.cps.size,λi H v H'=>H'=H/\∃ c,x.cps[i]?=some c/\v = .str ⟨#[c]⟩,λi _=>x.cps.size<=i⟩
theorem oM {P:Program}{w:World}{K:PySem.W.Frag}{tg:Expr}{it:Addr}{x:Str}{St:Nat->Heap->Prop}
  (hself:∀ (A:Around) (i:Nat) (s:Shared) (Q:Value->Shared->Prop) (E:Value->Shared->Prop),St i s.heap->Q (.ref it) s->wpAny (model P w) A (pyIter (.ref it)) Q E s) (Wk:∀ A':Around,A'.handled=none->Walks P w A' it [it] [it] x.cps.size (SignAt x) St) (hob:∀ i h,St i h->∃ o n vs,h.get? it=some o/\o.cls = .type n/\o.data = .fields vs/\["enumerate","zip","dict_itemiterator","dict_reverseitemiterator","odict_iterator","itertools.zip_longest","itertools.pairwise"].contains n=false) :
  Turn P w K tg (Its x) [it] it (λi h=>i<=x.cps.size/\St i h) where
 mem:=by simp
 obj:=λi h st b hb=>by
  have e:b=it:=by simpa using hb
  subst e
  obtain⟨o,n,vs,e,_,d,_⟩:=hob i h st.2
  exact⟨o,e,λv z=>by rw[d] at z;cases z⟩
 keep:=λi h h' st k=>⟨st.1,(Wk callerA rfl).frame i h h' st.2 λb hb o e=>k b hb o e⟩
 item:=by
  intro X hP hw hK hc i pins s σ H E I hf st hg
  subst hP hw hK
  obtain⟨f0,f1,f2,f3,f4,f5⟩:=hf it (by simp)
  refine (Wk X.A (I.ok.hd hc)).item i s _ _ hg st.2 λv h' tk sg st' k=>?_
  obtain⟨c,u,ec,ev⟩:=sg
  subst ev
  have I1:Inv X pins σ H { s with heap:=h',toks:=tk }:=I.turned (t':=tk) (λb o hb e=>k b o (by simpa using hb) e) f0 f1 f3 f4 f5
  obtain⟨o,n,vs,e,cc,d,hn⟩:=hob _ _ st'
  exact⟨_,rfl,sT (s:={ s with heap:=h',toks:=tk }) e cc d hn ⟨.str ⟨#[c]⟩,H,I1,⟨u,rfl⟩,⟨rfl,c,ec,rfl⟩,⟨hg,st'⟩,λb hb=>(hf b hb).1⟩⟩
 done:=by
  intro X hP hw hK hc i pins s σ H E I hf st hg
  subst hP hw hK
  obtain⟨f0,f1,f2,f3,f4,f5⟩:=hf it (by simp)
  have ei:i=x.cps.size:=Nat.le_antisymm st.1 hg
  subst ei
  exact (Wk X.A (I.ok.hd hc)).done s _ _ st.2 λh' tk k=>⟨rfl,I.turned (t':=tk) (λb o hb e=>k b o (by simpa using hb) e) f0 f1 f3 f4 f5⟩
 self:=λA i s Q E st h=>hself A i s Q E st.2 h
theorem Walk.str {x:Str}{J:List Addr}{H:Hp}(ok:okS x):Walk X (Its x) (x.cps.toList.map λc=>D.str ⟨#[c]⟩) J H where
 len:=by rw[List.length_map,Array.length_toList];exact ok.1
 go:=λJ1 H1 i _ hi=>by rw[List.length_map,Array.length_toList] at hi;exact hi
 yld:=λJ1 H1 i v H' _ hJ hi y=>by
  obtain⟨rfl,c,ec,rfl⟩:=y
  rw[List.length_map,Array.length_toList] at hi
  have ec':x.cps.toList[i]?=some c:=by simpa using ec
  refine⟨.str ⟨#[c]⟩,by rw[List.getElem?_map,ec'];rfl,At.str_iff.mpr ⟨rfl,by show 1<=sizeLine;decide,ip (l:=[c]) λc' m=>?_⟩,Same.refl _⟩
  rw[List.mem_singleton.mp m]
  exact gh ok.2 (List.mem_of_getElem? ec')
 stop:=λJ1 H1 i _ hi=>by rw[List.length_map,Array.length_toList] at hi;exact hi
def yF:D->Option (List D)
 | .str x=>some (x.cps.toList.map λc=>D.str ⟨#[c]⟩)
 |_=>none
def ww (f:Rho->Sto->Out D):Rho->Sto->Out (List D):=λρ S=>ae (f ρ S) λd S1=>aE (yF d) S1
variable {e:Expr}{fe:Rho->Sto->Out D}{pos:Pos}
theorem yI {tg:Expr}(he:SE X W e fe):SI X W tg e (ww fe):=by
 intro pins s σ H R I h
 refine thn (he pins s σ H _ I (nW h)) λv s1 ⟨y,H1,I1,r1,J,S,d,ds,so,m,hk,z⟩=>?_
 cases d with
 |str x =>
  cases hk
  obtain⟨ey,ok⟩:=At.str_iff.mp m
  subst ey
  obtain⟨t,rfl⟩:=r1
  have fp:∀ b∈[s1.heap.objs.size],ge X pins H1 b:=λb hb=>by
   have e:b=s1.heap.objs.size:=by simpa using hb
   subst e
   exact I1.fpOk (Nat.le_refl _) I1.fresh
  cases ha:x.cps.all (·<128)
  ·refine wpAny_pyIter_wide ha ?_
   refine⟨s1.heap.objs.size,[s1.heap.objs.size],_,Its x,H1,rfl,I1.kept (t':=s1.toks) λb o e=>Heap.get?_push_of_some _ e,oM (St:=λi h=>h.IsStrIter s1.heap.objs.size "str_iterator" x t i) (λA i s Q E st q=>wpAny_pyIter_striter_wide st q) (λA' hA=>Walks.strWide hA _ x t) (λi h st=>?_),⟨Nat.zero_le _,_,Heap.get?_push_size _ rfl,rfl,rfl⟩,fp,z H1 _ (Same.refl _) (Walk.str ok)⟩
   obtain⟨o,ho,hc,hd⟩:=st
   exact⟨o,_,_,ho,hc,hd,by decide⟩
  ·refine wpAny_pyIter_ascii ha ?_
   refine⟨s1.heap.objs.size,[s1.heap.objs.size],_,Its x,H1,rfl,I1.kept (t':=s1.toks) λb o e=>Heap.get?_push_of_some _ e,oM (St:=λi h=>h.IsStrIter s1.heap.objs.size "str_ascii_iterator" x t i) (λA i s Q E st q=>wpAny_pyIter_striter_ascii st q) (λA' hA=>Walks.strAscii hA _ x t) (λi h st=>?_),⟨Nat.zero_le _,_,Heap.get?_push_size _ rfl,rfl,rfl⟩,fp,z H1 _ (Same.refl _) (Walk.str ok)⟩
   obtain⟨o,ho,hc,hd⟩:=st
   exact⟨o,_,_,ho,hc,hd,by decide⟩
 |_=>cases hk
theorem iH {prog:Program}{w:World}{A:Around}{E:Value->Shared->Prop}{s:Shared}{it l:Addr}{i:Nat}{items}{x:Value}{Q:Value->Shared->Prop}(hit:s.heap.IsTupleIter it l i)
  (hl:s.heap.IsTuple l items) (hx:items[i]?=some x)
  (hQ:∀ h',h'.IsTupleIter it l (i+1)->Heap.SameBut it s.heap h'->Q x { s with heap:=h' }) :
  wpAny (model prog w) A (Builtin.SmallTypes.nextOf (.ref it)) Q E s:=by
 obtain⟨o,ho,hc,hd⟩:=id hit
 obtain⟨ol,hol,_,nl,hdl⟩:=hl
 unfold Builtin.SmallTypes.nextOf
 refine wpAny_bind (wpAny_callSpecial?_slot (name:=Str.ofString "__next__") hit.typeIs F.slot_tuple_iterator_next
  (wpAny_call_entry F.slot_tuple_iterator_next hit.typeIs F.entry_tuple_iterator_next ?_ (F.args_tuple_iterator_next_1 _)))
 show wpAny _ _ (field (.ref it) 0 >>= _) _ _ s
 refine wpAny_bind (wpAny_field ho hd (x:=.ref l) rfl ?_)
 show wpAny _ _ (if (Value.ref l==Value.none)=true then _ else _) _ _ s
 rw[if_neg (show ¬ ((Value.ref l==Value.none)=true) from Bool.false_ne_true)]
 show wpAny _ _ (field (.ref it) 1 >>= _) _ _ s
 refine wpAny_bind (wpAny_field ho hd (x:=.int i 0) rfl ?_)
 show wpAny _ _ (seqItems? (.ref l) >>= _) _ _ s
 refine wpAny_bind (wpAny_seqItems hol hdl ?_)
 simp only[Int.toNat_natCast,hx]
 refine wpAny_bind (wpAny_setField ho hd (by simp) (wpAny_pure ⟨x,rfl,wpAny_pure (hQ _ ?_ (Heap.SameBut.update ..))⟩))
 exact⟨_,Heap.get?_update_self _ ho (Obj.isFreed_of_fields (Obj.data_mapFields hd _)),(Obj.cls_mapFields ..).trans hc,by
  rw[Obj.data_mapFields hd];simp[rawInt]⟩
theorem eI {prog:Program}{w:World}{A:Around}{E:Value->Shared->Prop}{s:Shared}{it l:Addr}{i:Nat}{items}{Q:Value->Shared->Prop}(hh:A.handled=none)
  (hit:s.heap.IsTupleIter it l i) (hl:s.heap.IsTuple l items) (hx:items[i]?=none)
  (hE:∀ h' e,Heap.ExtBut it s.heap h'->(∃ o,h'.get? e=some o/\o.cls = .type "StopIteration")->E (.ref e) { s with heap:=h' }) :
  wpAny (model prog w) A (Builtin.SmallTypes.nextOf (.ref it)) Q E s:=by
 obtain⟨o,ho,hc,hd⟩:=id hit
 obtain⟨ol,hol,_,nl,hdl⟩:=hl
 unfold Builtin.SmallTypes.nextOf
 refine wpAny_bind (wpAny_callSpecial?_slot (name:=Str.ofString "__next__") hit.typeIs F.slot_tuple_iterator_next
  (wpAny_call_entry F.slot_tuple_iterator_next hit.typeIs F.entry_tuple_iterator_next ?_ (F.args_tuple_iterator_next_1 _)))
 show wpAny _ _ (field (.ref it) 0 >>= _) _ _ s
 refine wpAny_bind (wpAny_field ho hd (x:=.ref l) rfl ?_)
 show wpAny _ _ (if (Value.ref l==Value.none)=true then _ else _) _ _ s
 rw[if_neg (show ¬ ((Value.ref l==Value.none)=true) from Bool.false_ne_true)]
 show wpAny _ _ (field (.ref it) 1 >>= _) _ _ s
 refine wpAny_bind (wpAny_field ho hd (x:=.int i 0) rfl ?_)
 show wpAny _ _ (seqItems? (.ref l) >>= _) _ _ s
 refine wpAny_bind (wpAny_seqItems hol hdl ?_)
 simp only[Int.toNat_natCast,hx]
 refine wpAny_bind (wpAny_rule (wpAny_bind (wpAny_setField ho hd (by simp) ?_)))
 show wpAny _ _ (newExc (.type "StopIteration") [] >>= _) _ _ _
 refine wpAny_bind ?_
 simp only[newExc,newTuple]
 refine wpAny_bind (wpAny_newObj_type ?_ (by size_fits))
 refine wpAny_bind (m:=firstArgMember _ _) (wpAny_of_eq (a:=Value.none) (by first |rfl |(simp only[firstArgMember];rfl)) ?_)
 refine wpAny_newObj_type ?_ (by size_fits)
 simp only[raiseNew]
 refine wpAny_bind (wpAny_handled ?_)
 first |rw[show A.in1.handled=none from hh] |rw[hh]
 refine wpAny_bind (wpAny_pure (wpAny_throw ?_))
 exact hE _ _ (((Heap.SameBut.update ..).extBut.push _).push _) ⟨_,Heap.get?_push_size _ rfl,rfl⟩
theorem Draws.tup {prog:Program}{w:World}{A:Around}(hh:A.handled=none)(it l:Addr)(hne:l≠it)(items:Array Value) :
  Draws prog w A it [it,l] items.size (λi v=>items[i]?=some v) (λi h=>h.IsTupleIter it l i/\h.IsTuple l items) where
 live:=λ_ _ st=>let ⟨o,ho,_⟩:=st.1;⟨o,ho⟩
 frame:=λ_ _ _ st hk=>⟨let ⟨o,ho,r⟩:=st.1;⟨o,hk it (by simp) o ho,r⟩,let ⟨o,ho,r⟩:=st.2;⟨o,hk l (by simp) o ho,r⟩⟩
 item:=λi s Q E hi st hQ=>by
  refine iH st.1 st.2 (x:=items[i]) (by simp[hi]) λh' hit' hs'=>?_
  exact hQ _ h' s.toks (by simp[hi]) ⟨hit',st.2.extBut hs'.extBut hne⟩ hs'
 done:=λs Q E st hE=>eI hh st.1 st.2 (by simp) hE
theorem k6 (l:Addr)(items:Array Value)(n:Nat)(dct:Option Addr)(sl:Array (Option Value)) :
  Meets (Builtin.«enumerate.__new__» ⟨[.type "enumerate",.ref l],[]⟩) (λ_ R s=>s.heap.get? l=some { cls:=.type "tuple",dict:=dct,data:=.seq items n,slots:=sl } /\
   R (.ok (.ret (.ref (s.heap.push { cls:=.type "tuple_iterator",data:=.fields #[.ref l,.int 0 0] }).objs.size)))
    { s with heap:=(s.heap.push { cls:=.type "tuple_iterator",data:=.fields #[.ref l,.int 0 0] }).push { cls:=.type "enumerate",data:=.fields #[.none,.bool false,.ref s.heap.objs.size,rawInt 0,.none,.none] } }):=
 .of_wp λprog w A R s h=>by
  obtain⟨hp,g,d,tk,os⟩:=s;obtain⟨hl,h⟩:=h
  have hsub:=sub_enumerate
  have hL:Heap.IsTuple (Shared.heap ⟨hp,g,d,tk,os⟩) l items:=⟨_,hl,rfl,n,rfl⟩
  wp_walk using AutoSeq1.wpAny_loadPart' hl
  refine wpAny_stack_any λst=>wpAny_pure ?_
  split
  ·rename_i c _ _ _ _ _
   cases (c==Value.type "enumerate")
   ·wp_walk using AutoSeq1.wpAny_loadPart' hl,wpAny_pyIter_tuple hL
    exact⟨_,rfl,h⟩
   ·wp_walk using AutoSeq1.wpAny_loadPart' hl,wpAny_pyIter_tuple hL
    exact⟨_,rfl,h⟩
  ·wp_walk using AutoSeq1.wpAny_loadPart' hl,wpAny_pyIter_tuple hL
   exact⟨_,rfl,h⟩
theorem lZ {prog:Program}{w:World}{A:Around}{E:Value->Shared->Prop}{s:Shared}{l:Addr}{items:Array Value}{Q:Value->Shared->Prop}(hL:IsTup s.heap l items)
  (h:∀ h',IsEnum h' (s.heap.objs.size+1) s.heap.objs.size 0 .none->h'.IsTupleIter s.heap.objs.size l 0->h'.objs.size=s.heap.objs.size+2 ->
   (∀ b o,s.heap.get? b=some o->h'.get? b=some o)->Q (.ref (s.heap.objs.size+1)) { s with heap:=h' }) :
  wpAny (model prog w) A (call (.type "enumerate") [.ref l]) Q E s:=by
 obtain⟨⟨c,dct,dt,sl⟩,hl,hc,n,hd⟩:=hL
 replace hc:c = .type "tuple":=hc
 replace hd:dt = .seq items n:=hd
 subst hc hd
 refine callType_new F.called_enumerate (by decide) (F.typeCall_enumerate_1 _) (F.newCall_enumerate_1 _) (λobj=>F.args_object_init_2 obj _) F.entry_enumerate_new
  (k6 l items n dct sl) ⟨hl,?_⟩
 have hz:(s.heap.push { cls:=.type "tuple_iterator",data:=.fields #[.ref l,.int 0 0] }).objs.size=s.heap.objs.size+1:=Heap.size_push ..
 show _/\_
 rw[hz]
 have he:IsEnum ((s.heap.push { cls:=.type "tuple_iterator",data:=.fields #[.ref l,.int 0 0] }).push
   { cls:=.type "enumerate",data:=.fields #[.none,.bool false,.ref s.heap.objs.size,rawInt 0,.none,.none] }) (s.heap.objs.size+1) s.heap.objs.size 0 .none:=by
  have:=Heap.get?_push_size (s.heap.push { cls:=.type "tuple_iterator",data:=.fields #[.ref l,.int 0 0] })
   (o:={ cls:=.type "enumerate",data:=.fields #[.none,.bool false,.ref s.heap.objs.size,rawInt 0,.none,.none] }) rfl
  rw[hz] at this;exact this
 refine⟨⟨_,he,rfl⟩,h _ he ⟨_,Heap.get?_push_of_some _ (Heap.get?_push_size _ rfl),rfl,rfl⟩ (by rw[Heap.size_push,hz]) λb o x=>Heap.get?_push_of_some _ (Heap.get?_push_of_some _ x)⟩
theorem gI {prog:Program}{w:World}{A:Around}{E:Value->Shared->Prop}{s:Shared}{e it l:Addr}{i:Nat}{items:Array Value}{old:Value}{Q:Option Value->Shared->Prop}(hh:A.handled=none)
  (he:IsEnum s.heap e it i old) (hit:s.heap.IsTupleIter it l i) (hl:s.heap.IsTuple l items) (hx:items[i]?=none)
  (hQ:∀ h',Heap.ExtBut it s.heap h'->Q none { s with heap:=h' }):wpAny (model prog w) A (pyNext (.ref e)) Q E s:=by
 have hT:s.TypeIs (.ref e) "enumerate":=⟨_,he,rfl⟩
 unfold pyNext
 refine wpAny_bind (wpAny_attempt (wpAny_callSpecial?_slot (name:=Str.ofString "__next__") hT F.slot_enumerate_next
  (wpAny_call_entry F.slot_enumerate_next hT F.entry_enumerate_next ?_ (F.args_enumerate_next_1 _))))
 show wpAny _ _ (field (.ref e) 2 >>= _) _ _ _
 refine wpAny_bind (wpAny_field he rfl (x:=.ref it) rfl ?_)
 refine wpAny_bind (eI hh hit hl hx λh' x he' hx'=>?_)
 obtain⟨o,ho,hc⟩:=hx'
 refine wpAny_bind (wpAny_isInstance (T:="StopIteration") (b:=true) ⟨o,ho,hc⟩ isSubtype_stop ?_)
 exact wpAny_pure (hQ _ he')
def Ite (K:PySem.W.Frag)(a:Addr):It:=
 ⟨λi H => ∃ xs x,SqT K H a xs/\xs[i]?=some x,λi H x H' => ∃ p y,H p=none/\x = .ref p/\H'=upd H p (.tup [.int i,y])/\∀ xs,SqT K H a xs->xs[i]?=some y,λi H => ∃ xs,SqT K H a xs/\xs.length<=i⟩
theorem tV {P:Program}{w:World}{K:PySem.W.Frag}{es:List Expr}{k:Nat}{pt:Pos}(a e it:Addr)(hei:e≠it)(hae:a≠e)(hai:a≠it):Turn P w K (.Tuple es k pt) (Ite K a) [e,it] e (λi h=>(∃ old,IsEnum h e it i old)/\h.IsTupleIter it a i) where
 mem:=by simp
 obj:=λi h st b hb=>by
  obtain⟨⟨old,he⟩,o,ho,hc,hd⟩:=st
  rcases List.mem_cons.mp hb with rfl |hb
  ·exact⟨_,he,λv z=>by cases z⟩
  ·have:b=it:=by simpa using hb
   subst this
   exact⟨o,ho,λv z=>by rw[hd] at z;cases z⟩
 keep:=λi h h' st kp=>by
  obtain⟨⟨old,he⟩,o,ho,r⟩:=st
  exact⟨⟨old,kp e (by simp) _ he⟩,o,kp it (by simp) o ho,r⟩
 item:=by
  intro X hP hw hK hc i pins s σ H E I hf st hg
  subst hP hw hK
  obtain⟨xs,x,hq,hx⟩:=hg
  obtain⟨its,rv,p,hz⟩:=I.tuple hq
  obtain⟨u,hu,ru⟩:=rv.get hx
  obtain⟨⟨old,he⟩,hit⟩:=st
  have hlt:i<its.toArray.size:=by
   rw[List.size_toArray];exact (List.getElem?_eq_some_iff.mp hu).1
  refine wpAny_pyNext_enum_itemD (Draws.tup (A:=X.A.in1) (I.ok.hd hc) it a hai its.toArray) he ⟨hit,p⟩ hlt hei (by simp[hei,Ne.symm hae]) λy h' tk hP ho hs' hT hsz hk=>?_
  have ey:y=u:=by
   have:its.toArray[i]?=some u:=by simpa using hu
   rw[this] at hP
   exact (Option.some.inj hP).symm
  subst ey
  refine⟨_,rfl,wpAny_letOwnedTupleGo_enum (s:={ s with heap:=h',toks:=tk+1 }) ho λh2 he2 sb2=>?_⟩
  have hn:H s.heap.objs.size=none:=I.fresh
  obtain⟨fe0,fe1,fe2,fe3,fe4,fe5⟩:=hf e (by simp)
  obtain⟨fi0,fi1,fi2,fi3,fi4,fi5⟩:=hf it (by simp)
  have kp:∀ b o,b≠e->b≠it->s.heap.get? b=some o->h2.get? b=some o:=λb o h1 h2' e1=>(sb2.2 b h1).trans (hk b o h1 h2' e1)
  have hTe:s.heap.objs.size≠e:=Nat.ne_of_gt (Heap.lt_size he)
  have hT2:h2.get? s.heap.objs.size=some { cls:=.type "tuple",data:=.seq #[.int i tk,y] }:=(sb2.2 _ hTe).trans hT
  have ne:∀ b o,H b=some o->b≠s.heap.objs.size:=λb o q=>aB q hn
  have I1:Inv X pins σ (upd H s.heap.objs.size (.tup [.int i,x])) { s with heap:=h2,toks:=tk+1 }:=by
   refine I.step (h':=h2) (g':=s.gens) (d':=s.drawn) (t':=tk+1) (ch:=[e,it]) (λb hb=>?_) (λb o _ _ hb e1 _=>kp b o (λz=>hb (by simp[z])) (λz=>hb (by simp[z])) e1) (λb o _ _ hb e1 _=>⟨o.slots,kp b o (λz=>hb (by simp[z])) (λz=>hb (by simp[z])) e1⟩)
    (λb o hb e1 n'=>by rw[au (Nat.ne_of_lt (Heap.lt_size e1))];exact n') (λb o hb e1=>⟨o,kp b o (λz=>hb (by simp[z])) (λz=>hb (by simp[z])) e1⟩)
    (λb xs q=>by rw[au (ne b _ q)];exact q) (λb o xs q=>by rw[au (ne b _ q)];exact q) (λb ps q=>⟨#[],by rw[au (ne b _ q),q];simp⟩)
    (λm hm=>?_) (λb o q=>?_) I.bare
   ·rcases List.mem_cons.mp hb with rfl |hb
    ·exact⟨fe3,fe1,fe4,fe5⟩
    ·have:b=it:=by simpa using hb
     subst this
     exact⟨fi3,fi1,fi4,fi5⟩
   ·obtain⟨o,es,ep,ho,r⟩:=hm
    exact⟨o,es,ep,kp _ o (Ne.symm fe1) (Ne.symm fi1) ho,r⟩
   ·by_cases hb:b=s.heap.objs.size
    ·subst hb
     rw[upd_same] at q
     cases q
     exact⟨by show 2<=sizeLine;decide,[.int i tk,y],.cons ⟨tk,rfl⟩ (.cons ru .nil),_,hT2⟩
    ·rw[au hb] at q
     refine (I.hok b o q).stay (λc v hc' z=>kp c v ?_ ?_ z) (λc z=>by rw[au (ne c _ z)];exact z) λc xs z=>by rw[au (ne c _ z)];exact z
     ·rcases hc' with z' |z'
      ·rw[z'];exact aB q fe0
      ·exact aB z' fe0
     ·rcases hc' with z' |z'
      ·rw[z'];exact aB q fi0
      ·exact aB z' fi0
  refine⟨.ref s.heap.objs.size,_,I1,rfl,⟨_,x,hn,rfl,rfl,λys hy=>by rw[I.tuple_inj hy hq];exact hx⟩,⟨⟨y,he2⟩,hs'.1.extBut sb2.extBut (Ne.symm hei)⟩,λb hb=>?_⟩
  rcases List.mem_cons.mp hb with rfl |hb
  ·rw[au (Ne.symm hTe)];exact fe0
  ·have:b=it:=by simpa using hb
   subst this
   obtain⟨o,ho',_⟩:=hit
   rw[au (Nat.ne_of_lt (Heap.lt_size ho'))];exact fi0
 done:=by
  intro X hP hw hK hc i pins s σ H E I hf st hg
  subst hP hw hK
  obtain⟨xs,hq,hx⟩:=hg
  obtain⟨its,rv,p,hz⟩:=I.tuple hq
  obtain⟨⟨old,he⟩,hit⟩:=st
  obtain⟨fi0,fi1,fi2,fi3,fi4,fi5⟩:=hf it (by simp)
  have hl:=rv.length
  exact gI (I.ok.hd hc) he hit p (by simp;omega) λh' eb=>⟨rfl,I.turned (t':=s.toks) (λb o hb e=>eb b o hb e) fi0 fi1 fi3 fi4 fi5⟩
 self:=by
  intro A i s Q E st h
  obtain⟨⟨old,he⟩,_⟩:=st
  exact wpAny_pyIter_enum he h
def b7 (i:Nat):List D->List D
 |[]=>[]
 |d::ds => .tup [.int i,d]::b7 (i+1) ds
theorem ba:∀ (ds:List D) (i:Nat),(b7 i ds).length=ds.length
 |[],_=>rfl
 |d::ds,i=>by rw[b7,List.length_cons,List.length_cons,ba ds]
theorem eQ:∀ (ds:List D) (i j:Nat),(b7 i ds)[j]?=(ds[j]?).map λd=>D.tup [.int (i+j:Nat),d]
 |[],_,_=>by simp[b7]
 |d::ds,i,0=>by simp[b7]
 |d::ds,i,j+1=>by
  rw[b7,List.getElem?_cons_succ,eQ ds (i+1) j,List.getElem?_cons_succ,show i+1+j=i+(j+1) by omega]
theorem Walk.enum {a:Addr}{ds:List D}{xs:List V}{J:List Addr}{H:Hp}(t:TQ X.K H J a xs)(m:Ats X.K H J ds xs):Walk X (Ite X.K a) (b7 0 ds) J H where
 len:=by rw[ba,m.length];exact t.len
 go:=λJ1 H1 i x hi=>by
  rw[ba] at hi
  have m1:=m.ex x
  obtain⟨v,hv,_⟩:=m1.get (List.getElem?_eq_getElem hi)
  exact⟨xs,v,(t.ex x).sq,hv⟩
 yld:=λJ1 H1 i v H' x hJ hi y=>by
  obtain⟨p,y,hn,rfl,rfl,hy⟩:=y
  obtain⟨d,e,a⟩:=(m.ex x).get' (hy xs (t.ex x).sq)
  refine⟨.tup [.int i,d],by rw[eQ,e];simp,At.newTup (.cons (At.int_iff.mpr rfl) (.cons a .nil)) hn hJ (by show 2<=sizeLine;decide),aJ hn _⟩
 stop:=λJ1 H1 i x hi=>by
  rw[ba] at hi
  exact⟨xs,(t.ex x).sq,by rw[← m.length];exact hi⟩
def pP:List D->Option (List D)
 |[.tup xs]=>some (b7 0 xs)
 |_=>none
theorem r9 {es:List Expr}{k:Nat}{pt p:Pos}{a:Expr}{t:Rho->Sto->Out (List D)}{x:Str}(hx:x="enumerate")(hm:X.mg x=none)(ha:SA X W [a] t)(hg:Gl X x:=by rfl)
  (he:starEach (a::[]) X.env=(false,eval a X.env)::starEach [] X.env:=by rfl) (hpl:(backTo pos (starEach [] X.env)).any (·.1)=false:=by rfl):SI X W (.Tuple es k pt) (.Call (.Name x p) [a] [] pos) (gL pP t):=by
 subst hx
 intro pins s σ H R I h
 refine wpAny_Call_Name_kw (js I hg hm boot_enumerate ?_ (by decide) (by decide))
 refine callWith_type1 (thn (ha pos pins s σ H _ I (iB h)) λus s1 ⟨vs,H1,I1,r1,J,S,es',ds,so,m,hk,z⟩=>?_) he hpl
 unfold pP at hk
 split at hk
 ·rename_i xs
  cases hk
  obtain⟨v,r,rfl,a1,n⟩:=Ats.cons_iff.mp m
  cases Ats.nil_iff.mp n
  obtain⟨ad,ws,rfl,tq,mz⟩:=At.tup_iff.mp a1
  obtain⟨u,rfl,ru⟩:=vals1 r1
  cases ru
  obtain⟨its,rv,pl,hz⟩:=I1.tuple tq.sq
  have had:ad<s1.heap.objs.size:=pl.lt
  refine lZ pl λh' en it sz kp=>?_
  have I2:Inv X pins σ H1 { s1 with heap:=h' }:=I1.kept (t':=s1.toks) kp
  refine wpAny_pyIter_enum en ?_
  refine⟨s1.heap.objs.size+1,[s1.heap.objs.size+1,s1.heap.objs.size],_,Ite X.K ad,H1,rfl,I2,tV ad _ _ (Nat.ne_of_gt (Nat.lt_succ_self _)) (Nat.ne_of_lt (Nat.lt_succ_of_lt had)) (Nat.ne_of_lt had),⟨⟨_,en⟩,it⟩,λb hb=>?_,z H1 _ (Same.refl _) (Walk.enum tq mz)⟩
  rcases List.mem_cons.mp hb with rfl |hb
  ·exact I1.fpOk (Nat.le_succ _) (I1.hok.fresh (Nat.le_succ _))
  ·have:b=s1.heap.objs.size:=by simpa using hb
   subst this
   exact I1.fpOk (Nat.le_refl _) I1.fresh
 ·cases hk
end
def leS (a b:Str):Bool:=!ltS b a
theorem leS_iff {a b:Str}:leS a b=true↔a.cps.toList<=b.cps.toList:=by
 unfold leS ltS
 rw[Bool.not_eq_true',decide_eq_false_iff_not,List.not_lt]
theorem mH (a b c:Str)(h:leS a b=true)(g:leS b c=true):leS a c=true:=leS_iff.mpr (List.le_trans (leS_iff.mp h) (leS_iff.mp g))
theorem mI (a b:Str):(leS a b ||leS b a)=true:=by
 rw[Bool.or_eq_true,leS_iff,leS_iff]
 exact List.le_total _ _
theorem wZ {a b:Str}(h:a.cps.toList=b.cps.toList):a=b:=by
 cases a;cases b;congr;exact Array.toList_inj.mp h
theorem pG {a b:Str}(h:leS a b=true)(g:leS b a=true):a=b:=wZ (List.le_antisymm (leS_iff.mp h) (leS_iff.mp g))
def kI (l:List Str):List Str:=l.mergeSort leS
theorem nI {l l':List Str}(hp:l'.Perm l)(hs:l'.Pairwise λa b=>leS a b=true):l'=kI l:=
 List.Perm.eq_of_pairwise (le:=λa b=>leS a b=true) (λa b _ _ h g=>pG h g) hs (List.pairwise_mergeSort mH mI l) (hp.trans (List.mergeSort_perm l leS).symm)
def leI (a b:Int):Bool:=decide (a<=b)
def sortI (l:List Int):List Int:=l.mergeSort leI
theorem nJ {l l':List Int}(hp:l'.Perm l)(hs:l'.Pairwise (·<=·)):l'=sortI l:=by
 refine List.Perm.eq_of_pairwise (le:=λa b=>leI a b=true) (λa b _ _ h g=>?_) (hs.imp λh=>decide_eq_true h) (List.pairwise_mergeSort (λa b c h g=>?_) (λa b=>?_) l) (hp.trans (List.mergeSort_perm l leI).symm)
 ·exact Int.le_antisymm (of_decide_eq_true h) (of_decide_eq_true g)
 ·exact decide_eq_true (Int.le_trans (of_decide_eq_true h) (of_decide_eq_true g))
 ·unfold leI
  rw[Bool.or_eq_true,decide_eq_true_eq,decide_eq_true_eq]
  exact Int.le_total a b
def mh:List D->Option (List Str)
 |[]=>some []
 | .str x::r=>(mh r).map (x::·)
 |_=>none
def eN:List D->Option (List Int)
 |[]=>some []
 | .int x::r=>(eN r).map (x::·)
 |_=>none
theorem mf:∀ ss:List Str,mh (ss.map .str)=some ss
 |[]=>rfl
 |x::r=>by rw[List.map_cons,mh,mf r];rfl
theorem intsO_map:∀ ss:List Int,eN (ss.map .int)=some ss
 |[]=>rfl
 |x::r=>by rw[List.map_cons,eN,intsO_map r];rfl
theorem oR:∀ {ds:List D}{ss:List Str},mh ds=some ss->ds=ss.map .str
 |[],ss,e=>by cases e;rfl
 | .str x::r,ss,e=>by
  obtain⟨t,e1,e2⟩:=Option.map_eq_some_iff.mp (show (mh r).map (x::·)=some ss from e)
  subst e2
  rw[oR e1];rfl
 | .non::_,_,e=>by cases e
 | .bl _::_,_,e=>by cases e
 | .int _::_,_,e=>by cases e
 | .tup _::_,_,e=>by cases e
 | .lst _::_,_,e=>by cases e
 | .set _::_,_,e=>by cases e
 | .loc _::_,_,e=>by cases e
theorem fR:∀ {ds:List D}{ss:List Int},eN ds=some ss->ds=ss.map .int
 |[],ss,e=>by cases e;rfl
 | .int x::r,ss,e=>by
  obtain⟨t,e1,e2⟩:=Option.map_eq_some_iff.mp (show (eN r).map (x::·)=some ss from e)
  subst e2
  rw[fR e1];rfl
 | .non::_,_,e=>by cases e
 | .bl _::_,_,e=>by cases e
 | .str _::_,_,e=>by cases e
 | .tup _::_,_,e=>by cases e
 | .lst _::_,_,e=>by cases e
 | .set _::_,_,e=>by cases e
 | .loc _::_,_,e=>by cases e
section
variable {K:PySem.W.Frag}{H:Hp}{J:List Addr}
theorem Ats.strs:∀ {ss:List Str}{vs:List V}{us:List Value},Ats K H J (ss.map .str) vs->Vals vs us->StrsAre us ss/\vs=ss.map V.str/\∀ x∈ss,okS x
 |[],vs,us,m,r=>by
  cases Ats.nil_iff.mp m
  cases r
  exact⟨.nil,rfl,by simp⟩
 |x::ss,vs,us,m,r=>by
  obtain⟨v,vr,rfl,a,m'⟩:=Ats.cons_iff.mp m
  obtain⟨ev,ok⟩:=At.str_iff.mp a
  subst ev
  cases r with
  |cons r1 r2 =>
   obtain⟨t,rfl⟩:=r1
   obtain⟨s1,s2,s3⟩:=Ats.strs m' r2
   refine⟨.cons x t s1,by rw[s2];rfl,λy hy=>?_⟩
   rcases List.mem_cons.mp hy with rfl |hy
   ·exact ok
   ·exact s3 y hy
theorem tR:∀ {us:List Value}{ss:List Str},StrsAre us ss->Vals (ss.map V.str) us
 |_,_,.nil => .nil
 |_,_,.cons x t h => .cons ⟨t,rfl⟩ (tR h)
end
section
variable {X:Cx}{W:WT}
def tupI:D->Option (List Int)
 | .tup ds=>match eN ds with
  |some (n::ns)=>some (n::ns)
  |_=>none
 |_=>none
def rO {α:Type}(f:D->Option α):List D->Option (List α)
 |[]=>some []
 |d::r=>(f d).bind λa=>(rO f r).map (a::·)
def iI {α:Type}(lt : α->α->Bool):List α->List α->Bool
 |[],[]=>false
 |[],_::_=>true
 |_::_,[]=>false
 |a::as,b::bs=>if (!lt a b&&!lt b a)=true then iI lt as bs else lt a b
def lV (a b:List Int):Bool:=!iI (λx y=>decide (x<y)) b a
def dG (xs:List D):Option (List D):=if xs.length<=sizeLine then
  match mh xs with
  |some ss=>some ((kI ss).map .str)
  |none=>match eN xs with
   |some ns=>some ((sortI ns).map .int)
   |none=>match rO tupI xs with
    |some nss=>some ((nss.mergeSort lV).map λns => .tup (ns.map .int))
    |none=>if xs.length<=1 then some xs else none
 else none
theorem sL (O:PyProof.Rows.KeyOrd):∀ as bs:List O.α,cO O as bs=iI O.blt as bs
 |[],[]=>rfl
 |[],_::_=>rfl
 |_::_,[]=>rfl
 |a::as,b::bs=>by rw[cO,iI,sL O as bs]
theorem jn {K:PySem.W.Frag}{H:Hp}{J:List Addr}{out us:List Value}(p:out.Perm us):∀ {vs:List V}{ds:List D},Vals vs us->Ats K H J ds vs->∃ vs' ds',Vals vs' out/\Ats K H J ds' vs'/\ds'.Perm ds:=by
 induction p with
 |nil=>intro vs ds r m;exact⟨vs,ds,r,m,.refl _⟩
 |cons x p ih =>
  intro vs ds r m
  cases r with
  | @cons v _ vr _ r1 r2 =>
   cases ds with
   |nil=>cases Ats.nil_iff.mp m
   |cons d ds =>
    obtain⟨m1,m2⟩:=m.uncons
    obtain⟨vs',ds',a,b,c⟩:=ih r2 m2
    exact⟨v::vs',d::ds',.cons r1 a,.cons m1 b,.cons d c⟩
 |swap x y l =>
  intro vs ds r m
  cases r with
  | @cons v _ vr _ r1 r2=>cases r2 with
   | @cons v2 _ vr2 _ r3 r4 =>
    cases ds with
    |nil=>cases Ats.nil_iff.mp m
    |cons d ds=>cases ds with
     |nil=>obtain⟨_,m2⟩:=m.uncons;cases Ats.nil_iff.mp m2
     |cons d2 ds =>
      obtain⟨m1,m2⟩:=m.uncons
      obtain⟨m3,m4⟩:=m2.uncons
      exact⟨v2::v::vr2,d2::d::ds,.cons r3 (.cons r1 r4),.cons m3 (.cons m1 m4),.swap d d2 ds⟩
 |trans _ _ ih1 ih2 =>
  intro vs ds r m
  obtain⟨vs1,ds1,a,b,c⟩:=ih2 r m
  obtain⟨vs2,ds2,a2,b2,c2⟩:=ih1 a b
  exact⟨vs2,ds2,a2,b2,c2.trans c⟩
theorem qj {α:Type}{f:D->Option α}{g : α->D}(hf:∀ d a,f d=some a->d=g a):∀ {ds:List D}{as:List α},rO f ds=some as->ds=as.map g
 |[],as,h=>by cases h;rfl
 |d::ds,as,h=>by
  obtain⟨a,e1,e2⟩:=Option.bind_eq_some_iff.mp (show (f d).bind _=some as from h)
  obtain⟨r,e3,e4⟩:=Option.map_eq_some_iff.mp e2
  subst e4
  rw[List.map_cons,hf d a e1,qj hf e3]
theorem qk {α:Type}{f:D->Option α}:∀ {ds:List D}{as:List α},rO f ds=some as->∀ a∈as,∃ d,f d=some a
 |[],as,h,a,ha=>by cases h;simp at ha
 |d::ds,as,h,a,ha=>by
  obtain⟨b,e1,e2⟩:=Option.bind_eq_some_iff.mp (show (f d).bind _=some as from h)
  obtain⟨r,e3,e4⟩:=Option.map_eq_some_iff.mp e2
  subst e4
  rcases List.mem_cons.mp ha with e |ha
  ·subst e;exact⟨d,e1⟩
  ·exact qk e3 a ha
theorem rW {d:D}{ns:List Int}(h:tupI d=some ns):d = .tup (ns.map .int)/\ns≠[]:=by
 unfold tupI at h
 split at h
 ·split at h
  ·rename_i e;cases h;rw[fR e];exact⟨rfl,by simp⟩
  ·cases h
 ·cases h
theorem eE {α:Type}{g : α->D}{l:List D}{as:List α}(h:l.Perm (as.map g)):∃ bs:List α,l=bs.map g/\bs.Perm as:=by
 generalize e:as.map g=l2 at h
 induction h generalizing as with
 |nil=>cases as with
  |nil=>exact⟨[],rfl,.refl _⟩
  |cons a as=>cases e
 |cons x p ih=>cases as with
  |nil=>cases e
  |cons a as =>
   rw[List.map_cons] at e
   obtain⟨rfl,e2⟩:=List.cons.inj e
   obtain⟨bs,e3,e4⟩:=ih e2
   exact⟨a::bs,by rw[List.map_cons,e3],.cons a e4⟩
 |swap x y l=>cases as with
  |nil=>cases e
  |cons a as=>cases as with
   |nil=>simp at e
   |cons b as =>
    simp only[List.map_cons,List.cons.injEq] at e
    obtain⟨rfl,rfl,rfl⟩:=e
    exact⟨b::a::as,rfl,.swap a b as⟩
 |trans _ _ ih1 ih2 =>
  obtain⟨bs,e3,e4⟩:=ih2 e
  obtain⟨cs,e5,e6⟩:=ih1 (as:=bs) e3.symm
  exact⟨cs,e5,e6.trans e4⟩
theorem gw:∀ {us:List Value}{ns:List Int},IntsAre us ns->KeysAre intIt us ns
 |_,_,.nil => .nil
 |_,_,.cons n t r => .cons rfl (gw r)
theorem jt:∀ {us:List Value}{ss:List Str},StrsAre us ss->KeysAre strIt us (ss.map λx=>x.cps.toList)
 |_,_,.nil => .nil
 |_,_,.cons n t r => .cons rfl (jt r)
section
variable {X:Cx}{pins:List (Addr×Obj)}{σ:St}{H:Hp}{s:Shared}{J:List Addr}
theorem wU (I:Inv X pins σ H s){ns:List Int}{v:V}{u:Value}(m:At X.K H J (.tup (ns.map .int)) v)(r:RelV v u):TupK intIt s.heap u ns:=by
 obtain⟨a,xs,rfl,q,z⟩:=At.tup_iff.mp m
 cases r
 obtain⟨its,rv,⟨o,ho,hc,n,hd⟩,_⟩:=I.tuple q.sq
 have e:=Ats.toInts z
 subst e
 exact⟨a,o,its.toArray,n,rfl,ho,hc,hd,by simpa using gw (intsAre_of rv)⟩
theorem kD (I:Inv X pins σ H s):∀ {nss:List (List Int)}{vs:List V}{us:List Value},(∀ ns∈nss,ns≠[])->Ats X.K H J (nss.map λns => .tup (ns.map .int)) vs->Vals vs us->TupsAre intIt s.heap us nss/\us.map (kfT intIt s.heap)=nss
 |[],vs,us,_,m,r=>by cases Ats.nil_iff.mp m;cases r;exact⟨.nil,rfl⟩
 |ns::nss,vs,us,h0,m,r=>by
  obtain⟨v,vr,rfl,m1,m2⟩:=Ats.cons_iff.mp m
  cases r with
  |cons r1 r2 =>
   obtain⟨a,b⟩:=kD I (λx hx=>h0 x (List.mem_cons_of_mem _ hx)) m2 r2
   have t:=wU I m1 r1
   have ne:=h0 ns (List.mem_cons_self ..)
   cases ns with
   |nil=>exact absurd rfl ne
   |cons n ns=>exact⟨.cons t a,by rw[List.map_cons,rg t,b];rfl⟩
end
theorem v3 {β:Type}{O:PyProof.Rows.KeyOrd}{key : β->List O.α}(inj:∀ a b,key a=key b->a=b){l l':List β}(hp:l'.Perm l)(hs:l'.Pairwise λa b=>(pD O).kle (key a) (key b)):l'=l.mergeSort λa b => !cO O (key b) (key a):=by
 refine List.Perm.eq_of_pairwise (le:=λa b=>(!cO O (key b) (key a))=true) (λa b _ _ h g=>inj _ _ ?_) (hs.imp λh=>?_) (List.pairwise_mergeSort (λa b c h g=>?_) (λa b=>?_) l) (hp.trans (List.mergeSort_perm l _).symm)
 ·have g':cO O (key a) (key b)=false:=by simpa using g
  have h':cO O (key b) (key a)=false:=by simpa using h
  exact (pD O).total _ _ g' h'
 ·have h':cO O _ _=false:=h
  rw[h'];rfl
 ·have h1:(pD O).kle (key a) (key b):=by show cO O (key b) (key a)=false;simpa using h
  have h2:(pD O).kle (key b) (key c):=by show cO O (key c) (key b)=false;simpa using g
  have h3:cO O (key c) (key a)=false:=PyProof.Rows.KeyOrd.kle_trans h1 h2
  rw[h3];rfl
 ·cases h1:cO O (key b) (key a) with
  |false=>rfl
  |true =>
   have h2:cO O (key a) (key b)=false:=PyProof.Rows.KeyOrd.klt_asymm (O:=pD O) h1
   rw[h2];rfl
theorem kX {α:Type}{a b:List α}(h:a.Perm b)(l:a.length<=1):a=b:=by
 have e:=h.length_eq
 cases a with
 |nil=>exact (List.length_eq_zero_iff.mp e.symm).symm
 |cons x r =>
  have:r=[]:=List.length_eq_zero_iff.mp (by rw[List.length_cons] at l;omega)
  subst this
  exact List.perm_singleton.mp h.symm |>.symm
theorem jd {pins:List (Addr×Obj)}{σ:St}{H:Hp}{s:Shared}{J:List Addr}{x:Value}{ds:List D}{out:List D}{Q:VK}(hJ:∀ a∈J,H a≠none)(e:dG ds=some out)(q:∀ H' v,Same H H'->At X.K H' J (.lst out) v->Q v H')
  (hcol:∀ (Q':List Value->Shared->Prop) (E:Value->Shared->Prop),(∀ us vs s1 ds',Inv X pins σ H s1->Vals vs us->ds'.Perm ds->Ats X.K H J ds' vs->Q' us s1)->wpAny (model X.prog X.w) X.A.in1 (collect x) Q' E s) :
  wpAny (model X.prog X.w) X.A (call (.builtin "sorted") [x]) (EP X pins σ Q) X.xe s:=by
 unfold dG at e
 split at e
 ·rename_i hz
  have fin:∀ {s1:Shared}{h':Heap}{ep:Nat}{us':List Value}{vs':List V}(I1:Inv X pins σ H s1) (k:∀ b o,s1.heap.get? b=some o->h'.get? b=some o) (hat:h'.get? s1.heap.objs.size=some (seqObj "list" us'.toArray ep)) (rv:Vals vs' us') (m:Ats X.K H J out vs') (hl:vs'.length<=sizeLine),
    EP X pins σ Q (.ref s1.heap.objs.size) { s1 with heap:=h' }:=λ{s1 h' ep us' vs'} I1 k hat rv m hl =>
   ⟨.ref s1.heap.objs.size,_,I1.laid (t':=s1.toks) (o:=.lst vs') k (Nat.le_refl _) ⟨hl,us',ep,rv,hat⟩,rfl,q _ _ (aJ I1.fresh _) (At.newLst m I1.fresh hJ hl)⟩
  have lens:∀ {us:List Value}{vs:List V}{ds':List D},Vals vs us->ds'.Perm ds->Ats X.K H J ds' vs->us.length<=sizeLine:=λrv pm m=>by
   rw[← rv.length,← m.length,pm.length_eq];exact hz
  split at e
  ·rename_i ss es
   cases e
   have ed:=oR es
   subst ed
   refine j5 (hcol _ _ λus vs s1 ds' I1 rv pm m=>⟨lens rv pm m,strIt.O,λv=>(strIt.keyOf v).getD strIt.dflt,?_,λo h' ep hp hs k hat=>?_⟩)
   ·obtain⟨ss0,e0,p0⟩:=eE pm
    subst e0
    exact λ_=>ir (jt (Ats.strs m rv).1)
   ·obtain⟨vs',ds2,a1,a2,a3⟩:=jn hp rv m
    obtain⟨ss2,e2,p2⟩:=eE (a3.trans pm)
    subst e2
    obtain⟨sa,ev,ok⟩:=Ats.strs a2 a1
    have hk:=(jt sa).map_key
    have hs2:ss2.Pairwise λa b=>leS a b=true:=by
     have:=List.pairwise_map.mpr hs
     rw[hk] at this
     have this2:ss2.Pairwise λa b=>strIt.O.kle a.cps.toList b.cps.toList:=List.pairwise_map.mp this
     refine this2.imp λ{a b} h=>?_
     have h':decide (b.cps.toList<a.cps.toList)=false:=h
     unfold leS ltS
     rw[h'];rfl
    have eso:=nI p2 hs2
    subst eso
    exact fin (us':=o.toList) I1 k (by simpa using hat) a1 a2 (by rw[a1.length,hp.length_eq];exact lens rv pm m)
  ·split at e
   ·rename_i ns es
    cases e
    have ed:=fR es
    subst ed
    refine j5 (hcol _ _ λus vs s1 ds' I1 rv pm m=>⟨lens rv pm m,intIt.O,λv=>(intIt.keyOf v).getD intIt.dflt,?_,λo h' ep hp hs k hat=>?_⟩)
    ·obtain⟨ns0,e0,p0⟩:=eE pm
     subst e0
     have ev:=Ats.toInts m
     subst ev
     exact λ_=>ir (gw (intsAre_of rv))
    ·obtain⟨vs',ds2,a1,a2,a3⟩:=jn hp rv m
     obtain⟨ns2,e2,p2⟩:=eE (a3.trans pm)
     subst e2
     have ev:=Ats.toInts a2
     subst ev
     have hk:=(gw (intsAre_of a1)).map_key
     have hs2:ns2.Pairwise (·<=·):=by
      have:=List.pairwise_map.mpr hs
      rw[hk] at this
      have this2:List.Pairwise (λ(a b:Int)=>decide (b<a)=false) ns2:=this
      exact this2.imp λ{a b} h=>Int.not_lt.mp (of_decide_eq_false h)
     have eso:=nJ p2 hs2
     subst eso
     exact fin (us':=o.toList) I1 k (by simpa using hat) a1 a2 (by rw[a1.length,hp.length_eq];exact lens rv pm m)
   ·split at e
    ·rename_i nss es
     cases e
     have ed:=qj (λd a h=>(rW h).1) es
     have ne:∀ ns∈nss,ns≠[]:=λns hn=>let ⟨d,h⟩:=qk es ns hn;(rW h).2
     subst ed
     refine j5 (hcol _ _ λus vs s1 ds' I1 rv pm m=>⟨lens rv pm m,pD intIt.O,kfT intIt s1.heap,?_,λo h' ep hp hs k hat=>?_⟩)
     ·obtain⟨ns0,e0,p0⟩:=eE pm
      subst e0
      exact λ_=>oT (kD I1 (λx hx=>ne x (p0.mem_iff.mp hx)) m rv).1
     ·obtain⟨vs',ds2,a1,a2,a3⟩:=jn hp rv m
      obtain⟨ns2,e2,p2⟩:=eE (a3.trans pm)
      subst e2
      have hk:=(kD I1 (λx hx=>ne x (p2.mem_iff.mp hx)) a2 a1).2
      have hs2:ns2.Pairwise λa b=>(pD pL).kle a b:=by
       have:=List.pairwise_map.mpr hs
       rw[hk] at this
       exact this
      have ele:(λ(a b:List Int) => !cO pL b a)=lV:=by
       funext a b
       unfold lV
       exact congrArg Bool.not (sL pL b a)
      have eso:ns2=nss.mergeSort lV:=by
       rw[← ele]
       exact v3 (O:=pL) (key:=λ(a:List Int)=>a) (λa b h=>h) p2 hs2
      subst eso
      exact fin (us':=o.toList) I1 k (by simpa using hat) a1 a2 (by rw[a1.length,hp.length_eq];exact lens rv pm m)
    ·split at e
     ·rename_i h1
      cases e
      refine j5 (hcol _ _ λus vs s1 ds' I1 rv pm m=>⟨lens rv pm m,intIt.O,λv=>(intIt.keyOf v).getD intIt.dflt,λh2=>?_,λo h' ep hp hs k hat=>?_⟩)
      ·exfalso
       rw[← rv.length,← m.length,pm.length_eq] at h2
       omega
      ·have hl1:us.length<=1:=by rw[← rv.length,← m.length,pm.length_eq];exact h1
       have eds:ds'=ds:=kX pm (by rw[pm.length_eq];exact h1)
       have eo:o.toList=us:=kX hp (by rw[hp.length_eq];exact hl1)
       subst eds
       exact fin (us':=o.toList) I1 k (by simpa using hat) (by rw[eo];exact rv) m (by rw[← m.length];exact hz)
     ·cases e
 ·cases e
def vc:List D->Option D
 |[.tup xs]=>(dG xs).map .lst
 |[.lst xs]=>(dG xs).map .lst
 |_=>none
theorem xR:lL X (.builtin "sorted") vc:=by
 intro pins s σ H xs us Q I r h
 obtain⟨J,ds,d,hJ,m,e,q⟩:=h
 unfold vc at e
 split at e
 ·rename_i ys
  obtain⟨out,e1,e2⟩:=Option.map_eq_some_iff.mp e
  subst e2
  obtain⟨v,w,rfl,a,n⟩:=Ats.cons_iff.mp m
  cases Ats.nil_iff.mp n
  obtain⟨p,zs,rfl,t,mz⟩:=At.tup_iff.mp a
  obtain⟨u,rfl,ru⟩:=vals1 r
  cases ru
  obtain⟨its,rv,⟨o,ho,hc,nn,hd⟩,hz⟩:=I.tuple t.sq
  refine jd hJ e1 q λQ' E hQ=>wpAny_collect_seq p (.inr rfl) ho hc hd (λh' k=>?_) (by rw[List.size_toArray,← rv.length];exact hz)
  exact hQ _ zs _ ys (I.kept (t':=s.toks) k) (by simpa using rv) (.refl _) mz
 ·rename_i ys
  obtain⟨out,e1,e2⟩:=Option.map_eq_some_iff.mp e
  subst e2
  obtain⟨v,w,rfl,a,n⟩:=Ats.cons_iff.mp m
  cases Ats.nil_iff.mp n
  obtain⟨p,zs,rfl,t,mz⟩:=At.lst_iff.mp a
  obtain⟨u,rfl,ru⟩:=vals1 r
  cases ru
  obtain⟨its,rv,⟨o,nn,ho,hc,_,hd⟩,hz⟩:=I.list t.sq
  refine jd hJ e1 q λQ' E hQ=>wpAny_collect_seq p (.inl rfl) ho hc hd (λh' k=>?_) (by rw[List.size_toArray,← rv.length];exact hz)
  exact hQ _ zs _ ys (I.kept (t':=s.toks) k) (by simpa using rv) (.refl _) mz
 ·cases e
end
def dh (a b:D):Bool:=decide (dE a=dE b)
def putD (kvs:List (D×D))(k v:D):List (D×D):=if (kvs.any λp=>dh p.1 k)=true then kvs.map (λp=>if dh p.1 k=true then (p.1,v) else p) else kvs++[(k,v)]
def getD (kvs:List (D×D))(k:D):Option D:=(kvs.find? λp=>dh p.1 k).map (·.2)
abbrev RKV (K:PySem.W.Frag)(H:Hp)(J:List Addr):(D×D)->(Key×V)->Prop:=λp q=>(dE p.1=some q.1/\At K H J p.1 (kV q.1))/\At K H J p.2 q.2
section
variable {K:PySem.W.Frag}{H H':Hp}{J J':List Addr}
theorem kQ {a k:D}{x y:Key}(h:dE a=some x)(g:dE k=some y):dh a k=decide (x=y):=by
 unfold dh
 rw[h,g]
 by_cases e:x=y
 ·subst e;simp
 ·rw[decide_eq_false e,decide_eq_false (λz=>e (Option.some.inj z))]
theorem zV {kvs:List (D×D)}{ps:List (Key×V)}{k:D}{y:Key}(g:dE k=some y)(r:Paired (RKV K H J) kvs ps):(kvs.any λp=>dh p.1 k)=ps.any λq=>decide (q.1=y):=by
 induction r with
 |nil=>rfl
 |cons h t ih=>rw[List.any_cons,List.any_cons,ih,kQ h.1.1 g]
theorem uc {kvs:List (D×D)}{ps:List (Key×V)}{k v:D}{y:Key}{w:V}(g:dE k=some y)(av:At K H J v w)(r:Paired (RKV K H J) kvs ps):Paired (RKV K H J) (kvs.map λp=>if dh p.1 k=true then (p.1,v) else p) (ps.map λq=>if q.1=y then (q.1,w) else q):=by
 induction r with
 |nil=>exact .nil
 | @cons p q l1 l2 h t ih =>
  refine .cons ?_ ih
  show RKV K H J (if dh p.1 k=true then (p.1,v) else p) (if q.1=y then (q.1,w) else q)
  rw[kQ h.1.1 g]
  by_cases e:q.1=y
  ·rw[if_pos (decide_eq_true e),if_pos e]
   exact⟨h.1,av⟩
  ·rw[if_neg (by rw[decide_eq_false e];decide),if_neg e]
   exact h
theorem ue {k v:D}{y:Key}{w:V}(g:dE k=some y)(ak:At K H J k (kV y))(av:At K H J v w){l1:List (D×D)}{l2:List (Key×V)}(h:Paired (RKV K H J) l1 l2):Paired (RKV K H J) (l1++[(k,v)]) (l2++[(y,w)]):=by
 induction h with
 |nil=>exact .cons ⟨⟨g,ak⟩,av⟩ .nil
 |cons h t ih=>exact .cons h ih
theorem yT {kvs:List (D×D)}{ps:List (Key×V)}{k v:D}{y:Key}{w:V}(g:dE k=some y)(ak:At K H J k (kV y))(av:At K H J v w)(r:Paired (RKV K H J) kvs ps):Paired (RKV K H J) (putD kvs k v) (putK ps y w):=by
 unfold putD putK
 rw[zV g r]
 split
 ·exact uc g av r
 ·exact ue g ak av r
theorem wb {kvs:List (D×D)}{ps:List (Key×V)}{k:D}{y:Key}(g:dE k=some y)(r:Paired (RKV K H J) kvs ps) :
  (getD kvs k=none/\im ps y=none)∨∃ d v,getD kvs k=some d/\im ps y=some v/\At K H J d v:=by
 unfold getD im
 induction r with
 |nil=>exact .inl ⟨rfl,rfl⟩
 | @cons p q l1 l2 h t ih =>
  rw[List.find?_cons,List.find?_cons,kQ h.1.1 g]
  by_cases e:q.1=y
  ·rw[decide_eq_true e]
   exact .inr ⟨p.2,q.2,rfl,rfl,h.2⟩
  ·rw[decide_eq_false e]
   exact ih
theorem gZ {α β:Type}{F : α->β->Prop}{l1:List α}{l2:List β}(r:Paired F l1 l2):l1.length=l2.length:=Paired.length r
end
section
variable {X:Cx}{W:WT}{pos pos':Pos}{o i e:Expr}{fo fi fv:Rho->Sto->Out D}
def qd:Rho->Sto->Out D:=λ_ S=>okO (.loc S.length) (S++[.dict []])
theorem StoOk.push {K:PySem.W.Frag}{J:List Addr}{S:Sto}{H:Hp}{p:Addr}{o:HO}{mo:MO}(s:StoOk K J S H)(hp:H p=none)(hm:MAt K (upd H p o) (J++[p]) mo p):StoOk K (J++[p]) (S++[mo]) (upd H p o)/\Ex J H (J++[p]) (upd H p o):=by
 have x:Ex J H (J++[p]) (upd H p o):=⟨⟨[p],rfl⟩,λb u hb nb=>⟨by rw[au (aB hb hp)];exact hb,λz=>by
  rcases List.mem_append.mp z with z |z
  ·exact nb z
  ·exact aB hb hp (by simpa using z)⟩⟩
 refine⟨⟨by rw[List.length_append,List.length_append,s.len];rfl,?_,λl a mo' h1 h2=>?_⟩,x⟩
 ·rw[List.nodup_append]
  refine⟨s.nd,by simp,λa ha b hb z=>?_⟩
  have:b=p:=by simpa using hb
  subst this
  exact s.tracked ha (z▸hp)
 ·by_cases hl:l<J.length
  ·rw[List.getElem?_append_left hl] at h1
   rw[List.getElem?_append_left (by rw[← s.len];exact hl)] at h2
   have q:=s.at_ l a mo' h1 h2
   refine q.ex x ?_
   rw[au]
   intro z
   exact q.ne_none (z▸hp)
  ·rw[List.getElem?_append_right (by omega)] at h1
   rw[List.getElem?_append_right (by rw[← s.len];omega)] at h2
   have e0:l-J.length=0:=by
    have:=(List.getElem?_eq_some_iff.mp h1).1
    simp at this;omega
   rw[e0] at h1
   rw[← s.len,e0] at h2
   simp at h1 h2
   subst h1 h2
   exact hm
theorem nM:SE X W (.Dict [] [] pos) qd:=pe_dnewK.imp λσ H Q h=>by
 obtain⟨J,ρ,S,r,S',c,_,e,z⟩:=h
 cases e
 intro p hp
 have q:=c.sto.push (o:=.dK []) (mo:=.dict []) hp ⟨[],upd_same,.nil⟩
 refine z (J++[p]) _ _ q.2 q.1 (At.loc_iff.mpr ⟨p,rfl,?_⟩)
 rw[← c.sto.len,List.getElem?_append_right (Nat.le_refl _)]
 simp
theorem StoOk.update {K:PySem.W.Frag}{J:List Addr}{S:Sto}{H:Hp}{l:Nat}{a:Addr}{o:HO}{mo:MO}(s:StoOk K J S H)(hl:J[l]?=some a)(hm:∀ J' H',Ex J H J' H'->H'=upd H a o->J'=J->MAt K H' J' mo a):StoOk K J (S.set l mo) (upd H a o)/\Ex J H J (upd H a o):=by
 have hin:a∈J:=List.mem_of_getElem? hl
 have x:Ex J H J (upd H a o):=⟨List.prefix_refl _,λb u hb nb=>⟨by rw[au (λz:b=a=>nb (by rw[z];exact hin))];exact hb,nb⟩⟩
 refine⟨⟨by rw[List.length_set];exact s.len,s.nd,λj b mo' h1 h2=>?_⟩,x⟩
 by_cases hj:j=l
 ·subst hj
  rw[hl] at h1
  cases h1
  have hlt:j<S.length:=by rw[← s.len];exact (List.getElem?_eq_some_iff.mp hl).1
  rw[List.getElem?_set_self hlt] at h2
  cases h2
  exact hm J _ x rfl rfl
 ·rw[List.getElem?_set_ne (Ne.symm hj)] at h2
  refine (s.at_ j b mo' h1 h2).ex x ?_
  rw[au]
  intro z
  subst z
  exact hj ((List.getElem?_inj (List.getElem?_eq_some_iff.mp h1).1 s.nd).mp (h1.trans hl.symm))
def oZ (x k v:D)(ρ:Rho)(S:Sto):Out Fl:=match x with
 | .loc l=>match S[l]?,dE k with
  |some (.dict kvs),some _=>if kvs.length<sizeLine then okO (.next ρ) (S.set l (.dict (putD kvs k v))) else none
  |_,_=>none
 |_=>none
def rK (fo fi fv:Rho->Sto->Out D):Rho->Sto->Out Fl:=λρ S=>ae (fv ρ S) λv S1=>ae (fo ρ S1) λx S2=>ae (fi ρ S2) λk S3=>oZ x k v ρ S3
def tH (X:Cx)(W:WT)(ds:List D)(vs:List V)(g:Rho->Sto->Out Fl):TS:=λE σ H => ∃ J ρ S r S',Cf X J ρ S σ H/\Ats X.K H J ds vs/\g ρ S=some (r,S')/\EndS X W J H r S' E
theorem tH.bindE {fa:Rho->Sto->Out D}{k:D->Rho->Sto->Out Fl}{ds:List D}{vs:List V}{E:Ends}{σ:St}{H:Hp}
  (h:tH X W ds vs (λρ S=>ae (fa ρ S) λd S1=>k d ρ S1) E σ H):tE X W fa σ H λv H1 => ∃ d,tH X W (d::ds) (v::vs) (k d) E σ H1:=by
 obtain⟨J,ρ,S,r,S',c,a,e,z⟩:=h
 cases q:fa ρ S with
 |none=>simp[q] at e
 |some o =>
  obtain⟨ro,S1⟩:=o
  simp only[q] at e
  cases ro with
  |error x =>
   cases e
   exact⟨J,ρ,S,.error x,_,c,.nil,q,z⟩
  |ok d=>exact⟨J,ρ,S,.ok d,S1,c,.nil,q,λJ1 H1 v x s1 m=>⟨d,J1,ρ,S1,r,S',c.re x s1,.cons m (a.ex x),e,z.ex x⟩⟩
theorem v5 {k:D}{y:Key}{K:PySem.W.Frag}{H:Hp}{J:List Addr}{v:V}(g:dE k=some y)(a:At K H J k v):v=kV y:=by
 cases k with
 |int i=>cases g;exact At.int_iff.mp a
 |str x=>cases g;exact (At.str_iff.mp a).1
 |_=>cases g
theorem qH (hu:X.A.units+1<cLine)(ho:SE X W o fo)(hi:SE X W i fi)(hv:SE X W e fv)(hs:swapsWith e (some (.Subscript o i pos')) pos.line X.env=pure false:=by rfl):SS X W (.Assign [.Subscript o i pos'] e pos) (rK fo fi fv):=
 (xl hu ho hi hv hs).imp λE σ H h=>by
  have h:tH X W [] [] (rK fo fi fv) E σ H:=let ⟨J,ρ,S,r,S',c,e,z⟩:=h;⟨J,ρ,S,r,S',c,.nil,e,z⟩
  refine (tH.bindE h).mono λv H1 ⟨dv,h1⟩=>(tH.bindE h1).mono λx H2 ⟨dx,h2⟩=>(tH.bindE h2).mono λy H3 ⟨dk,h3⟩=>?_
  obtain⟨J,ρ,S,r,S',c,m,e,z⟩:=h3
  obtain⟨mk,m⟩:=m.uncons
  obtain⟨mx,m⟩:=m.uncons
  obtain⟨mv,_⟩:=m.uncons
  unfold oZ at e
  cases dx with
  |loc l =>
   simp only at e
   split at e
   ·rename_i kvs yk es ek
    split at e
    ·rename_i lt
     cases e
     obtain⟨a,rfl,ha⟩:=At.loc_iff.mp mx
     obtain⟨ps,eh,rp⟩:=c.sto.at_ l a _ ha es
     have ey:=v5 ek mk
     subst ey
     have q:=c.sto.update (o:=.dK (putK ps yk v)) (mo:=.dict (putD kvs dk dv)) ha λJ' H' x' eH eJ=>by
      subst eH eJ
      refine⟨_,upd_same,yT ek (mk.ex x') (mv.ex x') ?_⟩
      exact Paired.mapP rp λp q z=>⟨⟨z.1.1,z.1.2.ex x'⟩,z.2.ex x'⟩
     exact⟨a,_,rfl,DPut.k eh (by rw[← gZ rp];exact lt),z J σ _ q.2 (c.re q.2 q.1)⟩
    ·cases e
   ·cases e
  |_=>cases e
def xN (neg:Bool)(k x:D)(S:Sto):Option D:=match x with
 | .loc l=>match S[l]?,dE k with
  |some (.dict kvs),some _=>some (.bl (if neg then !(getD kvs k).isSome else (getD kvs k).isSome))
  |_,_=>none
 |_=>none
def wD (neg:Bool)(fk fd:Rho->Sto->Out D):Rho->Sto->Out D:=λρ S=>ae (fk ρ S) λk S1=>ae (fd ρ S1) λx S2=>aE (xN neg k x S2) S2
theorem pS {neg:Bool}{σ:St}{H:Hp}{Q:VK}(h:tE X W (wD neg fi fo) σ H Q):tE X W fi σ H λy H1=>tE X W fo σ H1 λx H2 => ∃ a o,x = .ref a/\DGet H2 a y o/\Q (.bl (if neg then !o.isSome else o.isSome)) H2:=
 (tG.bindE h).mono λy H1 ⟨dk,h1⟩=>(tG.bindE h1).mono λx H2 ⟨dx,h2⟩=>by
  obtain⟨J,ρ,S,r,S',c,m,e,z⟩:=h2
  obtain⟨mx,m⟩:=m.uncons
  obtain⟨mk,_⟩:=m.uncons
  unfold xN at e
  cases dx with
  |loc l =>
   simp only at e
   split at e
   ·rename_i kvs yk es ek
    cases e
    obtain⟨a,rfl,ha⟩:=At.loc_iff.mp mx
    obtain⟨ps,eh,rp⟩:=c.sto.at_ l a _ ha es
    have ey:=v5 ek mk
    subst ey
    refine⟨a,_,rfl,DGet.k eh,?_⟩
    have q:=z J H2 _ Ex.refl c.sto (At.bl_iff.mpr rfl)
    rcases wb ek rp with ⟨g1,g2⟩ |⟨d,v,g1,g2,_⟩
    ·rw[g1] at q;rw[g2];exact q
    ·rw[g1] at q;rw[g2];exact q
   ·cases e
  |_=>cases e
theorem yM (hu:X.A.units+1<cLine)(hi:SE X W i fi)(ho:SE X W o fo)(hm:behindInMarks .In o=false:=by with_unfolding_all rfl):SE X W (.Compare i [.In] [o] pos) (wD false fi fo):=
 (y9 (y_ hu hi ho) hm).imp λσ H Q h=>pS (neg:=false) h
theorem tX (hu:X.A.units+1<cLine)(hi:SE X W i fi)(ho:SE X W o fo)(hm:behindInMarks .NotIn o=false:=by with_unfolding_all rfl):TS1 X W (.Compare i [.NotIn] [o] pos) (b9 (wD true fi fo)):=
 (vt (uj hu hi ho) hm).imp λσ H Q h=>tTest.mono (t:=rZ (tE X W fi) (tE X W fo)) (λ_ _ _=>pS (neg:=true)) (io h)
def tj (x k:D)(S:Sto):Option D:=match x with
 | .loc l=>match S[l]?,dE k with
  |some (.dict kvs),some _=>getD kvs k
  |_,_=>none
 |_=>none
def A3 (fd fk:Rho->Sto->Out D):Rho->Sto->Out D:=λρ S=>ae (fd ρ S) λx S1=>ae (fk ρ S1) λk S2=>aE (tj x k S2) S2
theorem xb (hu:X.A.units+1<cLine)(ho:SE X W o fo)(hi:SE X W i fi)(hs:uV i):SE X W (.Subscript o i pos) (A3 fo fi):=(xu hu ho hi hs).imp λσ H Q h =>
 (tG.bindE h).mono λx H1 ⟨dx,h1⟩=>(tG.bindE h1).mono λy H2 ⟨dk,h2⟩=>by
  obtain⟨J,ρ,S,r,S',c,m,e,z⟩:=h2
  obtain⟨mk,m⟩:=m.uncons
  obtain⟨mx,_⟩:=m.uncons
  unfold tj at e
  cases dx with
  |loc l =>
   simp only at e
   split at e
   ·rename_i kvs yk es ek
    obtain⟨a,rfl,ha⟩:=At.loc_iff.mp mx
    obtain⟨ps,eh,rp⟩:=c.sto.at_ l a _ ha es
    have ey:=v5 ek mk
    subst ey
    rcases wb ek rp with ⟨g1,g2⟩ |⟨d,v,g1,g2,av⟩
    ·rw[g1] at e;cases e
    ·rw[g1] at e
     cases e
     exact⟨a,v,rfl,by rw[← g2];exact DGet.k eh,z J H2 _ Ex.refl c.sto av⟩
   ·cases e
  |_=>cases e
end
section
variable {X:Cx}{W:WT}
theorem SE.either {e:Expr}{g g1 g2:Rho->Sto->Out D}(h1:SE X W e g1)(h2:SE X W e g2)(h:∀ ρ S,g ρ S=g1 ρ S∨g ρ S=g2 ρ S):SE X W e g:=λpins s σ H Q I z=>by
 obtain⟨J,ρ,S,r,S',c,a,e,y⟩:=z
 rcases h ρ S with q |q
 ·exact h1 pins s σ H Q I ⟨J,ρ,S,r,S',c,a,by rw[← q];exact e,y⟩
 ·exact h2 pins s σ H Q I ⟨J,ρ,S,r,S',c,a,by rw[← q];exact e,y⟩
theorem TS1.either {e:Expr}{g g1 g2:Rho->Sto->Out Bool}(h1:TS1 X W e g1)(h2:TS1 X W e g2)(h:∀ ρ S,g ρ S=g1 ρ S∨g ρ S=g2 ρ S):TS1 X W e g:=λpins s σ H Q I z=>by
 obtain⟨J,ρ,S,r,S',c,a,e,y⟩:=z
 rcases h ρ S with q |q
 ·exact h1 pins s σ H Q I ⟨J,ρ,S,r,S',c,a,by rw[← q];exact e,y⟩
 ·exact h2 pins s σ H Q I ⟨J,ρ,S,r,S',c,a,by rw[← q];exact e,y⟩
theorem SI.either {tg e:Expr}{g g1 g2:Rho->Sto->Out (List D)}(h1:SI X W tg e g1)(h2:SI X W tg e g2)(h:∀ ρ S,g ρ S=g1 ρ S∨g ρ S=g2 ρ S):SI X W tg e g:=λpins s σ H R I z=>by
 obtain⟨J,ρ,S,r,S',c,e,y⟩:=z
 rcases h ρ S with q |q
 ·exact h1 pins s σ H R I ⟨J,ρ,S,r,S',c,by rw[← q];exact e,y⟩
 ·exact h2 pins s σ H R I ⟨J,ρ,S,r,S',c,by rw[← q];exact e,y⟩
theorem bK {α β:Type}(m:Out α){k k1 k2 : α->Sto->Out β}(h:∀ a S,k a S=k1 a S∨k a S=k2 a S):ae m k=ae m k1∨ae m k=ae m k2:=by
 cases m with
 |none=>exact .inl rfl
 |some o =>
  obtain⟨r,S⟩:=o
  cases r with
  |error c=>exact .inl rfl
  |ok a=>exact h a S
def bN:D->Bool
 | .loc _=>true
 |_=>false
def ixO (x i:D)(S:Sto):Option D:=if bN x=true then tj x i S else ixD x i
def cIx (fa fb:Rho->Sto->Out D):Rho->Sto->Out D:=λρ S=>ae (fa ρ S) λx S1=>ae (fb ρ S1) λi S2=>aE (ixO x i S2) S2
variable {a b:Expr}{fa fb:Rho->Sto->Out D}{pos:Pos}
theorem bg (hu:X.A.units+1<cLine)(ha:SE X W a fa)(hb:SE X W b fb)(hs:uV b:=by exact λ_ _=>rfl):SE X W (.Subscript a b pos) (cIx fa fb):=
 SE.either (xb hu ha hb hs) (yg ixd ha hb hs) λρ S=>bK _ λx S1=>by
  by_cases h:bN x=true
  ·refine .inl (congrArg (ae (fb ρ S1)) (funext λi=>funext λS2=>?_));unfold ixO;rw[if_pos h]
  ·refine .inr (congrArg (ae (fb ρ S1)) (funext λi=>funext λS2=>?_));unfold ixO;rw[if_neg h]
def inO (neg:Bool)(k x:D)(S:Sto):Option D:=if bN x=true then xN neg k x S else (if neg=true then qW k x else inD k x)
def cIn (neg:Bool)(fk fd:Rho->Sto->Out D):Rho->Sto->Out D:=λρ S=>ae (fk ρ S) λk S1=>ae (fd ρ S1) λx S2=>aE (inO neg k x S2) S2
theorem mN (neg:Bool)(fk fd:Rho->Sto->Out D)(ρ:Rho)(S:Sto):cIn neg fk fd ρ S=wD neg fk fd ρ S∨cIn neg fk fd ρ S=aG (if neg=true then qW else inD) fk fd ρ S:=by
 unfold cIn wD aG
 refine bK _ λk S1=>bK _ λx S2=>?_
 unfold inO
 by_cases h:bN x=true
 ·exact .inl (by rw[if_pos h])
 ·refine .inr ?_
  rw[if_neg h]
  cases neg<;>rfl
variable (hu:X.A.units+150<cLine) (hu1:X.A.units+1<cLine)
include hu hu1
theorem yL (hu2:X.A.units+151<cLine)(ha:SE X W a fa)(hb:SE X W b fb)(hm:behindInMarks .In b=false:=by with_unfolding_all rfl):SE X W (.Compare a [.In] [b] pos) (cIn false fa fb):=
 SE.either (yM hu1 ha hb hm) (qM (AB hu2) ha hb hm) λρ S=>mN false fa fb ρ S
theorem qA {f f1 f2:Rho->Sto->Out D}{ρ:Rho}{S:Sto}(h:f ρ S=f1 ρ S∨f ρ S=f2 ρ S):b9 f ρ S=b9 f1 ρ S∨b9 f ρ S=b9 f2 ρ S:=by
 unfold b9
 rcases h with h |h
 ·exact .inl (by rw[h])
 ·exact .inr (by rw[h])
theorem tW (hu2:X.A.units+151<cLine)(ha:SE X W a fa)(hb:SE X W b fb)(hm:behindInMarks .NotIn b=false:=by with_unfolding_all rfl):TS1 X W (.Compare a [.NotIn] [b] pos) (b9 (cIn true fa fb)):=
 TS1.either (tX hu1 ha hb hm) (cD (vG hu2) ha hb hm) λρ S=>qA hu hu1 (mN true fa fb ρ S)
omit hu hu1
def eX:D->Option (List D)
 | .tup xs=>some xs
 | .lst xs=>some xs
 | .str x=>some (x.cps.toList.map λc=>D.str ⟨#[c]⟩)
 |_=>none
def cY (f:Rho->Sto->Out D):Rho->Sto->Out (List D):=λρ S=>ae (f ρ S) λd S1=>aE (eX d) S1
theorem gT {tg:Expr}(ha:SE X W a fa):SI X W tg a (cY fa):=by
 refine SI.either (g1:=rJ fa) (g2:=λρ S=>ae (fa ρ S) λd S1=>aE (match d with | .lst xs=>some xs | .str x=>some (x.cps.toList.map λc=>D.str ⟨#[c]⟩) |_=>none) S1) (yH ha) (SI.either (yJ ha) (yI ha) λρ S=>?_) λρ S=>?_
 ·unfold wB ww
  refine bK _ λd S1=>?_
  cases d<;>first |exact .inl rfl |exact .inr rfl
 ·unfold cY rJ
  refine bK _ λd S1=>?_
  cases d<;>first |exact .inl rfl |exact .inr rfl
end
noncomputable def bh (n m:Nat) (G:Rho->Sto->Out Fl):List D->Sto->Out D:=λds S=>if ds.length=n then
  match G (ds.map some++List.replicate m none) S with
  |some (.ok (.ret d),S')=>some (.ok d,S')
  |some (.ok (.next _),S')=>some (.ok .non,S')
  |_=>none
 else none
def bC (K:PySem.W.Frag)(mg:Str->Option Value)(x:Str)(st:Stmt)(ps:List Str):Prop:=∃ f fd,Fun K x x st f fd/\mg x=some (.ref f)/\Binds K fd ps []
def Cal (P:Program)(w:World)(K:PySem.W.Frag)(mg:Str->Option Value)(base:Heap)(k:Nat)(x:Str)(ps:List Str)(F:List D->Sto->Out D):Prop:=
 ∃ f fd,FnD P w K mg base k f fd ps F/\mg x=some (.ref f)/\PySem.W.keepIn K (.ref f)=true/\Binds K fd ps []
section
variable {P:Program}{w:World}{K:PySem.W.Frag}{mg:Str->Option Value}{base:Heap}
theorem lm {x:Str}{st:Stmt}{sc:Scope}{N ps:List Str}{k:Nat}{G:Rho->Sto->Out Fl}{f:Addr}{fd:FuncData}(Fn:Fun K x x st f fd)(hsc:al st=sc)(Sc:FnScope N ps sc)
  (h:∀ (f:Addr) (cdv:Value) (A:Around) (outer:List Env) (s:Shared) (H:Hp) (E:XK),Room k (A.deeper (envOfC x sc s.heap.objs.size f cdv))->SSs (j1 CX0 P w K mg base N x sc f cdv A outer s H E).nox W0 (bd st) G) :
  FnD P w K mg base (k+1) f fd ps (bh ps.length (N.length-ps.length) G):=by
 subst hsc
 refine sZ Fn Sc (λds S r e=>?_) λcdv A outer s H E hr=>⟨G,h f cdv A outer s H E hr,λds S d S' e=>?_⟩
 ·unfold bh at e
  split at e
  ·assumption
  ·cases e
 ·unfold bh at e
  split at e
  ·rename_i hl
   rw[hl]
   split at e
   ·rename_i d0 S0 q
    cases e
    exact⟨_,q,.inl rfl⟩
   ·rename_i ρ0 S0 q
    cases e
    exact⟨_,q,.inr ⟨rfl,ρ0,rfl⟩⟩
   ·cases e
  ·cases e
theorem bp {x:Str}{st:Stmt}{sc:Scope}{N ps:List Str}{k:Nat}{G:Rho->Sto->Out Fl}(Dd:bC K mg x st ps)(hsc:al st=sc)(Sc:FnScope N ps sc)
  (h:∀ (f:Addr) (cdv:Value) (A:Around) (outer:List Env) (s:Shared) (H:Hp) (E:XK),Room k (A.deeper (envOfC x sc s.heap.objs.size f cdv))->SSs (j1 CX0 P w K mg base N x sc f cdv A outer s H E).nox W0 (bd st) G) :
  Cal P w K mg base (k+1) x ps (bh ps.length (N.length-ps.length) G):=by
 obtain⟨f,fd,Fn,hm,hb⟩:=Dd
 exact⟨f,fd,lm Fn hsc Sc h,hm,Fn.kp,hb⟩
theorem iS {x:Str}{st:Stmt}{ps:List Str}{k:Nat}(Dd:bC K mg x st ps):Cal P w K mg base k x ps (λ_ _=>none):=by
 obtain⟨f,fd,Fn,hm,hb⟩:=Dd
 have no:∀ vs H Q E,¬ spD K (λ_ _=>none) vs H Q E:=λvs H Q E h=>by
  obtain⟨J,S,ds,d,S',_,_,e,_⟩:=h
  cases e
 exact⟨f,fd,⟨λvs H Q E h=>absurd h (no vs H Q E),λA outer s H args us vs Q E _ _ _ _ h=>absurd h (no vs H Q E)⟩,hm,Fn.kp,hb⟩
theorem a_ {A:Around}{k:Nat}(hr:Room k A):A.units+150<cLine:=by have:=hr.un;omega
theorem aZ {A:Around}{k:Nat}(hr:Room k A):A.units+151<cLine:=by have:=hr.un;omega
end
section
variable {X:Cx}{W:WT}{x:Str}{p pos:Pos}{e:Expr}{es:List Expr}{gs:Rho->Sto->Out (List D)}
theorem aI {k:Nat}{ps:List Str}{F:List D->Sto->Out D}(C:Cal X.prog X.w X.K X.mg X.base k x ps F)(hr:Room k X.A)
  (ha:SA X W (e::es) gs) (hg:Gl X x:=by rfl) (hdb:(x==("__debug__":Str))=false:=by decide) (he:starEach (e::es) X.env=(false,eval e X.env)::starEach es X.env:=by rfl) (hpl:(backTo pos (starEach es X.env)).any (·.1)=false:=by rfl) :
  SE X W (.Call (.Name x p) (e::es) [] pos) (bi F gs):=by
 obtain⟨f,fd,G,hm,hk,hb⟩:=C
 exact xc G hr hm hk hb ha hg hdb he hpl
end
def r8 (K:PySem.W.Frag)(n:Nat):Sp:=λvs H Q _ => ∃ (a:Addr) (ns:List Int),vs=[.ref a]/\SqL K H a (ns.map V.int)/\ns.length<=n/\∀ H',Q (.bl true) H'
theorem zt {P:Program}{w:World}{K:PySem.W.Frag}{mg:Str->Option Value}{base:Heap}{k n:Nat}{f:Addr}{fd:FuncData}{ps:List Str}{F:List D->Sto->Out D}(h:FnD P w K mg base k f fd ps F)(hn:n<=1000)
  (hF:∀ ns:List Int,ns.length<=n->∃ S',F [.lst (ns.map .int)] []=some (.ok (.bl true),S')):FnOk P w K mg base CX0 k f fd ps (r8 K n):=by
 refine FnOk.imp h λvs H Q E ⟨a,ns,e,hS,hl,q⟩=>?_
 subst e
 obtain⟨S',eF⟩:=hF ns hl
 refine⟨[],[],[.lst (ns.map .int)],.bl true,S',.cons (At.lst_iff.mpr ⟨a,ns.map V.int,rfl,?_,Ats.ofInts ns⟩) .nil,⟨rfl,.nil,λl a o h=>by simp at h⟩,eF,λJ' H' v _ _ m=>?_⟩
 ·rcases hS with z |z
  ·exact .inl ⟨z,by simp,by rw[List.length_map];exact Nat.le_trans hl (Nat.le_trans hn (by decide))⟩
  ·exact .inr z
 ·rw[At.bl_iff.mp m];exact q H'
theorem law_walk {l:PySem.W.OpenLaw}{q:Program}{loose:List Str}{XP:(Str->Option Value)->Heap->Prop}{YP:World->Heap->Prop}{d:DefRec}{K:Params->PySem.W.Frag}{k:Nat}{x:Str}(hn:l.most=some 63)(hdf:d.params.defaults=[])(hr:Room k callerA)
  (hY:∀ (w:World) (h:Heap),YP w h->(K w.params).In h)
  (F:∀ (w:World) (mg:Str->Option Value) (fa:Addr) (h:Heap),(K w.params).In h->h.Ns mainGlobals mg->mg d.name=some (.ref fa) ->
   ∃ fd:FuncData,(∀ (s:Shared) (u:Value),BindsTo s fd ⟨[u],[]⟩ [(x,u)])/\∀ base:Heap,(K w.params).In base->base.Ns mainGlobals mg->FnOk l.prog w (K w.params) mg base CX0 k fa fd [x] (r8 (K w.params) 63)) :
  PySem.W.WalkO q loose XP YP l.row.toRowW d [] (λf vs=>PySem.call f vs):=
 L2.walk_of (n:=63) (k:=k) (x:=x) (CX:=λ_=>CX0) (sp:=λw=>r8 (K w.params) 63) hn (by decide) hdf hr hY F (λ_ _ a ns hl _ hS=>⟨a,ns,rfl,hS,hl,λ_=>rfl⟩) λ_ _ _ _ _ z=>z
theorem dz:bootBuiltins "len"=some (.builtin "len"):=by decide +kernel
theorem fZ:bootBuiltins "tuple"=some (.type "tuple"):=by decide +kernel
theorem xZ:bootBuiltins "list"=some (.type "list"):=by decide +kernel
theorem zU:bootBuiltins "int"=some (.type "int"):=by decide +kernel
theorem zT:bootBuiltins "min"=some (.builtin "min"):=by decide +kernel
theorem nk:bootBuiltins "sorted"=some (.builtin "sorted"):=by decide +kernel
end L2
namespace L2
open PySem
section
variable {prog:Program}{w:World}{K:Type} [DecidableEq K]
def Ris (xs:Array Nat):Prop:=xs.toList.Pairwise (· < ·)
theorem jP {α β:Type}{F : α->β->Prop}{l:List α}{m:List β}(r:Paired F l m):l.length=m.length:=by
 induction r with
 |nil=>rfl
 |cons g t ih=>simp[ih]
variable {knd:KeyKind prog w K}{pk:K->Bool}{led:Bool}
def jw (ks:List K)(k:K):List K:=if k∈ks then ks else ks++[k]
variable {A:Around}{E:Value->Shared->Prop}{s:Shared}
end
section
variable {prog:Program}{w:World}{K:Type} [DecidableEq K] {knd:KeyKind prog w K}{pk:K->Bool}{led:Bool}
def met (val:Nat->K)(i:Nat):List K:=((List.range i).map val).foldl jw []
section
variable {A:Around}{E:Value->Shared->Prop}{s:Shared}
def byT (w:World):Bool:=w.params.followText "set-order"
end
end
section
variable {prog:Program}{w:World}{A:Around}{E:Value->Shared->Prop}{s:Shared}
inductive Way (w:World) (a it:Addr) (es:Array (Int×Value)) (ep:Nat) (t:SetTable):Array (Int×Value)->List Addr->(Nat->Value->Heap->Prop)->Prop where
 |text (hb:byT w=true):Way w a it es ep t (pickOrder (w.params.setOrder a ep) es) [it,a] (λ_ f _ => ∃ k:Nat,f = .int k 0)
 |one (hb:byT w=false) (hl:t.led=true) (h1:t.plain=true∨es.size<=1) (hr:Ris t.place):Way w a it es ep t es [it,a] (λi f _ => ∃ k:Nat,f = .int k 0/\SetTable.below t.place k=i)
 |drawn (hb:byT w=false) (hp:t.plain=false) (h1 : 1<es.size) (tp:Addr) (order:List Nat) (ho:order.Perm (List.range es.size)):tp≠it ->
  Way w a it es ep t (order.filterMap λi=>es[i]?).toArray [it,a,tp] (λ_ f h=>f = .ref tp/\h.IsTuple tp (order.map λ(i:Nat)=>Value.int i 0).toArray)
end
section
variable {prog:Program}{w:World}{A:Around}{E:Value->Shared->Prop}{s:Shared}
variable {a it:Addr}{o:Obj}{es:Array (Int×Value)}{ep:Nat}{t:SetTable}
theorem yR {α:Type}{Q : α->Shared->Prop}(hh:A.handled=none)(h:∀ h' e,(∀ b o,s.heap.get? b=some o->h'.get? b=some o)->(∃ o,h'.get? e=some o/\o.cls = .type "StopIteration")->E (.ref e) { s with heap:=h' }) :
  wpAny (model prog w) A (newExc (.type "StopIteration") [] >>= λe=>(raiseNew e:Sem α)) Q E s:=by
 refine wpAny_bind ?_
 simp only[newExc,newTuple]
 refine wpAny_bind (wpAny_newObj_type ?_ (by size_fits))
 refine wpAny_bind (m:=firstArgMember _ _) (wpAny_of_eq (a:=Value.none) (by first |rfl |(simp only[firstArgMember];rfl)) ?_)
 refine wpAny_newObj_type ?_ (by size_fits)
 simp only[raiseNew]
 refine wpAny_bind (wpAny_handled ?_)
 rw[hh]
 refine wpAny_bind (wpAny_pure (wpAny_throw ?_))
 exact h _ _ (λb o e=>Heap.get?_push_of_some _ (Heap.get?_push_of_some _ e)) ⟨_,Heap.get?_push_size _ rfl,rfl⟩
end
section
variable {prog:Program}{w:World}{A:Around}{E:Value->Shared->Prop}{s:Shared}
set_option maxHeartbeats 1000000 in
theorem pX {x:Addr}{T:String}(hTT:T="set"∨T="dict")(hT:s.TypeIs (.ref x) T){Q:List Value->Shared->Prop}(Pf:List Value->Prop)
  (hiter:∀ (h0:Heap) (Q':Value->Shared->Prop) (E':Value->Shared->Prop),(∀ b o,s.heap.get? b=some o->h0.get? b=some o) ->
   (∀ (I:Addr) (fp wr:List Addr) (n:Nat) (P:Nat->Value->Prop) (St:Nat->Shared->Prop) (s1:Shared),WalksS prog w A.in1 I fp wr (λa b=>b=a) n P St->St 0 s1->n<=sizeLine->(∀ b∈fp,b=x∨h0.objs.size<=b)->(∀ b∈wr,h0.objs.size<=b) ->
    (∀ b o,h0.get? b=some o->s1.heap.get? b=some o)->s1.gens=s.gens->s1.os=s.os->(∀ acc,ItemsOf P acc n->Pf acc.toList)->Q' (.ref I) s1)->wpAny (model prog w) A.in1 (pyIter (.ref x)) Q' E' { s with heap:=h0 })
  (hQ:∀ s' acc,Pf acc->(∀ b o,s.heap.get? b=some o->s'.heap.get? b=some o)->s'.gens=s.gens->s'.os=s.os->Q acc s'):wpAny (model prog w) A (collect (.ref x)) Q E s:=by
 obtain⟨ox,hox,hcx⟩:=id hT
 have hxs:x<s.heap.objs.size:=Heap.lt_size hox
 unfold collect
 refine wpAny_bind (wpAny_runValue (codeAny_builtin F.entry_proto_collect ?_))
 rw[Around.under_plainId F.plain_proto_collect _]
 show wpAny _ A.in1 (newList [] >>= λl=>again (.builtin "list.__iadd__" ⟨[l,.ref x],[]⟩)) _ _ s
 refine wpAny_bind (wpAny_newObj_type ?_)
 refine wpAny_pure ⟨plainId_quiet F.plain_list_iadd _,codeAny_builtin F.entry_list_iadd ?_⟩
 rw[Around.under_plainId F.plain_list_iadd _]
 have hS1:(s.heap.push { cls:=.type "list",data:=.seq ([]:List Value).toArray }).get? s.heap.objs.size=some { cls:=.type "list",data:=.seq ([]:List Value).toArray }:=Heap.get?_push_size _ rfl
 have hT1:Shared.TypeIs { s with heap:=s.heap.push { cls:=.type "list",data:=.seq ([]:List Value).toArray } } (.ref x) T:=⟨ox,Heap.get?_push_of_some _ hox,hcx⟩
 have n1:Builtin.List.listSameRef (.ref s.heap.objs.size) (.ref x)=false:=by simp[Builtin.List.listSameRef,Nat.ne_of_gt hxs]
 show wpAny _ A.in1 (Builtin.List.listExtendWith (.ref s.heap.objs.size) (.ref x) (.ref s.heap.objs.size)) _ _ _
 unfold Builtin.List.listExtendWith
 refine wpAny_bind (wpAny_typeOf hT1 ?_)
 have kp:∀ b o,s.heap.get? b=some o->(s.heap.push { cls:=.type "list",data:=.seq ([]:List Value).toArray }).get? b=some o:=λb o e=>Heap.get?_push_of_some _ e
 have sz:(s.heap.push { cls:=.type "list",data:=.seq ([]:List Value).toArray }).objs.size=s.heap.objs.size+1:=Heap.size_push ..
 have main:∀ (I:Addr) (fp wr:List Addr) (n:Nat) (P:Nat->Value->Prop) (St:Nat->Shared->Prop) (s1:Shared),WalksS prog w A.in1 I fp wr (λa b=>b=a) n P St->St 0 s1->n<=sizeLine ->
   (∀ b∈fp,b=x∨(s.heap.push { cls:=.type "list",data:=.seq ([]:List Value).toArray }).objs.size<=b)->(∀ b∈wr,(s.heap.push { cls:=.type "list",data:=.seq ([]:List Value).toArray }).objs.size<=b) ->
   (∀ b o,(s.heap.push { cls:=.type "list",data:=.seq ([]:List Value).toArray }).get? b=some o->s1.heap.get? b=some o)->s1.gens=s.gens->s1.os=s.os->(∀ acc,ItemsOf P acc n->Pf acc.toList) ->
   ∀ (R:Result->Shared->Prop),(∀ s' acc c,Pf acc.toList->(∀ b o,s.heap.get? b=some o->s'.heap.get? b=some o)->s'.gens=s.gens->s'.os=s.os->s'.heap.get? s.heap.objs.size=some { cls:=.type "list",dict:=none,data:=.seq acc c,slots:=#[] }->R (.ok (.ret (.ref s.heap.objs.size))) s') ->
   wpAny (model prog w) A.in1 (rule "list.extend.makes-room" >>= λ_=>Builtin.List.listTouch (.ref s.heap.objs.size) >>= λ_=>again (.builtin "list.extend.loop" ⟨[.ref s.heap.objs.size,.ref I,.ref s.heap.objs.size],[]⟩))
    (λfin s'=>match fin with | .done f=>R (.ok f) s' | .again c'=>c'.quiet=true/\codeAny (model prog w) A c' R s') (λe s'=>R (.error e) s') s1:=by
  intro I fp wr n P St s1 W st hn hfp hwr k1 g1 o1 hP R hR
  have hSf:s.heap.objs.size∉fp:=λhm=>by
   rcases hfp _ hm with e |e
   ·exact Nat.ne_of_gt hxs e
   ·rw[sz] at e;exact Nat.not_succ_le_self _ e
  refine wpAny_bind (wpAny_rule ?_)
  refine wpAny_bind ?_
  have hS:s1.heap.get? s.heap.objs.size=some { cls:=.type "list",data:=.seq ([]:List Value).toArray }:=k1 _ _ hS1
  show wpAny _ A.in1 (updateSeq s.heap.objs.size (·.push .none) >>= λ_=>updateSeq s.heap.objs.size (·.pop)) _ _ _
  refine wpAny_bind (wpAny_updateSeq hS rfl ?_)
  have hS2:=Heap.get?_update_self (Obj.mapSeq (·.push Value.none)) hS rfl
  refine wpAny_updateSeq (hz:=by seq_fits) hS2 rfl ?_
  have hS3:=Heap.get?_update_self (Obj.mapSeq (·.pop)) hS2 rfl
  have oth:∀ b o,b≠s.heap.objs.size->s1.heap.get? b=some o->((s1.heap.update s.heap.objs.size (Obj.mapSeq (·.push Value.none))).update s.heap.objs.size (Obj.mapSeq (·.pop))).get? b=some o:=
   λb o hb e=>(Heap.get?_update_other _ _ (Ne.symm hb)).trans ((Heap.get?_update_other _ _ (Ne.symm hb)).trans e)
  refine wpAny_pure ⟨plainId_quiet F.plain_extend_loop _,codeAny_extend_loopS W hn _ hSf _ n 0 _ _ _ rfl (Nat.zero_le _) (W.frame 0 s1 _ s1.toks st (Nat.le_refl _) λb hb o e=>oth b o (λh=>hSf (h▸hb)) e) hS3 (ItemsOf.nil P) λs' acc' c' hm hS' hacc=>?_⟩
  refine hR s' acc' c' (hP acc' hacc) (λb o e=>?_) (hm.gens.trans g1) (hm.os.trans o1) hS'
  have hb:b<s.heap.objs.size:=Heap.lt_size e
  refine hm.heap b o (λz=>?_) (oth b o (Nat.ne_of_lt hb) (k1 b o (kp b o e)))
  rcases List.mem_cons.mp z with z |z
  ·exact Nat.ne_of_lt hb z
  ·have:=hwr b z
   rw[sz] at this
   exact Nat.not_succ_le_self _ (Nat.le_trans this (Nat.le_of_lt hb))
 have last:∀ (s':Shared) (acc:Array Value) (c:Nat),Pf acc.toList->(∀ b o,s.heap.get? b=some o->s'.heap.get? b=some o)->s'.gens=s.gens->s'.os=s.os->s'.heap.get? s.heap.objs.size=some { cls:=.type "list",dict:=none,data:=.seq acc c,slots:=#[] } ->
   wpAny (model prog w) A (load s.heap.objs.size >>= λo=>match o.data with | .seq xs _=>pure xs.toList |_=>unsupported "internal:collect") Q E s':=λs' acc c h1 h2 h3 h4 h5=>wpAny_bind (wpAny_load h5 (wpAny_pure (hQ s' acc.toList h1 h2 h3 h4)))
 rcases hTT with rfl |rfl
 ·rw[if_neg (by rw[n1];decide)]
  refine wpAny_bind (hiter _ _ _ kp λI fp wr n P St s1 W st hn hfp hwr k1 g1 o1 hP=>?_)
  have hT2:s1.TypeIs (.ref x) "set":=⟨ox,k1 _ _ (kp _ _ hox),hcx⟩
  refine wpAny_bind (wpAny_holding ?_)
  unfold Builtin.List.listLengthHint
  refine wpAny_bind (wpAny_specialOf hT2 F.slot_set_len.lookup ?_)
  (generalize hid:("set.__len__":String)=id0;wp_delta;rw[show splitId id0=some ("set","__len__") from by subst hid;decide +kernel];subst hid)
  refine wpAny_bind (wpAny_isInstance (b:=true) hT2 (by rw[isSubtype_type];kernel_rfl) ?_)
  refine wpAny_bind (wpAny_typeOf hT2 ?_)
  refine wpAny_pure ?_
  dsimp only
  split
  ·refine main I fp wr n P St s1 W st hn hfp hwr k1 g1 o1 hP (λr s'=>match r with
    | .ok (.ret v)=>wpAny (model prog w) A (match v with
     | .ref a=>do
      let o ← load a
      match o.data with
       | .seq xs _=>pure xs.toList
       |_=>unsupported "internal:collect"
     |_=>unsupported "internal:collect") Q E s'
    | .ok _=>False
    | .error e=>E e s') ?_
   exact λs2 acc c h1 h2 h3 h4 h5=>last s2 acc c h1 h2 h3 h4 h5
  ·rename_i hneg
   exact absurd (by decide) hneg
 ·rw[if_neg (by rw[n1];decide)]
  refine wpAny_bind (hiter _ _ _ kp λI fp wr n P St s1 W st hn hfp hwr k1 g1 o1 hP=>?_)
  have hT2:s1.TypeIs (.ref x) "dict":=⟨ox,k1 _ _ (kp _ _ hox),hcx⟩
  refine wpAny_bind (wpAny_holding ?_)
  unfold Builtin.List.listLengthHint
  refine wpAny_bind (wpAny_specialOf hT2 F.slot_dict_len.lookup ?_)
  (generalize hid:("dict.__len__":String)=id0;wp_delta;rw[show splitId id0=some ("dict","__len__") from by subst hid;decide +kernel];subst hid)
  refine wpAny_bind (wpAny_isInstance (b:=true) hT2 (by rw[isSubtype_type];kernel_rfl) ?_)
  refine wpAny_bind (wpAny_typeOf hT2 ?_)
  refine wpAny_pure ?_
  dsimp only
  split
  ·refine main I fp wr n P St s1 W st hn hfp hwr k1 g1 o1 hP (λr s'=>match r with
    | .ok (.ret v)=>wpAny (model prog w) A (match v with
     | .ref a=>do
      let o ← load a
      match o.data with
       | .seq xs _=>pure xs.toList
       |_=>unsupported "internal:collect"
     |_=>unsupported "internal:collect") Q E s'
    | .ok _=>False
    | .error e=>E e s') ?_
   exact λs2 acc c h1 h2 h3 h4 h5=>last s2 acc c h1 h2 h3 h4 h5
  ·rename_i hneg
   exact absurd (by decide) hneg
end
end L2
namespace L2
open PySem PySem.Spec PyProof.Rows PySem.W
def iu (d:D)(S:Sto):Option D:=match d with
 | .tup xs=>(dG xs).map .lst
 | .lst xs=>(dG xs).map .lst
 | .loc l=>match S[l]? with
  |some (.dict kvs)=>(dG (kvs.map (·.1))).map .lst
  |_=>none
 |_=>none
def p_ (f:Rho->Sto->Out D):Rho->Sto->Out D:=λρ S=>ae (f ρ S) λd S1=>aE (iu d S1) S1
def wA (k:D->Bool)(g:D->D->Option D)(fe fa:Rho->Sto->Out D):Rho->Sto->Out D:=λρ S=>ae (fe ρ S) λx S1=>if k x=true then ae (fa ρ S1) λy S2=>aE (g x y) S2 else none
section
variable {X:Cx}{W:WT}
variable {e:Expr}{fe:Rho->Sto->Out D}{gs:Rho->Sto->Out (List D)}{pos pos2 p p2:Pos}{x y:Str}
theorem vT {k:D->Bool}{g:D->D->Option D}{fa:Rho->Sto->Out D}{T:String}{r:V->List V->Hp->VK->Prop}{σ:St}{H:Hp}{Q:VK}(hT:∀ J H1 d v,k d=true->At X.K H1 J d v->tyV X.K T v H1)
  (hr:∀ (v v2:V) (H2:Hp) (Q:VK),rD2 X.K g v v2 H2 Q->r v [v2] H2 Q) (h:tE X W (wA k g fe fa) σ H Q):tBM X.K T r (tE X W fe) (yd (tE X W fa) nE) σ H Q:=
 (tG.bindE h).mono λv H1 ⟨d,h1⟩=>by
  by_cases hk:k d=true
  ·simp only[hk,if_true] at h1
   refine⟨?_,(tG.bindE h1).mono λv2 H2 ⟨d2,h2⟩=>hr v v2 H2 Q (tG.op2 h2)⟩
   obtain⟨J,_,_,_,_,_,m,_,_⟩:=h1
   exact hT J H1 d v hk m.uncons.1
  ·obtain⟨J,ρ,S,r,S',c,m,e,z⟩:=h1
   simp only[hk,Bool.false_eq_true,if_false] at e
   cases e
theorem Inv.moved {pins:List (Addr×Obj)}{σ:St}{H:Hp}{s s':Shared}(I:Inv X pins σ H s)(k:∀ b o,s.heap.get? b=some o->s'.heap.get? b=some o)(g:s'.gens=s.gens)(o:s'.os=s.os):Inv X pins σ H s':=by
 obtain⟨h',g',d',t',o'⟩:=s'
 cases g;cases o
 exact I.call (d':=d') (t':=t') (g':=s.gens) (ch:=[]) (Un.kept k) (I.hok.kept k) I.bare λb z=>absurd z (by simp)
theorem jp {α β:Type}{R : α->β->Prop}:∀ {l:List α}{m:List β},l.length=m.length->(∀ (i:Nat) a b,l[i]?=some a->m[i]?=some b->R a b)->Paired R l m
 |[],[],_,_ => .nil
 |a::l,b::m,h,k => .cons (k 0 a b rfl rfl) (jp (by simpa using h) λi x y hx hy=>k (i+1) x y (by simpa using hx) (by simpa using hy))
 |[],_::_,h,_=>by simp at h
 |_::_,[],h,_=>by simp at h
theorem kY {α β:Type}{R : α->β->Prop}{l:List α}{m:List β}(r:Paired R l m):∀ (i:Nat) a b,l[i]?=some a->m[i]?=some b->R a b:=by
 induction r with
 |nil=>intro i a b h;simp at h
 |cons f t ih =>
  intro i a b h1 h2
  cases i with
  |zero=>simp at h1 h2;subst h1 h2;exact f
  |succ i=>exact ih i a b (by simpa using h1) (by simpa using h2)
theorem sO {P:Program}{w:World}{k:Key}{u:Value}(h:(bn P w).is k u=true):RelV (kV k) u:=by
 rcases aT h with ⟨i,t,rfl,e⟩ |⟨x,t,rfl,e⟩
 ·exact⟨t,e⟩
 ·exact⟨t,e⟩
theorem pV (hc:X.calm=true):gR X (.builtin "sorted") (λxs H Q => ∃ (p:Addr) (ps:List (Key×V)) (J:List Addr) (ds out:List D),xs=[.ref p]/\H p=some (.dK ps)/\(∀ a∈J,H a≠none)/\Ats X.K H J ds (ps.map λq=>kV q.1)/\dG ds=some out/\∀ H' v,Same H H'->At X.K H' J (.lst out) v->Q v H'):=by
 intro pins s σ H xs us Q I r h
 obtain⟨p,ps,J,ds,out,rfl,hp,hJ,m,e,q⟩:=h
 obtain⟨u,rfl,ru⟩:=vals1 r
 cases ru
 obtain⟨hz,hsys,vs,hkv,hd⟩:=I.hok p _ hp
 obtain⟨ep,hda⟩:=hd.dictAt
 have hlen:vs.length=ps.length:=(KV.length hkv).symm
 refine jd hJ e q λQ' E hQ=>?_
 have hh:X.A.in1.handled=none:=I.ok.hd hc
 refine pX (.inr rfl) hd.typeIs (λus=>Vals (ps.map λq=>kV q.1) us) (λh0 Q2 E2 k0 hgo=>?_) λs' acc hv k g os=>?_
 ·have hd0:h0.DictAt (bn X.prog X.w) p vs ep:=hda.keep k0
  refine wpAny_pyIter_dict (s:={ s with heap:=h0 }) hsys hd0 ?_
  have hpl:p<h0.objs.size:=hd0.lt_size
  refine hgo h0.objs.size [h0.objs.size,p] [h0.objs.size] vs.length _ _ _ ((Walks.dictKeys (A:=X.A.in1.in1) hh h0.objs.size p (Nat.ne_of_lt hpl) vs ep).toS) ⟨⟨_,Heap.get?_push_size _ rfl,rfl,rfl⟩,hd0.push _⟩ (by rw[hlen];exact hz)
   (λb hb=>by
    rcases List.mem_cons.mp hb with z |hb
    ·rw[z];exact .inr (Nat.le_refl _)
    ·exact .inl (List.mem_singleton.mp hb))
   (λb hb=>by rw[List.mem_singleton.mp hb];exact Nat.le_refl _) (λb o e=>Heap.get?_push_of_some _ e) rfl rfl λacc ha=>?_
  obtain⟨a1,a2⟩:=ha
  refine jp (by have e1:acc.toList.length=acc.size:=Array.length_toList;rw[List.length_map,e1,a1,hlen]) λi v u hv hu=>?_
  rw[Array.getElem?_toList] at hu
  obtain⟨k,x,e1,e2⟩:=a2 i u hu
  rw[List.getElem?_map] at hv
  obtain⟨q,e3,e4⟩:=Option.map_eq_some_iff.mp hv
  have e5:=(kY hkv i q (k,x) e3 e1).1
  rw[← e4,e5]
  exact sO e2
 ·exact hQ acc _ s' ds (I.moved k g os) hv (.refl _) m
theorem r_ (hx:x="sorted")(hc:X.calm=true)(hm:X.mg x=none)(ha:SE X W e fe)(hg:Gl X x:=by rfl)(he:starEach [e] X.env=(false,eval e X.env)::starEach [] X.env:=by rfl)(hpl:(backTo pos (starEach [] X.env)).any (·.1)=false:=by rfl) :
  SE X W (.Call (.Name x p) [e] [] pos) (p_ fe):=by
 subst hx
 refine SE.either (g1:=bO vc (ah fe aC)) (g2:=λρ S=>ae (fe ρ S) λd S1=>aE (match d with | .loc l=>(match S1[l]? with |some (.dict kvs)=>(dG (kvs.map (·.1))).map .lst |_=>none) |_=>none) S1)
  (bE xR hm nk (ab ha ai he) hg (by decide) (by decide) he hpl) ?_ λρ S=>?_
 ·refine PE.imp (iF (pV hc) hg hm nk (dJ ha pa_nil he) (by decide) (by decide) he hpl) λσ H Q h=>?_
  refine (tG.bindE h).mono λv H1 ⟨d,h1⟩=>?_
  obtain⟨J,ρ,S,r,S',c,m,eq,z⟩:=h1
  obtain⟨m,_⟩:=m.uncons
  show nE _ _ _
  cases d with
  |loc l =>
   obtain⟨a,rfl,hl⟩:=At.loc_iff.mp m
   cases hS:S[l]? with
   |none=>simp[hS] at eq
   |some mo =>
    cases mo with
    |lst xs=>simp[hS] at eq
    |exc c=>simp[hS] at eq
    |dictN _=>simp[hS] at eq
    |ins _ _=>simp[hS] at eq
    |dict kvs =>
     simp only[hS] at eq
     cases hq:dG (kvs.map (·.1)) with
     |none=>simp[hq] at eq
     |some out =>
      simp only[hq,Option.map_some,bz,okO] at eq
      cases eq
      obtain⟨ps,hp,hkv⟩:=c.sto.at_ l a _ hl hS
      refine⟨a,ps,J,kvs.map (·.1),out,rfl,hp,c.sto.all,?_,hq,λH' v sm m'=>z J H' v (Ex.same sm) (c.sto.same sm) m'⟩
      clear hq hS z hp
      induction hkv with
      |nil=>exact .nil
      |cons f t ih=>exact .cons f.1.2 ih
  |_=>simp at eq
 ·unfold p_ bO ah aC
  cases q:fe ρ S with
  |none=>exact .inl rfl
  |some o =>
   obtain⟨ro,S1⟩:=o
   cases ro with
   |error c=>exact .inl rfl
   |ok d=>cases d<;>first |exact .inl rfl |exact .inr rfl
end
mutual
inductive Lit:Expr->D->Prop
 |int {i:Int}{j p}:Lit (.Constant (.int i) j p) (.int i)
 |bl {b:Bool}{j p}:Lit (.Constant (.bool b) j p) (.bl b)
 |non {j p}:Lit (.Constant .none j p) .non
 |str {x:Str}{j p} (hx:okS x):Lit (.Constant (.str x) j p) (.str x)
 |neg {i:Int}{j p q}:Lit (.UnaryOp .USub (.Constant (.int i) j p) q) (.int (-i))
 |tup {es:List Expr}{ds:List D}{k p} (h:Lits es ds) (n:ds.length<=1000):Lit (.Tuple es k p) (.tup ds)
 |lst {es:List Expr}{ds:List D}{p} (h:Lits es ds) (n:ds.length<=1000):Lit (.List es p) (.lst ds)
inductive Lits:List Expr->List D->Prop
 |nil:Lits [] []
 |cons {e:Expr}{d:D}{es:List Expr}{ds:List D}(h:Lit e d) (r:Lits es ds):Lits (e::es) (d::ds)
end
section
variable {X:Cx}{W:WT}
theorem SE.eq {e:Expr}{g g':Rho->Sto->Out D}(h:SE X W e g)(q:g=g'):SE X W e g':=q▸h
theorem SA.eq {e:List Expr}{g g':Rho->Sto->Out (List D)}(h:SA X W e g)(q:g=g'):SA X W e g':=q▸h
theorem u_ {e:Expr}{d:D}(h:Lit e d)(es:List Expr):starEach (e::es) X.env=(false,eval e X.env)::starEach es X.env:=by
 cases h<;>rfl
mutual
theorem kO:∀ {e:Expr}{d:D},Lit e d->SE X W e (aD d)
 |_,_,.int=>ao
 |_,_,.bl=>sk
 |_,_,.non=>yK
 |_,_,.str hx=>gU hx
 |_,_,.neg=>SE.eq (Am yy ao) rfl
 |_,_,.tup (ds:=ds) h n=>SE.eq (eY (qN h)) (by
   funext ρ S
   show aE (szO ds (.tup ds)) S=okO (.tup ds) S
   unfold szO
   rw[if_pos (Nat.le_trans n (by decide))];rfl)
 |_,_,.lst (ds:=ds) h n=>SE.eq (nN (qN h)) (by
   funext ρ S
   show aE (szO ds (.lst ds)) S=okO (.lst ds) S
   unfold szO
   rw[if_pos (Nat.le_trans n (by decide))];rfl)
theorem qN:∀ {es:List Expr}{ds:List D},Lits es ds->SA X W es (λ_ S=>okO ds S)
 |_,_,.nil=>ai
 |_,_,.cons h r=>SA.eq (ab (kO h) (qN r) (u_ h _)) rfl
end
end
def A0 (F:List D->Sto->Out D)(t:Rho->Sto->Out (List D)):Rho->Sto->Out D:=λρ S=>ae (t ρ S) λds S1=>F ds S1
def zL (c:Str)(t:Rho->Sto->Out (List D)):Rho->Sto->Out Fl:=λρ S=>ae (t ρ S) λds S1=>ae (aE (szO ds .non) S1) λ_ S2=>some (.error c,S2)
end L2
namespace L2
open PySem PySem.Spec PySem.Calls PyProof.Rows PySem.W
structure ExcIn (K:Frag) (C:Addr):Prop where
 cls:findIn K (.ref C) "__class__"=some (some (.builtin "object.__class__"))
 ga:findIn K (.ref C) "__getattribute__"=some (some (.builtin "BaseException.__getattribute__"))
 gn:findIn K (.ref C) "__getattr__"=some none
 so:subIn K (.ref C) (.type "object")=some true
 sb:subIn K (.ref C) (.type "BaseException")=some true
 is:(clsIn K C).isSome=true
end L2
namespace L2
open PySem PySem.Spec PyProof.Rows PySem.W
section
variable {X:Cx}{W:WT}{e:Expr}{fe fa:Rho->Sto->Out D}{pos p p2:Pos}
def AK (tab:Str->Option Bool)(d:D)(S:Sto):Option D:=match d with
 | .loc l=>(match S[l]? with
  |some (.exc c)=>(tab c).map .bl
  |_=>none)
 |_=>none
def B9 (tab:Str->Option Bool)(fe:Rho->Sto->Out D):Rho->Sto->Out D:=λρ S=>ae (fe ρ S) λd S1=>aE (AK tab d S1) S1
end
section
variable {X:Cx}{W:WT}{fe fa:Rho->Sto->Out D}
theorem fm:∀ {us:List Value}{ns:List Int},Vals (ns.map V.int) us->IntsAre us ns
 |_,[],r=>by cases r;exact .nil
 |_,n::ns,r=>by
  cases r with
  |cons a b =>
   obtain⟨t,rfl⟩:=a
   exact .cons n t (fm b)
end
section
variable {X:Cx}{W:WT}{e:Expr}{fe:Rho->Sto->Out D}{pos p:Pos}{x:Str}
def AG (d:D)(S:Sto):Option D:=match d with
 | .loc l=>(match S[l]? with
  |some (.dict kvs)=>some (.int kvs.length)
  |_=>none)
 |_=>none
theorem pW (hc:X.calm=true):gR X (.type "list") (λxs H Q => ∃ (p:Addr) (ps:List (Key×V)),xs=[.ref p]/\H p=some (.dK ps)/\∀ l,H l=none->Q (.ref l) (upd H l (.lst (ps.map λq=>kV q.1)))):=by
 intro pins s σ H xs us Q I r h
 obtain⟨p,ps,rfl,hp,q⟩:=h
 obtain⟨u,rfl,ru⟩:=vals1 r
 cases ru
 obtain⟨hz,hsys,vs,hkv,hd⟩:=I.hok p _ hp
 obtain⟨ep,hda⟩:=hd.dictAt
 have hlen:vs.length=ps.length:=(KV.length hkv).symm
 refine kdl_call (kdl_dict (kvs:=vs) (ep:=ep) (knd:=bn X.prog X.w) hsys) (I.ok.hd hc) hda (by rw[hlen];exact hz) λh' tk acc c k hS ha=>?_
 obtain⟨a1,a2⟩:=ha
 have rv:Vals (ps.map λq=>kV q.1) acc.toList:=by
  refine jp (by have e1:acc.toList.length=acc.size:=Array.length_toList;rw[List.length_map,e1,a1,hlen]) λi v u hv hu=>?_
  rw[Array.getElem?_toList] at hu
  obtain⟨k,x,e1,e2⟩:=a2 i u hu
  rw[List.getElem?_map] at hv
  obtain⟨q,e3,e4⟩:=Option.map_eq_some_iff.mp hv
  have e5:=(kY hkv i q (k,x) e3 e1).1
  rw[← e4,e5]
  exact sO e2
 exact⟨.ref s.heap.objs.size,_,I.laid (t':=tk) (o:=.lst (ps.map λq=>kV q.1)) k (Nat.le_refl _) ⟨by rw[List.length_map];exact hz,acc.toList,c,rv,by simpa using hS⟩,rfl,q _ I.fresh⟩
def eL (d:D)(S:Sto):Option D:=match d with
 | .loc l=>(match S[l]? with
  |some (.dict kvs)=>if kvs.length<=sizeLine then some (.lst (kvs.map (·.1))) else none
  |_=>none)
 |_=>none
def jA (fe:Rho->Sto->Out D):Rho->Sto->Out D:=λρ S=>ae (fe ρ S) λd S1=>aE (eL d S1) S1
theorem oV (hu:X.A.units+1<cLine)(hm:X.mg x=none)(ha:SE X W e fe)(hc:X.calm=true:=by rfl)(hx:x="list":=by rfl)(hg:Gl X x:=by rfl)(he:starEach [e] X.env=(false,eval e X.env)::starEach [] X.env:=by rfl)(hpl:(backTo pos (starEach [] X.env)).any (·.1)=false:=by rfl) :
  SE X W (.Call (.Name x p) [e] [] pos) (jA fe):=by
 subst hx
 refine PE.imp (jo (pW hc) hg hm xZ (dJ ha pa_nil he) (by decide) (by decide) he hpl) λσ H Q h=>?_
 refine (tG.bindE h).mono λv H1 ⟨d,h1⟩=>?_
 obtain⟨J,ρ,S,r,S',c,m,eq,z⟩:=h1
 obtain⟨m,_⟩:=m.uncons
 show nE _ _ _
 unfold eL at eq
 cases d with
 |loc l =>
  obtain⟨a,rfl,hl⟩:=At.loc_iff.mp m
  cases hS:S[l]? with
  |none=>simp[hS] at eq
  |some mo =>
   cases mo with
   |dict kvs =>
    simp only[hS] at eq
    split at eq
    ·rename_i hz
     cases eq
     obtain⟨ps,hp,hkv⟩:=c.sto.at_ l a _ hl hS
     refine⟨a,ps,rfl,hp,λl2 hl2=>?_⟩
     have am:Ats X.K H1 J (kvs.map (·.1)) (ps.map λq=>kV q.1):=by
      clear hS z hp hz
      induction hkv with
      |nil=>exact .nil
      |cons f t ih=>exact .cons f.1.2 ih
     refine z J _ _ (Ex.same (aJ hl2 _)) (c.sto.same (aJ hl2 _)) (At.newLst am hl2 (λa ha=>c.sto.tracked ha) ?_)
     rw[List.length_map,← hkv.length];exact hz
    ·cases eq
   |_=>simp[hS] at eq
 |_=>simp at eq
end
def cA (a b:D):Bool:=match dD a,dD b with
 |some p,some q=>PyData.eqv p q
 |_,_=>false
def putN (kvs:List (D×D))(k v:D):List (D×D):=if (kvs.any λp=>cA p.1 k)=true then kvs.map (λp=>if cA p.1 k=true then (p.1,v) else p) else kvs++[(k,v)]
def iJ (kvs:List (D×D))(k:D):Option D:=(kvs.find? λp=>cA p.1 k).map (·.2)
noncomputable def iC (ps:List (PyData×Addr×V)) (k:PyData) (a:Addr) (v:V):List (PyData×Addr×V):=if (ps.any λp=>decide (p.1=k))=true then ps.map (λp=>if p.1=k then (p.1,p.2.1,v) else p) else ps++[(k,a,v)]
noncomputable def ma (ps:List (PyData×Addr×V)) (k:PyData):Option V:=(ps.find? λp=>decide (p.1=k)).map (·.2.2)
abbrev RQ:(PyData×Addr×V)->(PyData×Addr×Value)->Prop:=λp q=>p.1=q.1/\p.2.1=q.2.1/\RelV p.2.2 q.2.2
theorem nV {d:D}{p:PyData}(h:dD d=some p):toPy d=some p/\keyOk 8 p=true:=by
 unfold dD at h
 obtain⟨q,h1,h2⟩:=Option.bind_eq_some_iff.mp h
 split at h2
 ·rename_i hk;cases h2;exact⟨h1,hk⟩
 ·cases h2
section
variable {K:PySem.W.Frag}{H H':Hp}{J J':List Addr}
theorem kP {a k:D}{x y:PyData}(h:dD a=some x)(g:dD k=some y):cA a k=decide (x=y):=by
 unfold cA
 rw[h,g]
 exact mJ (nV h).2 (nV g).2
theorem zW {kvs:List (D×D)}{ps:List (PyData×Addr×V)}{k:D}{y:PyData}(g:dD k=some y)(r:Paired (RKN K H J) kvs ps):(kvs.any λp=>cA p.1 k)=ps.any λq=>decide (q.1=y):=by
 induction r with
 |nil=>rfl
 |cons h t ih=>rw[List.any_cons,List.any_cons,ih,kP h.1.1 g]
theorem ud {kvs:List (D×D)}{ps:List (PyData×Addr×V)}{k v:D}{y:PyData}{w:V}(g:dD k=some y)(av:At K H J v w)(r:Paired (RKN K H J) kvs ps) :
  Paired (RKN K H J) (kvs.map λp=>if cA p.1 k=true then (p.1,v) else p) (ps.map λq=>if q.1=y then (q.1,q.2.1,w) else q):=by
 induction r with
 |nil=>exact .nil
 | @cons p q l1 l2 h t ih =>
  refine .cons ?_ ih
  show RKN K H J (if cA p.1 k=true then (p.1,v) else p) (if q.1=y then (q.1,q.2.1,w) else q)
  rw[kP h.1.1 g]
  by_cases e:q.1=y
  ·rw[if_pos (decide_eq_true e),if_pos e]
   exact⟨h.1,av⟩
  ·rw[if_neg (by rw[decide_eq_false e];decide),if_neg e]
   exact h
theorem uf {k v:D}{y:PyData}{b:Addr}{w:V}(g:dD k=some y)(ak:At K H J k (.ref b))(av:At K H J v w){l1:List (D×D)}{l2:List (PyData×Addr×V)}(h:Paired (RKN K H J) l1 l2):Paired (RKN K H J) (l1++[(k,v)]) (l2++[(y,b,w)]):=by
 induction h with
 |nil=>exact .cons ⟨⟨g,ak⟩,av⟩ .nil
 |cons h t ih=>exact .cons h ih
theorem yU {kvs:List (D×D)}{ps:List (PyData×Addr×V)}{k v:D}{y:PyData}{b:Addr}{w:V}(g:dD k=some y)(ak:At K H J k (.ref b))(av:At K H J v w)(r:Paired (RKN K H J) kvs ps):Paired (RKN K H J) (putN kvs k v) (iC ps y b w):=by
 unfold putN iC
 rw[zW g r]
 split
 ·exact ud g av r
 ·exact uf g ak av r
theorem wc {kvs:List (D×D)}{ps:List (PyData×Addr×V)}{k:D}{y:PyData}(g:dD k=some y)(r:Paired (RKN K H J) kvs ps) :
  (iJ kvs k=none/\ma ps y=none)∨∃ d v,iJ kvs k=some d/\ma ps y=some v/\At K H J d v:=by
 unfold iJ ma
 induction r with
 |nil=>exact .inl ⟨rfl,rfl⟩
 | @cons p q l1 l2 h t ih =>
  rw[List.find?_cons,List.find?_cons,kP h.1.1 g]
  by_cases e:q.1=y
  ·rw[decide_eq_true e]
   exact .inr ⟨p.2,q.2.2,rfl,rfl,h.2⟩
  ·rw[decide_eq_false e]
   exact ih
end
theorem yQ {ps:List (PyData×Addr×V)}{xs:List (PyData×Addr×Value)}(r:Paired RQ ps xs)(k:PyData):(ps.any λp=>decide (p.1=k))=(atKey xs k).isSome:=by
 unfold atKey
 rw[Option.isSome_map]
 induction r with
 |nil=>rfl
 | @cons p q l1 l2 h t ih =>
  rw[List.any_cons,List.find?_cons,ih,h.1]
  by_cases e:q.1=k
  ·rw[decide_eq_true e];rfl
  ·rw[decide_eq_false e];rfl
theorem vn {ps:List (PyData×Addr×V)}{xs:List (PyData×Addr×Value)}(r:Paired RQ ps xs)(k:PyData):RelO (ma ps k) ((atKey xs k).map (·.2)):=by
 unfold ma atKey
 induction r with
 |nil=>exact True.intro
 | @cons p q l1 l2 h t ih =>
  rw[List.find?_cons,List.find?_cons,h.1]
  by_cases e:q.1=k
  ·rw[decide_eq_true e];exact h.2.2
  ·rw[decide_eq_false e];exact ih
theorem yO {ps:List (PyData×Addr×V)}{xs:List (PyData×Addr×Value)}(r:Paired RQ ps xs)(k:PyData){v:V}{u:Value}(rv:RelV v u):Paired RQ (ps.map λp=>if p.1=k then (p.1,p.2.1,v) else p) (xs.map (putAt k u)):=by
 induction r with
 |nil=>exact .nil
 | @cons p q l1 l2 h t ih =>
  refine .cons ?_ ih
  show RQ (if p.1=k then (p.1,p.2.1,v) else p) (putAt k u q)
  unfold putAt
  by_cases e:p.1=k
  ·rw[if_pos e,if_pos (h.1.symm.trans e)];exact⟨h.1,h.2.1,rv⟩
  ·rw[if_neg e,if_neg (λz=>e (h.1.trans z))];exact h
theorem yP {ps:List (PyData×Addr×V)}{xs:List (PyData×Addr×Value)}(r:Paired RQ ps xs)(k:PyData)(b:Addr){v:V}{u:Value}(rv:RelV v u):Paired RQ (ps++[(k,b,v)]) (xs++[(k,b,u)]):=by
 induction r with
 |nil=>exact .cons ⟨rfl,rfl,rv⟩ .nil
 |cons h t ih=>exact .cons h ih
theorem yN {ps:List (PyData×Addr×V)}{xs:List (PyData×Addr×Value)}(r:Paired RQ ps xs)(k:PyData)(b:Addr){v:V}{u:Value}(rv:RelV v u):Paired RQ (iC ps k b v) (storedH xs k b u):=by
 unfold iC storedH
 rw[yQ r k]
 split
 ·exact yO r k rv
 ·exact yP r k b rv
theorem ub (ps:List (PyData×Addr×V))(k:PyData)(b:Addr)(v:V):(iC ps k b v).length<=ps.length+1:=by
 unfold iC
 split
 ·rw[List.length_map];omega
 ·rw[List.length_append];simp
section
variable {X:Cx}{pins:List (Addr×Obj)}{σ:St}{H:Hp}{s:Shared}{J:List Addr}{a:Addr}
theorem j_ (I:Inv X pins σ H s){d:D}{y:PyData}{b:Addr}(g:dD d=some y)(m:At X.K H J d (.ref b)):(iQ X.prog X.w).is s.heap y b:=by
 obtain⟨h1,h2⟩:=nV g
 exact⟨h2,(At.reads I m (show RelV (.ref b) (.ref b) from rfl) h1).2⟩
theorem tf {kvs:List (D×D)}{ps:List (PyData×Addr×V)}(I:Inv X pins σ H s)(e:H a=some (.dN ps))(r:Paired (RKN X.K H J) kvs ps) :
  ps.length<=sizeLine/\(a==sysModules)=false/\∃ xs,Paired RQ ps xs/\s.heap.DictOfH (iQ X.prog X.w) a xs:=by
 obtain⟨z,y,xs,q,o,es,ep,h1,h2,h3,h4,h5⟩:=I.hok a _ e
 refine⟨z,y,xs,q,o,es,ep,h1,h2,h3,h4,?_,h5⟩
 clear h1 h2 h3 h4 h5 z e
 induction r generalizing xs with
 |nil=>cases q;intro x hx;exact nomatch hx
 | @cons p q' l1 l2 h t ih =>
  cases q with
  |cons hq tq =>
   intro x hx
   rcases List.mem_cons.mp hx with e |hx
   ·subst e
    rw[← hq.1,← hq.2.1]
    exact j_ I h.1.1 h.1.2
   ·exact ih _ tq x hx
end
def rQ (K:PySem.W.Frag)(H:Hp)(a:Addr)(y:V)(r:Option V):Prop:=∃ J kvs ps dk yk b,H a=some (.dN ps)/\Paired (RKN K H J) kvs ps/\dD dk=some yk/\At K H J dk (.ref b)/\y = .ref b/\r=ma ps yk
def Ba (K:PySem.W.Frag)(H:Hp)(a:Addr)(y v:V)(H':Hp):Prop:=∃ J kvs ps dk yk b,H a=some (.dN ps)/\Paired (RKN K H J) kvs ps/\dD dk=some yk/\At K H J dk (.ref b)/\y = .ref b/\ps.length<sizeLine/\H'=upd H a (.dN (iC ps yk b v))
section
variable {X:Cx}{pins:List (Addr×Obj)}{σ:St}{H:Hp}{s:Shared}{a:Addr}{y v:V}{u r:Value}{o:Option V}{A:Around}{E:Value->Shared->Prop}
theorem qX (hu:A.units+150<cLine):(iQ X.prog X.w).room A.in1:=by show A.units+1+8<cLine;omega
theorem ur {Q:Value->Shared->Prop}(hu:A.units+150<cLine)(I:Inv X pins σ H s)(g:rQ X.K H a y (some v))(ry:RelV y u)(h:∀ w' s',Inv X pins σ H s'->RelV v w'->Q w' s') :
  wpAny (model X.prog X.w) A (getItem (.ref a) u) Q E s:=by
 obtain⟨J,kvs,ps,dk,yk,b,e,rk,gk,mk,ey,l⟩:=g
 subst ey
 cases (show u=Value.ref b from ry)
 obtain⟨z,hd,xs,rel,dd⟩:=tf I e rk
 obtain⟨w',hw,rw'⟩:=RelO.some_of (v:=v) (o:=(atKey xs yk).map (·.2)) (by rw[l];exact vn rel yk)
 obtain⟨p,hp,hp2⟩:=Option.map_eq_some_iff.mp hw
 refine wpAny_getItem_heap (qX hu) (j_ I gk mk) dd hp ?_
 rw[hp2]
 exact h w' _ (I.tok _) rw'
theorem xA {Q:Value->Shared->Prop}(hu:A.units+150<cLine)(I:Inv X pins σ H s)(g:rQ X.K H a y o)(ry:RelV y u)(h:∀ s',Inv X pins σ H s'->Q (.bool (!o.isSome)) s') :
  wpAny (model X.prog X.w) A (compareOp .NotIn u (.ref a)) Q E s:=by
 obtain⟨J,kvs,ps,dk,yk,b,e,rk,gk,mk,ey,l⟩:=g
 subst ey
 cases (show u=Value.ref b from ry)
 obtain⟨z,hd,xs,rel,dd⟩:=tf I e rk
 refine wpAny_notIn_heap (qX hu) (j_ I gk mk) hd dd ?_
 have q:=(vn rel yk).isSome_eq
 rw[Option.isSome_map] at q
 rw[← q,← l]
 exact h _ (I.tok _)
theorem uq {H':Hp}{Q:Unit->Shared->Prop}(hu:A.units+150<cLine)(I:Inv X pins σ H s)(g:Ba X.K H a y v H')(ry:RelV y u)(rv:RelV v r)(h:∀ s',Inv X pins σ H' s'->Q () s') :
  wpAny (model X.prog X.w) A (setItem (.ref a) u r) Q E s:=by
 obtain⟨J,kvs,ps,dk,yk,b,e,rk,gk,mk,ey,l,eH⟩:=g
 subst ey eH
 cases (show u=Value.ref b from ry)
 obtain⟨z,hd,xs,rel,dd⟩:=tf I e rk
 have hz:xs.length<=sizeLine:=by rw[← Paired.length rel];exact z
 have hl:(iC ps yk b v).length<=sizeLine:=by have:=ub ps yk b v;omega
 refine wpAny_setItem_heap (hsz:=hz) (qX hu) (j_ I gk mk) dd λh' dd' hs=>h _ ?_
 obtain⟨q,es,ep,hq,h2,h3,h4,_,h5⟩:=dd'
 exact n8 I (by rw[e];exact True.intro) hs ⟨q,hq⟩ ⟨hl,hd,_,yN rel yk b rv,q,es,ep,hq,h2,h3,h4,h5⟩
theorem vO (I:Inv X pins σ H s)(g:rQ X.K H a y o):s.TypeIs (.ref a) "dict":=by
 obtain⟨J,kvs,ps,dk,yk,b,e,rk,gk,mk,ey,l⟩:=g
 obtain⟨_,_,xs,_,dd⟩:=tf I e rk
 exact dd.typeIs
end
section
variable {X:Cx}{o i e value:Expr}{pos pos' tpos:Pos}{td ty tv:TE}
theorem xq (hu:X.A.units+150<cLine)(ho:PE X o td)(hi:PE X i ty)(hs:uV i):PE X (.Subscript o i pos) (λσ H Q=>td σ H λx H1=>ty σ H1 λy H2 => ∃ a v,x = .ref a/\rQ X.K H2 a y (some v)/\Q v H2):=by
 intro pins s σ H Q I h
 refine r6 PySem.F.slot_dict_getitem.lookup hs (thn (ho pins s σ H _ I h) λu s1 ⟨x,H1,I1,rx,q1⟩=>thn (hi pins s1 σ H1 _ I1 q1) λiv s2 ⟨y,H2,I2,ry,a,v,ex,g,q2⟩=>?_)
 subst ex
 obtain rfl:u=Value.ref a:=rx
 exact⟨vO I2 g,ur hu I2 g ry λw' s3 I3 rw'=>⟨v,H2,I3,rw',q2⟩⟩
theorem ui (hu:X.A.units+150<cLine)(hi:PE X i ty)(ho:PE X o td):PC X .NotIn i o (λσ H Q=>ty σ H λy H1=>td σ H1 λx H2 => ∃ a o,x = .ref a/\rQ X.K H2 a y o/\Q (.bl (!o.isSome)) H2):=by
 intro pins s σ H Q I h
 refine thn (hi pins s σ H _ I h) λiv s1 ⟨y,H1,I1,ry,q1⟩=>thn (ho pins s1 σ H1 _ I1 q1) λu s2 ⟨x,H2,I2,rx,a,ov,ex,g,q2⟩=>?_
 subst ex
 obtain rfl:u=Value.ref a:=rx
 exact xA hu I2 g ry λs3 I3=>⟨.bl (!ov.isSome),H2,I3,rfl,q2⟩
theorem xj (hu:X.A.units+150<cLine)(ho:PE X o td)(hi:PE X i ty)(hv:PE X value tv)(hs:swapsWith value (some (.Subscript o i pos')) pos.line X.env=pure false) :
  PS X (.Assign [.Subscript o i pos'] value pos) (λD σ H=>tv σ H λv H1=>td σ H1 λx H2=>ty σ H2 λy H3 => ∃ a H4,x = .ref a/\Ba X.K H3 a y v H4/\D.nx σ H4):=by
 intro pins s σ H D I h
 refine wpAny_Assign_Subscript (thn (hv pins s σ H _ I h) λr s1 ⟨v,H1,I1,rv,q1⟩=>thn (ho pins s1 σ H1 _ I1 q1) λu s2 ⟨x,H2,I2,rx,q2⟩=>thn (hi pins s2 σ H2 _ I2 q2) λiv s3 ⟨y,H3,I3,ry,a,H4,ex,g,q3⟩=>?_) hs
 subst ex
 obtain rfl:u=Value.ref a:=rx
 exact uq hu I3 g ry rv λs4 I4=>⟨σ,H4,I4,q3⟩
end
def dm:D->Bool
 | .tup _=>true
 |_=>false
section
variable {X:Cx}{W:WT}{pos pos':Pos}{o i e:Expr}{fo fi fv:Rho->Sto->Out D}
def qa:Rho->Sto->Out D:=λ_ S=>okO (.loc S.length) (S++[.dictN []])
theorem pe_dnewN:PE X (.Dict [] [] pos) (λ_ H Q => ∀ p,H p=none->Q (.ref p) (upd H p (.dN []))):=λpins s σ H Q I h =>
 wpAny_Dict_empty ⟨.ref s.heap.objs.size,_,I.laid (a:=s.heap.objs.size) (o:=.dN []) (t':=s.toks) (λ_ _ q=>Heap.get?_push_of_some _ q) (Nat.le_refl _)
  ⟨Nat.zero_le _,beq_eq_false_iff_ne.mpr (Ne.symm (Nat.ne_of_lt I.big)),[],.nil,_,#[],0,Heap.get?_push_size _ rfl,⟨rfl,rfl,rfl⟩,rfl,rfl,List.nodup_nil⟩,rfl,h _ (I.hok.fresh (Nat.le_refl _))⟩
theorem nL:SE X W (.Dict [] [] pos) qa:=pe_dnewN.imp λσ H Q h=>by
 obtain⟨J,ρ,S,r,S',c,_,e,z⟩:=h
 cases e
 intro p hp
 have q:=c.sto.push (o:=.dN []) (mo:=.dictN []) hp ⟨[],upd_same,.nil⟩
 refine z (J++[p]) _ _ q.2 q.1 (At.loc_iff.mpr ⟨p,rfl,?_⟩)
 rw[← c.sto.len,List.getElem?_append_right (Nat.le_refl _)]
 simp
def iD (x k v:D)(ρ:Rho)(S:Sto):Out Fl:=match x with
 | .loc l=>match S[l]?,dD k with
  |some (.dictN kvs),some _=>if kvs.length<sizeLine/\dm k=true then okO (.next ρ) (S.set l (.dictN (putN kvs k v))) else none
  |_,_=>none
 |_=>none
def m8 (fo fi fv:Rho->Sto->Out D):Rho->Sto->Out Fl:=λρ S=>ae (fv ρ S) λv S1=>ae (fo ρ S1) λx S2=>ae (fi ρ S2) λk S3=>iD x k v ρ S3
theorem ny {K:PySem.W.Frag}{H:Hp}{J:List Addr}{d:D}{v:V}(h:dm d=true)(m:At K H J d v):∃ b,v = .ref b:=by
 cases d with
 |tup ds=>obtain⟨b,_,e,_⟩:=At.tup_iff.mp m;exact⟨b,e⟩
 |_=>cases h
theorem nG (hu:X.A.units+150<cLine)(ho:SE X W o fo)(hi:SE X W i fi)(hv:SE X W e fv)(hs:swapsWith e (some (.Subscript o i pos')) pos.line X.env=pure false:=by rfl):SS X W (.Assign [.Subscript o i pos'] e pos) (m8 fo fi fv):=
 (xj hu ho hi hv hs).imp λE σ H h=>by
  have h:tH X W [] [] (m8 fo fi fv) E σ H:=let ⟨J,ρ,S,r,S',c,e,z⟩:=h;⟨J,ρ,S,r,S',c,.nil,e,z⟩
  refine (tH.bindE h).mono λv H1 ⟨dv,h1⟩=>(tH.bindE h1).mono λx H2 ⟨dx,h2⟩=>(tH.bindE h2).mono λy H3 ⟨dk,h3⟩=>?_
  obtain⟨J,ρ,S,r,S',c,m,e,z⟩:=h3
  obtain⟨mk,m⟩:=m.uncons
  obtain⟨mx,m⟩:=m.uncons
  obtain⟨mv,_⟩:=m.uncons
  unfold iD at e
  cases dx with
  |loc l =>
   simp only at e
   split at e
   ·rename_i kvs yk es ek
    split at e
    ·rename_i lt
     cases e
     obtain⟨a,rfl,ha⟩:=At.loc_iff.mp mx
     obtain⟨ps,eh,rp⟩:=c.sto.at_ l a _ ha es
     obtain⟨b,rfl⟩:=ny lt.2 mk
     have q:=c.sto.update (o:=.dN (iC ps yk b v)) (mo:=.dictN (putN kvs dk dv)) ha λJ' H' x' eH eJ=>by
      subst eH eJ
      refine⟨_,upd_same,yU ek (mk.ex x') (mv.ex x') ?_⟩
      exact Paired.mapP rp λp q z=>⟨⟨z.1.1,z.1.2.ex x'⟩,z.2.ex x'⟩
     exact⟨a,_,rfl,⟨J,kvs,ps,dk,yk,b,eh,rp,ek,mk,rfl,by rw[← gZ rp];exact lt.1,rfl⟩,z J σ _ q.2 (c.re q.2 q.1)⟩
    ·cases e
   ·cases e
  |_=>cases e
def kZ (neg:Bool)(k x:D)(S:Sto):Option D:=match x with
 | .loc l=>match S[l]?,dD k with
  |some (.dictN kvs),some _=>if dm k=true then some (.bl (if neg then !(iJ kvs k).isSome else (iJ kvs k).isSome)) else none
  |_,_=>none
 |_=>none
def wz (neg:Bool)(fk fd:Rho->Sto->Out D):Rho->Sto->Out D:=λρ S=>ae (fk ρ S) λk S1=>ae (fd ρ S1) λx S2=>aE (kZ neg k x S2) S2
theorem vM {neg:Bool}{σ:St}{H:Hp}{Q:VK}(h:tE X W (wz neg fi fo) σ H Q):tE X W fi σ H λy H1=>tE X W fo σ H1 λx H2 => ∃ a o,x = .ref a/\rQ X.K H2 a y o/\Q (.bl (if neg then !o.isSome else o.isSome)) H2:=
 (tG.bindE h).mono λy H1 ⟨dk,h1⟩=>(tG.bindE h1).mono λx H2 ⟨dx,h2⟩=>by
  obtain⟨J,ρ,S,r,S',c,m,e,z⟩:=h2
  obtain⟨mx,m⟩:=m.uncons
  obtain⟨mk,_⟩:=m.uncons
  unfold kZ at e
  cases dx with
  |loc l =>
   simp only at e
   split at e
   ·rename_i kvs yk es ek
    split at e
    ·rename_i ht
     cases e
     obtain⟨a,rfl,ha⟩:=At.loc_iff.mp mx
     obtain⟨ps,eh,rp⟩:=c.sto.at_ l a _ ha es
     obtain⟨b,rfl⟩:=ny ht mk
     refine⟨a,_,rfl,⟨J,kvs,ps,dk,yk,b,eh,rp,ek,mk,rfl,rfl⟩,?_⟩
     have q:=z J H2 _ Ex.refl c.sto (At.bl_iff.mpr rfl)
     rcases wc ek rp with ⟨g1,g2⟩ |⟨d,v,g1,g2,_⟩
     ·rw[g1] at q;rw[g2];exact q
     ·rw[g1] at q;rw[g2];exact q
    ·cases e
   ·cases e
  |_=>cases e
theorem md (hu:X.A.units+150<cLine)(hi:SE X W i fi)(ho:SE X W o fo)(hm:behindInMarks .NotIn o=false:=by with_unfolding_all rfl):TS1 X W (.Compare i [.NotIn] [o] pos) (b9 (wz true fi fo)):=
 (vt (ui hu hi ho) hm).imp λσ H Q h=>tTest.mono (t:=λσ H Q=>tE X W fi σ H λy H1=>tE X W fo σ H1 λx H2 => ∃ a o,x = .ref a/\rQ X.K H2 a y o/\Q (.bl (!o.isSome)) H2) (λ_ _ _=>vM (neg:=true)) (io h)
def fO (x k:D)(S:Sto):Option D:=match x with
 | .loc l=>match S[l]?,dD k with
  |some (.dictN kvs),some _=>if dm k=true then iJ kvs k else none
  |_,_=>none
 |_=>none
def tD (fd fk:Rho->Sto->Out D):Rho->Sto->Out D:=λρ S=>ae (fd ρ S) λx S1=>ae (fk ρ S1) λk S2=>aE (fO x k S2) S2
theorem sf (hu:X.A.units+150<cLine)(ho:SE X W o fo)(hi:SE X W i fi)(hs:uV i:=by exact λ_ _=>rfl):SE X W (.Subscript o i pos) (tD fo fi):=(xq hu ho hi hs).imp λσ H Q h =>
 (tG.bindE h).mono λx H1 ⟨dx,h1⟩=>(tG.bindE h1).mono λy H2 ⟨dk,h2⟩=>by
  obtain⟨J,ρ,S,r,S',c,m,e,z⟩:=h2
  obtain⟨mk,m⟩:=m.uncons
  obtain⟨mx,_⟩:=m.uncons
  unfold fO at e
  cases dx with
  |loc l =>
   simp only at e
   split at e
   ·rename_i kvs yk es ek
    split at e
    ·rename_i ht
     obtain⟨a,rfl,ha⟩:=At.loc_iff.mp mx
     obtain⟨ps,eh,rp⟩:=c.sto.at_ l a _ ha es
     obtain⟨b,rfl⟩:=ny ht mk
     rcases wc ek rp with ⟨g1,g2⟩ |⟨d,v,g1,g2,av⟩
     ·rw[g1] at e;cases e
     ·rw[g1] at e
      cases e
      exact⟨a,v,rfl,⟨J,kvs,ps,dk,yk,b,eh,rp,ek,mk,rfl,g2.symm⟩,z J H2 _ Ex.refl c.sto av⟩
    ·cases e
   ·cases e
  |_=>cases e
end
def lI (K:PySem.W.Frag)(c f:Str):Prop:=∃ C,PySem.W.nsIn K mainGlobals c=some (some (.ref C))/\Cls K C/\NoAttr K C f
def MethAt (K:PySem.W.Frag)(c m qual:Str)(st:Stmt)(ps:List Str):Prop:=∃ C f fd,PySem.W.nsIn K mainGlobals c=some (some (.ref C))/\Cls K C/\Meth K C m f/\Fun K m qual st f fd/\Binds K fd ps []
def zZ (K:PySem.W.Frag)(mg:Str->Option Value)(c qual:Str)(st:Stmt)(ps:List Str):Prop:=∃ C f fd,PySem.W.nsIn K mainGlobals c=some (some (.ref C))/\mg c=some (.ref C)/\Mk K C f/\Fun K "__init__" qual st f fd/\Binds K fd ps []
def jO (f:Str)(v:D):List (Str×D)->List (Str×D)
 |[]=>[(f,v)]
 |(k,x)::r=>if k=f then (k,v)::r else (k,x)::jO f v r
section
variable {K:PySem.W.Frag}{H H':Hp}{J J':List Addr}
theorem sU {fs:List (Str×D)}{vs:List (Str×V)}(r:Paired (RFs K H J) fs vs)(f:Str):(fs.lookup f=none/\vs.lookup f=none)∨∃ d v,fs.lookup f=some d/\vs.lookup f=some v/\At K H J d v:=by
 induction r with
 |nil=>exact .inl ⟨rfl,rfl⟩
 | @cons p q l1 l2 h t ih =>
  obtain⟨p1,p2⟩:=p
  obtain⟨q1,q2⟩:=q
  have e1:p1=q1:=h.1
  subst e1
  by_cases e:f=p1
  ·have hb:(f==p1)=true:=beq_iff_eq.mpr e
   refine .inr ⟨p2,q2,?_,?_,h.2⟩<;>simp only[List.lookup,hb]
  ·have hb:(f==p1)=false:=beq_eq_false_iff_ne.mpr e
   simp only[List.lookup,hb]
   exact ih
theorem zD {fs:List (Str×D)}{vs:List (Str×V)}(r:Paired (RFs K H J) fs vs)(f:Str){d:D}{v:V}(a:At K H J d v):Paired (RFs K H J) (jO f d fs) (dY f v vs):=by
 induction r with
 |nil=>exact .cons ⟨rfl,a⟩ .nil
 | @cons p q l1 l2 h t ih =>
  obtain⟨p1,p2⟩:=p
  obtain⟨q1,q2⟩:=q
  have e1:p1=q1:=h.1
  subst e1
  rw[show jO f d ((p1,p2)::l1)=(if p1=f then (p1,d)::l1 else (p1,p2)::jO f d l1) from rfl,show dY f v ((p1,q2)::l2)=(if p1=f then (p1,v)::l2 else (p1,q2)::dY f v l2) from rfl]
  by_cases e:p1=f
  ·rw[if_pos e,if_pos e];exact .cons ⟨rfl,a⟩ t
  ·rw[if_neg e,if_neg e];exact .cons h ih
theorem Ats.split:∀ {es ds:List D}{us vs:List V},es.length=us.length->Ats K H J (es++ds) (us++vs)->Ats K H J es us/\Ats K H J ds vs
 |[],_,[],_,_,h=>⟨.nil,h⟩
 |e::es,ds,u::us,vs,hl,h=>by
  obtain⟨h1,h2⟩:=Ats.uncons (d:=e) (v:=u) (ds:=es++ds) (vs:=us++vs) h
  obtain⟨h3,h4⟩:=Ats.split (es:=es) (us:=us) (by simpa using hl) h2
  exact⟨.cons h1 h3,h4⟩
 |[],_,_::_,_,hl,_=>by simp at hl
 |_::_,_,[],_,hl,_=>by simp at hl
end
def rj (c:Str)(d:D)(S:Sto):Option (List (Str×D)):=match d with
 | .loc l=>(match S[l]? with
  |some (.ins c' fs)=>if c'=c then some fs else none
  |_=>none)
 |_=>none
theorem sR {c:Str}{d:D}{S:Sto}{fs:List (Str×D)}(h:rj c d S=some fs):∃ l,d = .loc l/\S[l]?=some (.ins c fs):=by
 unfold rj at h
 split at h
 ·rename_i l
  split at h
  ·rename_i c' fs' e
   split at h
   ·rename_i ec;cases h;subst ec;exact⟨l,rfl,e⟩
   ·cases h
  ·cases h
 ·cases h
section
variable {X:Cx}{W:WT}{pos pos' apos p:Pos}{o e value:Expr}{es:List Expr}{fo fv:Rho->Sto->Out D}{gs:Rho->Sto->Out (List D)}{c f m x:Str}
def g9 (c f:Str)(d:D)(S:Sto):Option D:=(rj c d S).bind λfs=>fs.lookup f
def fY (c f:Str)(fo:Rho->Sto->Out D):Rho->Sto->Out D:=λρ S=>ae (fo ρ S) λd S1=>aE (g9 c f d S1) S1
theorem bU (T:lI X.K c f)(ho:SE X W o fo)(hb:attributeBase o f X.env (eval o X.env)=eval o X.env:=by rfl):SE X W (.Attribute o f pos) (fY c f fo):=
 (y8 ho hb).imp λσ H Q h=>(tG.bindE h).mono λx H1 ⟨dx,h1⟩=>by
  obtain⟨J,ρ,S,r,S',cf,mm,ee,z⟩:=h1
  try dsimp only at ee
  obtain⟨mx,_⟩:=mm.uncons
  cases q:g9 c f dx S with
  |none=>rw[q] at ee;cases ee
  |some d =>
   rw[q] at ee
   cases ee
   obtain⟨fs,h1,h2⟩:=Option.bind_eq_some_iff.mp q
   obtain⟨l,rfl,es⟩:=sR h1
   obtain⟨a,rfl,ha⟩:=At.loc_iff.mp mx
   obtain⟨C,dx,vs,n,eh,rp⟩:=cf.sto.at_ l a _ ha es
   obtain⟨C',n',cl,na⟩:=T
   rw[n] at n'
   cases n'
   rcases sU rp f with ⟨g1,_⟩ |⟨d',v,g1,g2,av⟩
   ·rw[g1] at h2;cases h2
   ·rw[g1] at h2
    cases h2
    exact⟨a,C,dx,vs,v,rfl,eh,cl,na,g2,z J H1 v Ex.refl cf.sto av⟩
def kK (c f:Str)(d v:D)(ρ:Rho)(S:Sto):Out Fl:=match d with
 | .loc l=>(match S[l]? with
  |some (.ins c' fs)=>if c'=c/\fs.length<1000 then okO (.next ρ) (S.set l (.ins c (jO f v fs))) else none
  |_=>none)
 |_=>none
theorem vf {T:lI X.K c f}{σ:St}{H:Hp}{J:List Addr}{ρ:Rho}{S S':Sto}{r:Except Str Fl}{E:Ends}{d dv:D}{x y:V}(cf:Cf X J ρ S σ H)(mx:At X.K H J d x)(my:At X.K H J dv y)
  (ee:kK c f d dv ρ S=some (r,S')) (z:EndS X W J H r S' E):∃ a C dx fs,x = .ref a/\H a=some (.ins C dx fs)/\Cls X.K C/\NoAttr X.K C f/\fs.length<1000/\E.nx σ (upd H a (.ins C dx (dY f y fs))):=by
 unfold kK at ee
 split at ee
 ·rename_i l
  split at ee
  ·rename_i c' fs es
   split at ee
   ·rename_i hc
    obtain⟨ec,hl⟩:=hc
    subst ec
    cases ee
    obtain⟨a,rfl,ha⟩:=At.loc_iff.mp mx
    obtain⟨C,dx,vs,n,eh,rp⟩:=cf.sto.at_ l a _ ha es
    obtain⟨C',n',cl,na⟩:=T
    rw[n] at n'
    cases n'
    have q:=cf.sto.update (o:=.ins C dx (dY f y vs)) (mo:=.ins c' (jO f dv fs)) ha λJ' H' x' eH eJ=>by
     subst eH eJ
     refine⟨C,dx,_,n,upd_same,zD (Paired.mapP rp λp q z=>⟨z.1,z.2.ex x'⟩) f (my.ex x')⟩
    exact⟨a,C,dx,vs,rfl,eh,cl,na,by rw[← gZ rp];exact hl,z J σ _ q.2 (cf.re q.2 q.1)⟩
   ·cases ee
  ·cases ee
 ·cases ee
def lF (c f:Str)(fo fv:Rho->Sto->Out D):Rho->Sto->Out Fl:=λρ S=>ae (fv ρ S) λv S1=>ae (fo ρ S1) λd S2=>kK c f d v ρ S2
theorem nH (T:lI X.K c f)(ho:SE X W o fo)(hv:SE X W value fv)(hs:swapsWith value (some (.Attribute o f pos')) pos.line X.env=pure false:=by rfl):SS X W (.Assign [.Attribute o f pos'] value pos) (lF c f fo fv):=
 (yZ ho hv hs).imp λE σ H h=>by
  have h:tH X W [] [] (lF c f fo fv) E σ H:=let ⟨J,ρ,S,r,S',c,e,z⟩:=h;⟨J,ρ,S,r,S',c,.nil,e,z⟩
  refine (tH.bindE h).mono λy H1 ⟨dv,h1⟩=>(tH.bindE h1).mono λx H2 ⟨d,h2⟩=>?_
  obtain⟨J,ρ,S,r,S',cf,mm,ee,z⟩:=h2
  try dsimp only at ee
  obtain⟨mx,mm⟩:=mm.uncons
  obtain⟨my,_⟩:=mm.uncons
  exact vf (T:=T) cf mx my ee z
def A8 (c f:Str)(d v y:D)(ρ:Rho)(S:Sto):Out Fl:=match v,y with
 | .int i,.int j=>kK c f d (.int (i+j)) ρ S
 |_,_=>none
def A6 (c f:Str)(fo fv:Rho->Sto->Out D):Rho->Sto->Out Fl:=λρ S=>ae (fo ρ S) λd S1=>ae (aE (g9 c f d S1) S1) λv S2=>ae (fv ρ S2) λy S3=>A8 c f d v y ρ S3
def lN (P:Program)(w:World)(K:PySem.W.Frag)(mg:Str->Option Value)(base:Heap)(k:Nat)(c m:Str)(ps:List Str)(F:List D->Sto->Out D):Prop:=
 ∃ C f fd,PySem.W.nsIn K mainGlobals c=some (some (.ref C))/\Cls K C/\Meth K C m f/\FnD P w K mg base k f fd ps F/\Binds K fd ps []
def z7 (P:Program)(w:World)(K:PySem.W.Frag)(mg:Str->Option Value)(base:Heap)(k:Nat)(c:Str)(ps:List Str)(F:List D->Sto->Out D):Prop:=
 ∃ C f fd,PySem.W.nsIn K mainGlobals c=some (some (.ref C))/\mg c=some (.ref C)/\Mk K C f/\FnD P w K mg base k f fd ps F/\Binds K fd ps []
def pM (c m:Str)(d:D)(S:Sto):Option D:=(rj c d S).bind λfs=>if fs.lookup m=none then some .non else none
def cC (c m:Str)(F:List D->Sto->Out D)(fo:Rho->Sto->Out D)(gs:Rho->Sto->Out (List D)):Rho->Sto->Out D:=λρ S=>ae (fo ρ S) λd S1=>ae (aE (pM c m d S1) S1) λ_ S2=>ae (gs ρ S2) λds S3=>gO (F (d::ds) S3)
def zM (c m:Str)(F:List D->Sto->Out D)(fo:Rho->Sto->Out D)(gs:Rho->Sto->Out (List D)):Rho->Sto->Out D:=λρ S=>ae (fo ρ S) λd S1=>ae (aE (pM c m d S1) S1) λ_ S2=>ae (gs ρ S2) λds S3=>F (d::ds) S3
theorem vS {C:Addr}(n:PySem.W.nsIn X.K mainGlobals c=some (some (.ref C))){k:Rho->Sto->Out D}{d:D}{x:V}{σ:St}{H:Hp}{Q:VK}(h:tG X W (RD X) [d] [x] (λρ S1=>ae (aE (pM c m d S1) S1) λ_ S2=>k ρ S2) σ H Q) :
  ∃ a dx fs,x = .ref a/\H a=some (.ins C dx fs)/\fs.lookup m=none/\tG X W (RD X) [d] [x] k σ H Q:=by
 obtain⟨J,ρ,S,r,S',cf,mm,ee,z⟩:=h
 try dsimp only at ee
 obtain⟨mx,m0⟩:=mm.uncons
 cases q:pM c m d S with
 |none=>rw[q] at ee;cases ee
 |some d0 =>
  rw[q,bz,cu] at ee
  obtain⟨fs,h1,h2⟩:=Option.bind_eq_some_iff.mp q
  obtain⟨l,rfl,es⟩:=sR h1
  have mx0:=mx
  obtain⟨a,rfl,ha⟩:=At.loc_iff.mp mx
  obtain⟨C',dx,vs,n',eh,rp⟩:=cf.sto.at_ l a _ ha es
  rw[n] at n'
  cases n'
  split at h2
  ·rename_i hn
   rcases sU rp m with ⟨_,g2⟩ |⟨d',v,g1,_⟩
   ·exact⟨a,dx,vs,rfl,eh,g2,J,ρ,S,r,S',cf,.cons mx0 .nil,ee,z⟩
   ·rw[hn] at g1;cases g1
  ·cases h2
theorem bj {k:Nat}{ps:List Str}{F:List D->Sto->Out D}{pl:Sem Bool}(G:lN X.prog X.w X.K X.mg X.base k c m ps F)(hr:Room k X.A)(ho:SE X W o fo)(ha:SA X W (e::es) gs)
  (hst:starEach (e::es) X.env=(false,eval e X.env)::starEach es X.env:=by rfl) (hpl:(backTo pos (starEach es X.env)).any (·.1)=false:=by rfl)
  (ht:eval (.Call (.Attribute o m apos) (e::es) [] pos) X.env=(do
   let ov ← eval o X.env
   standAt apos.atName
   let (f,first) ← holding [ov] (getMethod ov m pl)
   callWith pos f first (backTo pos (starEach (e::es) X.env)) (backToKw pos (keywordEach [] X.env))):=by rfl) :
  SE X W (.Call (.Attribute o m apos) (e::es) [] pos) (cC c m F fo gs):=by
 obtain⟨C,f,fd,n,cl,mt,fn,hb⟩:=G
 refine PE.imp (xr (E:=E0) ho cl mt fn hr hb .nil vF ha hst hpl ht) λσ H Q h=>(tG.bindE h).mono λx H1 ⟨d,h1⟩=>?_
 obtain⟨a,dx,fs,e1,e2,e3,h2⟩:=vS n h1
 refine⟨a,dx,fs,e1,e2,e3,(tG.bindA h2).mono λus H2 ⟨ds,hl,h3⟩=>?_⟩
 obtain⟨J,ρ,S,r,S',cf,mm,ee,z⟩:=h3
 try dsimp only at ee
 obtain⟨m1,m2⟩:=Ats.split hl mm
 obtain⟨m3,_⟩:=m2.uncons
 have ee:gO (F (d::ds) S)=some (r,S'):=ee
 unfold gO at ee
 split at ee
 ·rename_i d2 S2 q
  cases ee
  exact⟨J,S,d::ds,d2,_,.cons m3 (by rw[List.append_nil];exact m1),cf.sto,q,λJ' H' v x' s' m'=>z J' H' v x' s' m'⟩
 ·cases ee
def m9 (c:Str)(F:List D->Sto->Out D)(gs:Rho->Sto->Out (List D)):Rho->Sto->Out D:=λρ S=>ae (gs ρ S) λds S1=>(match F (.loc S1.length::ds) (S1++[.ins c []]) with
 |some (.ok .non,S2)=>okO (.loc S1.length) S2
 |_=>none)
theorem w9 {k:Nat}{ps:List Str}{F:List D->Sto->Out D}(G:z7 X.prog X.w X.K X.mg X.base k c ps F)(hr:Room (k+1) X.A)(ha:SA X W (e::es) gs)(hg:Gl X c:=by rfl)
  (hdb:(c==("__debug__":Str))=false:=by decide) (he:starEach (e::es) X.env=(false,eval e X.env)::starEach es X.env:=by rfl) (hpl:(backTo pos (starEach es X.env)).any (·.1)=false:=by rfl) :
  SE X W (.Call (.Name c p) (e::es) [] pos) (m9 c F gs):=by
 obtain⟨C,f,fd,n,hm,mk,fn,hb⟩:=G
 refine PE.imp (xt (E:=E0) mk fn hr hg hm hb .nil vF ha hdb he hpl) λσ H Q h=>(tG.bindA h).mono λus H1 ⟨ds,hl,h1⟩=>?_
 rw[List.append_nil,List.append_nil] at h1
 obtain⟨J,ρ,S,r,S',cf,mm,ee,z⟩:=h1
 try dsimp only at ee
 intro x dx hx hdx ne
 have hx':(upd H1 dx (.own x)) x=none:=by rw[au (Ne.symm ne)];exact hx
 have s1:=cf.sto.same (aJ hdx (.own x))
 have x1:Ex J H1 J (upd H1 dx (.own x)):=Ex.same (aJ hdx _)
 have q:=s1.push (o:=.ins C dx []) (mo:=.ins c []) hx' ⟨C,dx,[],n,upd_same,.nil⟩
 have x2:=x1.trans q.2
 have hloc:(J++[x])[S.length]?=some x:=by
  rw[← cf.sto.len,List.getElem?_append_right (Nat.le_refl _)];simp
 have ee:(match F (.loc S.length::ds) (S++[.ins c []]) with
  |some (.ok .non,S2)=>okO (.loc S.length) S2
  |_=>none)=some (r,S'):=ee
 split at ee
 ·rename_i S2 hF
  cases ee
  refine⟨J++[x],_,.loc S.length::ds,.non,_,.cons (At.loc_iff.mpr ⟨x,rfl,hloc⟩) (by rw[List.append_nil];exact mm.ex x2),q.1,hF,λJ' H' v x' s' m'=>⟨At.non_iff.mp m',?_⟩⟩
  exact z J' H' (.ref x) (x2.trans x') s' (At.loc_iff.mpr ⟨x,rfl,sD x'.pre hloc⟩)
 ·cases ee
end
section
variable {P:Program}{w:World}{K:PySem.W.Frag}{mg:Str->Option Value}{base:Heap}
theorem jW {x qual:Str}{st:Stmt}{sc:Scope}{N ps:List Str}{k:Nat}{G:Rho->Sto->Out Fl}{f:Addr}{fd:FuncData}(Fn:Fun K x qual st f fd)(hsc:al st=sc)(Sc:FnScope N ps sc)
  (h:∀ (f:Addr) (cdv:Value) (A:Around) (outer:List Env) (s:Shared) (H:Hp) (E:XK),Room k (A.deeper (envOfC qual sc s.heap.objs.size f cdv))->SSs (j1 CX0 P w K mg base N qual sc f cdv A outer s H E).nox W0 (bd st) G) :
  FnD P w K mg base (k+1) f fd ps (bh ps.length (N.length-ps.length) G):=by
 subst hsc
 refine sZ Fn Sc (λds S r e=>?_) λcdv A outer s H E hr=>⟨G,h f cdv A outer s H E hr,λds S d S' e=>?_⟩
 ·unfold bh at e
  split at e
  ·assumption
  ·cases e
 ·unfold bh at e
  split at e
  ·rename_i hl
   rw[hl]
   split at e
   ·rename_i d0 S0 q
    cases e
    exact⟨_,q,.inl rfl⟩
   ·rename_i ρ0 S0 q
    cases e
    exact⟨_,q,.inr ⟨rfl,ρ0,rfl⟩⟩
   ·cases e
  ·cases e
theorem fw {c m qual:Str}{st:Stmt}{sc:Scope}{N ps:List Str}{k:Nat}{G:Rho->Sto->Out Fl}(Dd:MethAt K c m qual st ps)(hsc:al st=sc)(Sc:FnScope N ps sc)
  (h:∀ (f:Addr) (cdv:Value) (A:Around) (outer:List Env) (s:Shared) (H:Hp) (E:XK),Room k (A.deeper (envOfC qual sc s.heap.objs.size f cdv))->SSs (j1 CX0 P w K mg base N qual sc f cdv A outer s H E).nox W0 (bd st) G) :
  lN P w K mg base (k+1) c m ps (bh ps.length (N.length-ps.length) G):=by
 obtain⟨C,f,fd,n,cl,mt,Fn,hb⟩:=Dd
 exact⟨C,f,fd,n,cl,mt,jW Fn hsc Sc h,hb⟩
theorem xT {c qual:Str}{st:Stmt}{sc:Scope}{N ps:List Str}{k:Nat}{G:Rho->Sto->Out Fl}(Dd:zZ K mg c qual st ps)(hsc:al st=sc)(Sc:FnScope N ps sc)
  (h:∀ (f:Addr) (cdv:Value) (A:Around) (outer:List Env) (s:Shared) (H:Hp) (E:XK),Room k (A.deeper (envOfC qual sc s.heap.objs.size f cdv))->SSs (j1 CX0 P w K mg base N qual sc f cdv A outer s H E).nox W0 (bd st) G) :
  z7 P w K mg base (k+1) c ps (bh ps.length (N.length-ps.length) G):=by
 obtain⟨C,f,fd,n,hm,mt,Fn,hb⟩:=Dd
 exact⟨C,f,fd,n,hm,mt,jW Fn hsc Sc h,hb⟩
theorem uQ {c m qual:Str}{st:Stmt}{ps:List Str}{k:Nat}(Dd:MethAt K c m qual st ps):lN P w K mg base k c m ps (λ_ _=>none):=by
 obtain⟨C,f,fd,n,cl,mt,Fn,hb⟩:=Dd
 have no:∀ vs H Q E,¬ spD K (λ_ _=>none) vs H Q E:=λvs H Q E h=>by
  obtain⟨J,S,ds,d,S',_,_,e,_⟩:=h
  cases e
 exact⟨C,f,fd,n,cl,mt,⟨λvs H Q E h=>absurd h (no vs H Q E),λA outer s H args us vs Q E _ _ _ _ h=>absurd h (no vs H Q E)⟩,hb⟩
end
def da (d:D)(S:Sto):Option (List D):=match d with
 | .loc l=>(match S[l]? with
  |some (.lst xs)=>some xs
  |_=>none)
 |_=>none
theorem xF {d:D}{S:Sto}{xs:List D}(h:da d S=some xs):∃ l,d = .loc l/\S[l]?=some (.lst xs):=by
 unfold da at h
 split at h
 ·rename_i l
  split at h
  ·rename_i xs' e;cases h;exact⟨l,rfl,e⟩
  ·cases h
 ·cases h
section
variable {X:Cx}{W:WT}{pos cpos apos p:Pos}{o e a b:Expr}{fo fe fa fb:Rho->Sto->Out D}{x:Str}
theorem nU {J:List Addr}{S:Sto}{H:Hp}{d:D}{v:V}{xs:List D}(so:StoOk X.K J S H)(m:At X.K H J d v)(h:da d S=some xs):∃ l q us,d = .loc l/\v = .ref q/\J[l]?=some q/\S[l]?=some (.lst xs)/\H q=some (.lst us)/\Ats X.K H J xs us:=by
 obtain⟨l,rfl,es⟩:=xF h
 obtain⟨q,rfl,hq⟩:=At.loc_iff.mp m
 obtain⟨us,eh,mu⟩:=so.at_ l q _ hq es
 exact⟨l,q,us,rfl,rfl,hq,es,eh,mu⟩
def tx:Rho->Sto->Out D:=λ_ S=>okO (.loc S.length) (S++[.lst []])
theorem sh:SE X W (.List [] pos) tx:=(qR pa_nil).imp λσ H Q h=>by
 obtain⟨J,ρ,S,r,S',c,_,e,z⟩:=h
 try dsimp only at e
 cases e
 show nE σ H _
 refine⟨Nat.zero_le _,λp hp=>?_⟩
 have q:=c.sto.push (o:=.lst []) (mo:=.lst []) hp ⟨[],upd_same,.nil⟩
 refine z (J++[p]) _ _ q.2 q.1 (At.loc_iff.mpr ⟨p,rfl,?_⟩)
 rw[← c.sto.len,List.getElem?_append_right (Nat.le_refl _)]
 simp
def on (d v:D)(S:Sto):Out D:=match d with
 | .loc l=>(match S[l]? with
  |some (.lst xs)=>if xs.length<sizeLine then okO .non (S.set l (.lst (xs++[v]))) else none
  |_=>none)
 |_=>none
def xX (fo fe:Rho->Sto->Out D):Rho->Sto->Out D:=λρ S=>ae (fo ρ S) λd S1=>ae (aE (da d S1) S1) λ_ S2=>ae (fe ρ S2) λv S3=>on d v S3
theorem vj {name:Str}(hn:name="append")(ho:SE X W o fo)(ha:SE X W a fe)(hbase:attributeBase o name X.env (eval o X.env)=eval o X.env:=by rfl)
  (hfew:((backTo cpos (starEach [a] X.env)).all (λx => !x.1)&&(backToKw cpos (keywordEach [] X.env)).all (λx=>x.1.isSome)
   && decide ([a].length+([]:List Keyword).length+(if ([]:List Keyword).isEmpty then 0 else 1)<30))=true:=by rfl)
  (hline:(apos.endLine==cpos.line)=true:=by rfl) (hs:starEach [a] X.env=(false,eval a X.env)::starEach [] X.env:=by rfl) (hplain:(backTo cpos (starEach [] X.env)).any (·.1)=false:=by rfl) :
  SE X W (.Call (.Attribute o name apos) [a] [] cpos) (xX fo fe):=by
 subst hn
 refine PE.imp (ym F.plainAttrs_list F.slot_list_append F.type_list_append uv ho (dJ ha pa_nil hs) hbase hfew hline hs hplain) λσ H Q h=>(tG.bindE h).mono λx H1 ⟨d,h1⟩=>?_
 obtain⟨J,ρ,S,r,S',c,m,ee,z⟩:=h1
 try dsimp only at ee
 obtain⟨mx,_⟩:=m.uncons
 cases q:da d S with
 |none=>rw[q] at ee;cases ee
 |some xs =>
  rw[q,bz,cu] at ee
  obtain⟨l,pa,us,rfl,rfl,hq,es,eh,mu⟩:=nU c.sto mx q
  refine⟨.inl ⟨rfl,us,.inl (.inl eh)⟩,?_⟩
  have h2:tG X W (RD X) [.loc l] [.ref pa] (λρ S2=>ae (fe ρ S2) λv S3=>on (.loc l) v S3) σ H1 Q:=⟨J,ρ,S,r,S',c,.cons mx .nil,ee,z⟩
  refine (tG.bindE h2).mono λy H2 ⟨dy,h3⟩=>?_
  show nE _ _ _
  obtain⟨J2,ρ2,S2,r2,S2',c2,m2,e2,z2⟩:=h3
  try dsimp only at e2
  obtain⟨my,m2⟩:=m2.uncons
  obtain⟨mx2,_⟩:=m2.uncons
  have e2:on (.loc l) dy S2=some (r2,S2'):=e2
  unfold on at e2
  simp only at e2
  split at e2
  ·rename_i xs2 es2
   split at e2
   ·rename_i lt
    cases e2
    obtain⟨q2,e3,hq2⟩:=At.loc_iff.mp mx2
    cases e3
    obtain⟨us2,eh2,mu2⟩:=c2.sto.at_ l pa _ hq2 es2
    have up:=c2.sto.update (o:=.lst (us2++[y])) (mo:=.lst (xs2++[dy])) hq2 λJ' H' x' eH eJ=>by
     subst eH eJ
     exact⟨_,upd_same,(mu2.ex x').append (.cons (my.ex x') .nil)⟩
    exact⟨pa,us2,y,rfl,rfl,eh2,by rw[← mu2.length];exact lt,z2 J2 _ _ up.2 up.1 (At.non_iff.mpr rfl)⟩
   ·cases e2
  ·cases e2
def pJ (x i:D)(S:Sto):Option D:=match i with
 | .int k=>(da x S).bind λxs=>atI xs k
 |_=>none
def xW (fa fb:Rho->Sto->Out D):Rho->Sto->Out D:=λρ S=>ae (fa ρ S) λx S1=>ae (fb ρ S1) λi S2=>aE (pJ x i S2) S2
theorem qL (ha:SE X W a fa)(hb:SE X W b fb)(hs:kn b:=by exact λ_ _=>rfl):SE X W (.Subscript a b pos) (xW fa fb):=
 (yl sP ha hb hs).imp λσ H Q h=>(tG.bindE h).mono λv H1 ⟨d,h1⟩=>(tG.bindE h1).mono λv2 H2 ⟨d2,h2⟩=>by
  obtain⟨J,ρ,S,r,S',c,m,e,z⟩:=h2
  try dsimp only at e
  obtain⟨mi,m⟩:=m.uncons
  obtain⟨mx,_⟩:=m.uncons
  cases q:pJ d d2 S with
  |none=>rw[q] at e;cases e
  |some dr =>
   rw[q] at e
   cases e
   unfold pJ at q
   split at q
   ·rename_i k
    obtain⟨xs,h1,h2⟩:=Option.bind_eq_some_iff.mp q
    obtain⟨l,pa,us,rfl,rfl,hq,es,eh,mu⟩:=nU c.sto mx h1
    cases At.int_iff.mp mi
    obtain⟨w,e1,a1⟩:=rM mu h2
    exact⟨pa,us,k,w,rfl,rfl,.inl (.inl eh),e1,z J H2 w Ex.refl c.sto a1⟩
   ·cases q
def uR (fa fb:Rho->Sto->Out D):Rho->Sto->Out D:=λρ S=>ae (fa ρ S) λx S1=>ae (fb ρ S1) λi S2=>aE (if bN x=true then pJ x i S2 else ixD x i) S2
theorem sj (ha:SE X W a fa)(hb:SE X W b fb)(hs:kn b:=by exact λ_ _=>rfl):SE X W (.Subscript a b pos) (uR fa fb):=
 SE.either (qL ha hb hs) (yg ixd ha hb hs) λρ S=>bK _ λx S1=>by
  by_cases h:bN x=true
  ·refine .inl (congrArg (ae (fb ρ S1)) (funext λi=>funext λS2=>?_));rw[if_pos h]
  ·refine .inr (congrArg (ae (fb ρ S1)) (funext λi=>funext λS2=>?_));rw[if_neg h]
def wu (fe:Rho->Sto->Out D):Rho->Sto->Out D:=λρ S=>ae (fe ρ S) λd S1=>aE ((da d S1).map λxs => .int xs.length) S1
theorem xa (hm:X.mg x=none)(ha:SE X W e fe)(hx:x="len":=by rfl)(hg:Gl X x:=by rfl)(he:starEach [e] X.env=(false,eval e X.env)::starEach [] X.env:=by rfl)(hpl:(backTo pos (starEach [] X.env)).any (·.1)=false:=by rfl) :
  SE X W (.Call (.Name x p) [e] [] pos) (wu fe):=by
 subst hx
 refine PE.imp (iF fu hg hm dz (dJ ha pa_nil he) (by decide) (by decide) he hpl) λσ H Q h=>?_
 refine (tG.bindE h).mono λv H1 ⟨d,h1⟩=>?_
 obtain⟨J,ρ,S,r,S',c,m,eq,z⟩:=h1
 try dsimp only at eq
 obtain⟨mx,_⟩:=m.uncons
 show nE _ _ _
 cases q:da d S with
 |none=>rw[q] at eq;cases eq
 |some xs =>
  rw[q] at eq
  cases eq
  obtain⟨l,pa,us,rfl,rfl,hq,es,eh,mu⟩:=nU c.sto mx q
  refine⟨pa,us,rfl,.inl (.inl (.inl eh)),?_⟩
  rw[← mu.length]
  exact z J H1 _ Ex.refl c.sto (At.int_iff.mpr rfl)
def iR (fe:Rho->Sto->Out D):Rho->Sto->Out D:=λρ S=>ae (fe ρ S) λd S1=>aE ((da d S1).bind λxs=>if xs.length<=sizeLine then some (.tup xs) else none) S1
theorem ml (hm:X.mg x=none)(ha:SE X W e fe)(hx:x="tuple":=by rfl)(hg:Gl X x:=by rfl)(he:starEach [e] X.env=(false,eval e X.env)::starEach [] X.env:=by rfl)(hpl:(backTo pos (starEach [] X.env)).any (·.1)=false:=by rfl) :
  SE X W (.Call (.Name x p) [e] [] pos) (iR fe):=by
 subst hx
 refine PE.imp (jo d5 hg hm fZ (dJ ha pa_nil he) (by decide) (by decide) he hpl) λσ H Q h=>?_
 refine (tG.bindE h).mono λv H1 ⟨d,h1⟩=>?_
 obtain⟨J,ρ,S,r,S',c,m,eq,z⟩:=h1
 try dsimp only at eq
 obtain⟨mx,_⟩:=m.uncons
 show nE _ _ _
 cases q:da d S with
 |none=>rw[q] at eq;cases eq
 |some xs =>
  rw[q,Option.bind_some] at eq
  split at eq
  ·rename_i hz
   cases eq
   obtain⟨l,pa,us,rfl,rfl,hq,es,eh,mu⟩:=nU c.sto mx q
   refine⟨pa,us,rfl,.inl ⟨.inl (.inl eh),λl2 hl2=>?_⟩⟩
   exact z J _ _ (Ex.same (aJ hl2 _)) (c.sto.same (aJ hl2 _)) (At.newTup mu hl2 (λa ha=>c.sto.tracked ha) (by rw[← mu.length];exact hz))
  ·cases eq
end
theorem ints_get:∀ {vs:List Value}{ns:List Int}(i:Nat) {n:Int},IntsAre vs ns->ns[i]?=some n->∃ t,vs[i]?=some (.int n t)
 |_,_,_,_,.nil,e=>by simp at e
 |_,_,0,_,.cons n t r,e=>by simp at e;subst e;exact⟨t,rfl⟩
 |_,_,i+1,_,.cons n t r,e=>by
  obtain⟨t',h⟩:=ints_get i r (by simpa using e)
  exact⟨t',by simpa using h⟩
theorem pK:∀ {vs:List Value}{ns:List Int},IntsAre vs ns->vs.length=ns.length
 |_,_,.nil=>rfl
 |_,_,.cons n t r=>by simp[pK r]
theorem mC {k:Int}:∀ {ns:List Int}{j:Nat},j<ns.idxOf k->∀ (h2:j<ns.length),ns[j]≠k
 |n::r,0,h,_=>by
  intro e
  have e:n=k:=e
  subst e
  simp at h
 |n::r,j+1,h,h2=>by
  by_cases e:n=k
  ·subst e;simp at h
  ·have hb:(n==k)=false:=by simpa using e
   rw[List.idxOf_cons,hb] at h
   exact mC (ns:=r) (j:=j) (by simpa using h) (by simpa using h2)
theorem ja {prog:Program}{w:World}{A:Around}{E:Value->Shared->Prop}{s:Shared}{l:Addr}{o:Obj}{n:Nat}{vs:List Value}{ns:List Int}{k:Int}{t:Tok}{Q:Value->Shared->Prop}(ho:s.heap.get? l=some o)(hc:o.cls = .type "tuple")(hd:o.data = .seq vs.toArray n)(hi:IntsAre vs ns)
  (hk:k∈ns) (h:∀ t' s',s'={ s with toks:=s.toks+1 }->Q (.int (ns.idxOf k:Nat) t') s'):wpAny (model prog w) A (call (.builtin "tuple.index") [.ref l,.int k t]) Q E s:=by
 have hT:s.TypeIs (.ref l) "tuple":=⟨o,ho,hc⟩
 refine wpAny_call_entry F.slot_tuple_index hT F.entry_tuple_index ?_ (F.args_tuple_index_2 _ _)
 show wpAny _ _ (Builtin.Tuple.tupleItemsOf (.ref l) >>= _) _ _ s
 refine wpAny_bind (wpAny_tupleItemsOf ho hd ?_)
 have hlen:=pK hi
 have hj:ns.idxOf k<ns.length:=List.idxOf_lt_length_iff.mpr hk
 show wpAny _ _ (forIn [0:min vs.toArray.size vs.toArray.size] _ _ >>= _) _ _ s
 refine wpAny_bind ?_
 rw[Std.Legacy.Range.forIn_eq_forIn_range']
 have hsz:([0:min vs.toArray.size vs.toArray.size]:Std.Legacy.Range).size=vs.length:=by simp[Std.Legacy.Range.size]
 show wpAny _ _ (forIn (List.range' 0 ([0:min vs.toArray.size vs.toArray.size]:Std.Legacy.Range).size 1) _ _) _ _ _
 rw[hsz]
 refine wpAny_forIn_list _ (λrest r s'=>r.1=none/\s'=s/\∃ i,i<=ns.idxOf k/\rest=List.range' i (vs.length-i) 1) _ ?_ ?_ _ _ ⟨rfl,rfl,0,Nat.zero_le _,by simp⟩
 ·rintro x rest r s' ⟨hr,rfl,i,hij,hl⟩
  have hil:i<vs.length:=by omega
  obtain⟨m,hm⟩:∃ m,vs.length-i=m+1:=⟨vs.length-i-1,by omega⟩
  rw[hm,List.range'_succ] at hl
  obtain⟨rfl,rfl⟩:=List.cons.inj hl
  obtain⟨nn,hn⟩:∃ nn,ns[x]?=some nn:=⟨ns[x]'(by omega),List.getElem?_eq_getElem _⟩
  obtain⟨t',hv⟩:=ints_get x hi hn
  have ha:vs.toArray[x]?=some (.int nn t'):=by simpa using hv
  rw[ha]
  show wpAny _ _ (eqBool (.int nn t') (.int k t) >>= _) _ _ _
  refine wpAny_bind (wpAny_eqBool_int ?_)
  by_cases e:nn=k
  ·subst e
   have ex:ns.idxOf nn=x:=by
    have h1:ns.idxOf nn<=x:=by
     have hx:x<ns.length:=by omega
     have:ns[x]=nn:=by rw[List.getElem?_eq_getElem hx] at hn;exact Option.some.inj hn
     rcases Nat.lt_or_ge x (ns.idxOf nn) with h2 |h2
     ·exact absurd this (mC h2 hx)
     ·exact h2
    omega
   rw[beq_self_eq_true]
   simp only[if_true]
   refine wpAny_bind (wpAny_mono (show wpAny _ _ (retInt (x:Int)) _ _ _ from wpAny_ret_mkInt (Q:=λv s2 => ∃ t',v = .int (x:Int) t'/\s2={ s' with toks:=s'.toks+1 }) ⟨_,rfl,rfl⟩) (λfin s2 ⟨v,e1,t',e2,e3⟩=>?_) λ_ _ z=>z)
   subst e1 e2
   refine wpAny_pure (wpAny_pure ⟨_,rfl,?_⟩)
   have h':=h t' s2 e3
   rw[ex] at h'
   exact h'
  ·rw[beq_eq_false_iff_ne.mpr e]
   simp only[Bool.false_eq_true,if_false]
   refine wpAny_pure ⟨rfl,rfl,x+1,?_,?_⟩
   ·have hx:x<ns.length:=by omega
    rcases Nat.lt_or_ge x (ns.idxOf k) with h2 |h2
    ·exact h2
    ·exfalso
     have e3:x=ns.idxOf k:=by omega
     rw[e3,List.getElem?_eq_getElem hj,List.getElem_idxOf hj] at hn
     exact e (Option.some.inj hn).symm
   ·congr 1;omega
 ·rintro⟨r1,r2⟩ s' ⟨hr,rfl,i,hij,hl⟩
  exfalso
  obtain⟨m,hm⟩:∃ m,vs.length-i=m+1:=⟨vs.length-i-1,by omega⟩
  rw[hm,List.range'_succ] at hl
  cases hl
section
variable {X:Cx}{W:WT}{fe fa:Rho->Sto->Out D}
theorem uu:MtR X "tuple.index" (λx xs H Q => ∃ (a:Addr) (ns:List Int) (k:Int),x = .ref a/\xs=[.int k]/\SqT X.K H a (ns.map V.int)/\k∈ns/\Q (.int (ns.idxOf k:Nat)) H):=by
 intro pins s σ H x xs v us Q I rx rs h
 obtain⟨a,ns,k,rfl,rfl,hl,hk,q⟩:=h
 cases rx
 obtain⟨u,rfl,ru⟩:=vals1 rs
 obtain⟨t2,rfl⟩:=ru
 obtain⟨its,rv,⟨o,h1,h2,n,h3⟩,_⟩:=I.tuple hl
 refine ja (vs:=its) h1 h2 h3 (fm rv) hk λt' s' e=>?_
 subst e
 exact⟨.int _,H,I.tok _,⟨_,rfl⟩,q⟩
def gD:D->D->Option D
 | .tup ds,.int k=>(eN ds).bind λns=>if k∈ns then some (.int (ns.idxOf k:Nat)) else none
 |_,_=>none
theorem yA {J:List Addr}{H1:Hp}{d:D}{v:V}(hk:dm d=true)(m:At X.K H1 J d v):tyV X.K "tuple" v H1:=by
 cases d<;>first |(cases hk;done) |skip
 rename_i ds
 obtain⟨a,vs,rfl,tq,_⟩:=At.tup_iff.mp m
 rcases tq with z |⟨o,its,n,h1,h2,h3,_⟩
 ·exact .inr (.inl ⟨rfl,.inr ⟨vs,z.1⟩⟩)
 ·exact .inr (.inl ⟨rfl,.inl ⟨o,h1,h2,h3⟩⟩)
theorem mE {o:Expr}{name:Str}{apos cpos:Pos}{a:Expr}(hn:name="index")(ho:SE X W o fe)(ha:SE X W a fa)(hbase:attributeBase o name X.env (eval o X.env)=eval o X.env:=by rfl)
  (hfew:((backTo cpos (starEach [a] X.env)).all (λx => !x.1)&&(backToKw cpos (keywordEach [] X.env)).all (λx=>x.1.isSome)
   && decide ([a].length+([]:List Keyword).length+(if ([]:List Keyword).isEmpty then 0 else 1)<30))=true:=by rfl)
  (hline:(apos.endLine==cpos.line)=true:=by rfl) (hs:starEach [a] X.env=(false,eval a X.env)::starEach [] X.env:=by rfl) (hplain:(backTo cpos (starEach [] X.env)).any (·.1)=false:=by rfl) :
  SE X W (.Call (.Attribute o name apos) [a] [] cpos) (wA dm gD fe fa):=by
 subst hn
 refine PE.imp (ym F.plainAttrs_tuple F.slot_tuple_index F.type_tuple_index uu ho (dJ ha pa_nil hs) hbase hfew hline hs hplain) λσ H Q h=>vT (λJ H1 d v hk m=>yA hk m) (λv v2 H2 Q q=>?_) h
 obtain⟨J,dx,dy,d',hJ,ax,ay,eq,q⟩:=q
 unfold gD at eq
 split at eq
 ·rename_i ds k
  obtain⟨ns,e1,e2⟩:=Option.bind_eq_some_iff.mp eq
  split at e2
  ·rename_i hc
   cases e2
   cases At.int_iff.mp ay
   obtain⟨a,vs,rfl,tq,am⟩:=At.tup_iff.mp ax
   have ed:=fR e1
   subst ed
   have hvs:vs=ns.map V.int:=Ats.toInts am
   subst hvs
   exact⟨a,ns,k,rfl,rfl,tq.sq,hc,q H2 _ (Same.refl _) (At.int_iff.mpr rfl)⟩
  ·cases e2
 ·cases eq
end
def zo:List Int->Option Int
 |[]=>none
 |n::r=>some (r.foldl (λa b=>if b<a then b else a) n)
theorem n5:∀ (r:List Int) (n:Int),(r.foldl (λa b=>if b<a then b else a) n∈n::r)/\∀ a∈n::r,r.foldl (λa b=>if b<a then b else a) n<=a
 |[],n=>by simp
 |x::r,n=>by
  rw[List.foldl_cons]
  by_cases hx:x<n
  ·rw[if_pos hx]
   obtain⟨h1,h2⟩:=n5 r x
   refine⟨List.mem_cons_of_mem _ h1,λa ha=>?_⟩
   rcases List.mem_cons.mp ha with e |ha
   ·have h0:=h2 x (List.mem_cons_self ..)
    omega
   ·exact h2 a ha
  ·rw[if_neg hx]
   obtain⟨h1,h2⟩:=n5 r n
   have h0:=h2 n (List.mem_cons_self ..)
   refine⟨?_,λa ha=>?_⟩
   ·rcases List.mem_cons.mp h1 with e |h
    ·rw[e];exact List.mem_cons_self ..
    ·exact List.mem_cons_of_mem _ (List.mem_cons_of_mem _ h)
   ·rcases List.mem_cons.mp ha with e |ha
    ·omega
    ·rcases List.mem_cons.mp ha with e |ha
     ·omega
     ·exact h2 a (List.mem_cons_of_mem _ ha)
theorem uw {ns:List Int}{M:Int}(h1:M∈ns)(h2:∀ a∈ns,M<=a):zo ns=some M:=by
 cases ns with
 |nil=>simp at h1
 |cons n r =>
  obtain⟨a,b⟩:=n5 r n
  exact congrArg some (Int.le_antisymm (b M h1) (h2 _ a))
theorem k9:∀ {vs:List Value}{ns:List Int},IntsAre vs ns->∃ xs:List (Int×Tok),vs=xs.map (λp => .int p.1 p.2)/\ns=xs.map (·.1)
 |_,_,.nil=>⟨[],rfl,rfl⟩
 |_,_,.cons n t r=>by
  obtain⟨xs,e1,e2⟩:=k9 r
  exact⟨(n,t)::xs,by rw[e1];rfl,by rw[e2];rfl⟩
section
variable {X:Cx}{W:WT}
def pp:List D->Option D
 |[.lst ds]=>(eN ds).bind λns=>(zo ns).map .int
 |_=>none
theorem xS (hc:X.calm=true):lL X (.builtin "min") pp:=by
 intro pins s σ H xs us Q I r h
 obtain⟨J,ds,d,hJ,m,e,q⟩:=h
 unfold pp at e
 split at e
 ·rename_i ys
  obtain⟨ns,e1,e2⟩:=Option.bind_eq_some_iff.mp e
  obtain⟨M,e3,e4⟩:=Option.map_eq_some_iff.mp e2
  subst e4
  obtain⟨v,w,rfl,a,n⟩:=Ats.cons_iff.mp m
  cases Ats.nil_iff.mp n
  obtain⟨p,zs,rfl,t,mz⟩:=At.lst_iff.mp a
  obtain⟨u,rfl,ru⟩:=vals1 r
  cases ru
  have ed:=fR e1
  subst ed
  have ev:=Ats.toInts mz
  subst ev
  obtain⟨its,rv,pl,hz⟩:=I.list t.sq
  obtain⟨xs,ex,en⟩:=k9 (fm rv)
  have hne : 0<xs.length:=by
   cases xs with
   |nil=>subst en;cases e3
   |cons x xs=>simp
  have hl:s.heap.IsList p (intItems xs.toArray):=by
   have:=pl.isList
   rw[ex] at this
   simpa [intItems] using this
  refine min_intList (I.ok.hd hc) hl (by simpa using hne) λv h' tk hv hk=>?_
  obtain⟨tt,rfl⟩:=intItems_at hv
  obtain⟨h1,h2⟩:=argBest_lt (numAt xs.toArray) (xs.toArray.size-1)
  have mem:numAt xs.toArray (argBest (λi j=>decide (numAt xs.toArray i<numAt xs.toArray j)) (xs.toArray.size-1))∈ns:=by
   have hb:argBest (λi j=>decide (numAt xs.toArray i<numAt xs.toArray j)) (xs.toArray.size-1)<xs.length:=by
    have:xs.toArray.size=xs.length:=by simp
    omega
   rw[numAt_eq,en]
   simp only[List.getD_eq_getElem?_getD,List.getElem?_map,List.toList_toArray,List.getElem?_eq_getElem hb,Option.map_some,Option.getD_some]
   exact List.mem_map.mpr ⟨_,List.getElem_mem hb,rfl⟩
  have low:∀ a∈ns,numAt xs.toArray (argBest (λi j=>decide (numAt xs.toArray i<numAt xs.toArray j)) (xs.toArray.size-1))<=a:=by
   intro a ha
   rw[en] at ha
   obtain⟨x,hx,rfl⟩:=List.mem_map.mp ha
   obtain⟨j,hj,rfl⟩:=List.getElem_of_mem hx
   have h3:=h2 j (by
    have:xs.toArray.size=xs.length:=by simp
    omega)
   refine Int.le_trans h3 (Int.le_of_eq ?_)
   simp[numAt,hj]
  have eM:=uw mem low
  rw[e3] at eM
  have eM':=Option.some.inj eM
  refine⟨.int M,H,I.kept (t':=tk) hk,⟨tt,by rw[eM']⟩,q H _ (Same.refl H) (At.int_iff.mpr rfl)⟩
 ·cases e
end
section
variable {X:Cx}{W:WT}{pos:Pos}
def z5 (K:PySem.W.Frag)(a:Addr):It:=
 ⟨λi H => ∃ xs x,SqL K H a xs/\xs[i]?=some x,λi H x H' => ∃ p y,H p=none/\x = .ref p/\H'=upd H p (.tup [.int i,y])/\∀ xs,SqL K H a xs->xs[i]?=some y,λi H => ∃ xs,SqL K H a xs/\xs.length<=i⟩
theorem qy {P:Program}{w:World}{K:PySem.W.Frag}{es:List Expr}{k:Nat}{pt:Pos}(a e it:Addr)(hei:e≠it)(hae:a≠e)(hai:a≠it):Turn P w K (.Tuple es k pt) (z5 K a) [e,it] e (λi h=>(∃ old,IsEnum h e it i old)/\h.IsListIter it a i) where
 mem:=by simp
 obj:=λi h st b hb=>by
  obtain⟨⟨old,he⟩,o,ho,hc,hd⟩:=st
  rcases List.mem_cons.mp hb with rfl |hb
  ·exact⟨_,he,λv z=>by cases z⟩
  ·have:b=it:=by simpa using hb
   subst this
   exact⟨o,ho,λv z=>by rw[hd] at z;cases z⟩
 keep:=λi h h' st kp=>by
  obtain⟨⟨old,he⟩,o,ho,r⟩:=st
  exact⟨⟨old,kp e (by simp) _ he⟩,o,kp it (by simp) o ho,r⟩
 item:=by
  intro X hP hw hK hc i pins s σ H E I hf st hg
  subst hP hw hK
  obtain⟨xs,x,hq,hx⟩:=hg
  obtain⟨its,rv,p,hz⟩:=I.list hq
  obtain⟨u,hu,ru⟩:=rv.get hx
  obtain⟨⟨old,he⟩,hit⟩:=st
  have hlt:i<its.toArray.size:=by
   rw[List.size_toArray];exact (List.getElem?_eq_some_iff.mp hu).1
  refine wpAny_pyNext_enum_itemD (Draws.list (A:=X.A.in1) (I.ok.hd hc) it a hai its.toArray) he ⟨hit,p.isList⟩ hlt hei (by simp[hei,Ne.symm hae]) λy h' tk hP ho hs' hT hsz hk=>?_
  have ey:y=u:=by
   have:its.toArray[i]?=some u:=by simpa using hu
   rw[this] at hP
   exact (Option.some.inj hP).symm
  subst ey
  refine⟨_,rfl,wpAny_letOwnedTupleGo_enum (s:={ s with heap:=h',toks:=tk+1 }) ho λh2 he2 sb2=>?_⟩
  have hn:H s.heap.objs.size=none:=I.fresh
  obtain⟨fe0,fe1,fe2,fe3,fe4,fe5⟩:=hf e (by simp)
  obtain⟨fi0,fi1,fi2,fi3,fi4,fi5⟩:=hf it (by simp)
  have kp:∀ b o,b≠e->b≠it->s.heap.get? b=some o->h2.get? b=some o:=λb o h1 h2' e1=>(sb2.2 b h1).trans (hk b o h1 h2' e1)
  have hTe:s.heap.objs.size≠e:=Nat.ne_of_gt (Heap.lt_size he)
  have hT2:h2.get? s.heap.objs.size=some { cls:=.type "tuple",data:=.seq #[.int i tk,y] }:=(sb2.2 _ hTe).trans hT
  have ne:∀ b o,H b=some o->b≠s.heap.objs.size:=λb o q=>aB q hn
  have I1:Inv X pins σ (upd H s.heap.objs.size (.tup [.int i,x])) { s with heap:=h2,toks:=tk+1 }:=by
   refine I.step (h':=h2) (g':=s.gens) (d':=s.drawn) (t':=tk+1) (ch:=[e,it]) (λb hb=>?_) (λb o _ _ hb e1 _=>kp b o (λz=>hb (by simp[z])) (λz=>hb (by simp[z])) e1) (λb o _ _ hb e1 _=>⟨o.slots,kp b o (λz=>hb (by simp[z])) (λz=>hb (by simp[z])) e1⟩)
    (λb o hb e1 n'=>by rw[au (Nat.ne_of_lt (Heap.lt_size e1))];exact n') (λb o hb e1=>⟨o,kp b o (λz=>hb (by simp[z])) (λz=>hb (by simp[z])) e1⟩)
    (λb xs q=>by rw[au (ne b _ q)];exact q) (λb o xs q=>by rw[au (ne b _ q)];exact q) (λb ps q=>⟨#[],by rw[au (ne b _ q),q];simp⟩)
    (λm hm=>?_) (λb o q=>?_) I.bare
   ·rcases List.mem_cons.mp hb with rfl |hb
    ·exact⟨fe3,fe1,fe4,fe5⟩
    ·have:b=it:=by simpa using hb
     subst this
     exact⟨fi3,fi1,fi4,fi5⟩
   ·obtain⟨o,es,ep,ho,r⟩:=hm
    exact⟨o,es,ep,kp _ o (Ne.symm fe1) (Ne.symm fi1) ho,r⟩
   ·by_cases hb:b=s.heap.objs.size
    ·subst hb
     rw[upd_same] at q
     cases q
     exact⟨by show 2<=sizeLine;decide,[.int i tk,y],.cons ⟨tk,rfl⟩ (.cons ru .nil),_,hT2⟩
    ·rw[au hb] at q
     refine (I.hok b o q).stay (λc v hc' z=>kp c v ?_ ?_ z) (λc z=>by rw[au (ne c _ z)];exact z) λc xs z=>by rw[au (ne c _ z)];exact z
     ·rcases hc' with z' |z'
      ·rw[z'];exact aB q fe0
      ·exact aB z' fe0
     ·rcases hc' with z' |z'
      ·rw[z'];exact aB q fi0
      ·exact aB z' fi0
  refine⟨.ref s.heap.objs.size,_,I1,rfl,⟨_,x,hn,rfl,rfl,λys hy=>by rw[I.list_inj hy hq];exact hx⟩,⟨⟨y,he2⟩,hs'.1.extBut sb2.extBut (Ne.symm hei)⟩,λb hb=>?_⟩
  rcases List.mem_cons.mp hb with rfl |hb
  ·rw[au (Ne.symm hTe)];exact fe0
  ·have:b=it:=by simpa using hb
   subst this
   obtain⟨o,ho',_⟩:=hit
   rw[au (Nat.ne_of_lt (Heap.lt_size ho'))];exact fi0
 done:=by
  intro X hP hw hK hc i pins s σ H E I hf st hg
  subst hP hw hK
  obtain⟨xs,hq,hx⟩:=hg
  obtain⟨its,rv,p,hz⟩:=I.list hq
  obtain⟨⟨old,he⟩,hit⟩:=st
  obtain⟨fi0,fi1,fi2,fi3,fi4,fi5⟩:=hf it (by simp)
  have hl:=rv.length
  exact wpAny_pyNext_enum_end (I.ok.hd hc) he hit p.isList (by simp;omega) λh' eb=>⟨rfl,I.turned (t':=s.toks) (λb o hb e=>eb b o hb e) fi0 fi1 fi3 fi4 fi5⟩
 self:=by
  intro A i s Q E st h
  obtain⟨⟨old,he⟩,_⟩:=st
  exact wpAny_pyIter_enum he h
theorem Walk.enumLst {a:Addr}{ds:List D}{xs:List V}{J:List Addr}{H:Hp}(t:LQ X.K H J a xs)(m:Ats X.K H J ds xs):Walk X (z5 X.K a) (b7 0 ds) J H where
 len:=by rw[ba,m.length];exact t.len
 go:=λJ1 H1 i x hi=>by
  rw[ba] at hi
  have m1:=m.ex x
  obtain⟨v,hv,_⟩:=m1.get (List.getElem?_eq_getElem hi)
  exact⟨xs,v,(t.ex x).sq,hv⟩
 yld:=λJ1 H1 i v H' x hJ hi y=>by
  obtain⟨p,y,hn,rfl,rfl,hy⟩:=y
  obtain⟨d,e,a⟩:=(m.ex x).get' (hy xs (t.ex x).sq)
  refine⟨.tup [.int i,d],by rw[eQ,e];simp,At.newTup (.cons (At.int_iff.mpr rfl) (.cons a .nil)) hn hJ (by show 2<=sizeLine;decide),aJ hn _⟩
 stop:=λJ1 H1 i x hi=>by
  rw[ba] at hi
  exact⟨xs,(t.ex x).sq,by rw[← m.length];exact hi⟩
def rD:List D->Option (List D)
 |[.lst xs]=>some (b7 0 xs)
 |_=>none
theorem qJ {es:List Expr}{k:Nat}{pt p:Pos}{a:Expr}{t:Rho->Sto->Out (List D)}{x:Str}(hx:x="enumerate")(hm:X.mg x=none)(ha:SA X W [a] t)(hg:Gl X x:=by rfl)
  (he:starEach (a::[]) X.env=(false,eval a X.env)::starEach [] X.env:=by rfl) (hpl:(backTo pos (starEach [] X.env)).any (·.1)=false:=by rfl):SI X W (.Tuple es k pt) (.Call (.Name x p) [a] [] pos) (gL rD t):=by
 subst hx
 intro pins s σ H R I h
 refine wpAny_Call_Name_kw (js I hg hm boot_enumerate ?_ (by decide) (by decide))
 refine callWith_type1 (thn (ha pos pins s σ H _ I (iB h)) λus s1 ⟨vs,H1,I1,r1,J,S,es',ds,so,m,hk,z⟩=>?_) he hpl
 unfold rD at hk
 split at hk
 ·rename_i xs
  cases hk
  obtain⟨v,r,rfl,a1,n⟩:=Ats.cons_iff.mp m
  cases Ats.nil_iff.mp n
  obtain⟨ad,ws,rfl,tq,mz⟩:=At.lst_iff.mp a1
  obtain⟨u,rfl,ru⟩:=vals1 r1
  cases ru
  obtain⟨its,rv,pl,hz⟩:=I1.list tq.sq
  have had:ad<s1.heap.objs.size:=by obtain⟨o,n,e,_⟩:=pl;exact Heap.lt_size e
  refine call_enumerate_list pl.isList λh' en it sz kp=>?_
  have I2:Inv X pins σ H1 { s1 with heap:=h' }:=I1.kept (t':=s1.toks) kp
  refine wpAny_pyIter_enum en ?_
  refine⟨s1.heap.objs.size+1,[s1.heap.objs.size+1,s1.heap.objs.size],_,z5 X.K ad,H1,rfl,I2,qy ad _ _ (Nat.ne_of_gt (Nat.lt_succ_self _)) (Nat.ne_of_lt (Nat.lt_succ_of_lt had)) (Nat.ne_of_lt had),⟨⟨_,en⟩,it⟩,λb hb=>?_,z H1 _ (Same.refl _) (Walk.enumLst tq mz)⟩
  rcases List.mem_cons.mp hb with rfl |hb
  ·exact I1.fpOk (Nat.le_succ _) (I1.hok.fresh (Nat.le_succ _))
  ·have:b=s1.heap.objs.size:=by simpa using hb
   subst this
   exact I1.fpOk (Nat.le_refl _) I1.fresh
 ·cases hk
def n6:List D->Option (List D)
 |[.tup xs]=>some (b7 0 xs)
 |[.lst xs]=>some (b7 0 xs)
 |_=>none
theorem vd {es:List Expr}{k:Nat}{pt p:Pos}{a:Expr}{t:Rho->Sto->Out (List D)}{x:Str}(hx:x="enumerate")(hm:X.mg x=none)(ha:SA X W [a] t)(hg:Gl X x:=by rfl)
  (he:starEach (a::[]) X.env=(false,eval a X.env)::starEach [] X.env:=by rfl) (hpl:(backTo pos (starEach [] X.env)).any (·.1)=false:=by rfl):SI X W (.Tuple es k pt) (.Call (.Name x p) [a] [] pos) (gL n6 t):=by
 refine SI.either (r9 hx hm ha hg he hpl) (qJ hx hm ha hg he hpl) λρ S=>?_
 unfold gL
 refine bK _ λds S1=>?_
 unfold n6 pP rD
 match ds with
 |[.tup xs]=>exact .inl rfl
 |[.lst xs]=>exact .inr rfl
 |[]=>exact .inl rfl
 |[.non]=>exact .inl rfl
 |[.bl _]=>exact .inl rfl
 |[.int _]=>exact .inl rfl
 |[.str _]=>exact .inl rfl
 |[.set _]=>exact .inl rfl
 |[.loc _]=>exact .inl rfl
 |a::b::r=>cases a<;>exact .inl rfl
end
section
variable {X:Cx}{W:WT}{pos p:Pos}{e:Expr}
def xU (c:Str)(g:Rho->Sto->Bool):Rho->Sto->Out Fl:=λρ S=>if g ρ S=true then some (.error c,S) else none
end
section
variable {X:Cx}{W:WT}{pos pos' p:Pos}{o i e:Expr}{es:List Expr}{gs:Rho->Sto->Out (List D)}{fo fi fv fe:Rho->Sto->Out D}{x:Str}
def rL (gs:Rho->Sto->Out (List D)):Rho->Sto->Out D:=λρ S=>ae (gs ρ S) λds S1=>if ds.length<=sizeLine then okO (.loc S1.length) (S1++[.lst ds]) else none
theorem vi (h:SA X W es gs):SE X W (.List es pos) (rL gs):=(qR h).imp λσ H Q h=>(tG.bindA h).mono λus H1 ⟨ds,hl,h1⟩=>by
 rw[List.append_nil,List.append_nil] at h1
 obtain⟨J,ρ,S,r,S',c,m,e,z⟩:=h1
 split at e
 ·rename_i le
  cases e
  refine⟨by rw[← hl];exact le,λp hp=>?_⟩
  have x:Ex J H1 (J++[p]) (upd H1 p (.lst us)):=⟨⟨[p],rfl⟩,λb u hb nb=>⟨by rw[au (aB hb hp)];exact hb,λz=>by
   rcases List.mem_append.mp z with z |z
   ·exact nb z
   ·exact aB hb hp (by simpa using z)⟩⟩
  have q:=c.sto.push (o:=.lst us) (mo:=.lst ds) hp ⟨us,upd_same,m.ex x⟩
  refine z (J++[p]) _ _ q.2 q.1 (At.loc_iff.mpr ⟨p,rfl,?_⟩)
  rw[← c.sto.len,List.getElem?_append_right (Nat.le_refl _)]
  simp
 ·cases e
def mF (x k v:D)(ρ:Rho)(S:Sto):Out Fl:=match k with
 | .int i=>(match x with
  | .loc l=>(match S[l]? with
   |some (.lst xs)=>(match ixN xs.length i with
    |some j=>okO (.next ρ) (S.set l (.lst (xs.set j v)))
    |none=>none)
   |_=>none)
  |_=>none)
 |_=>none
def tF (fo fi fv:Rho->Sto->Out D):Rho->Sto->Out Fl:=λρ S=>ae (fv ρ S) λv S1=>ae (fo ρ S1) λx S2=>ae (fi ρ S2) λk S3=>mF x k v ρ S3
theorem Ats.set {K:PySem.W.Frag}{H:Hp}{J:List Addr}{d:D}{v:V}(a:At K H J d v):∀ {ds:List D}{vs:List V}(j:Nat),Ats K H J ds vs->Ats K H J (ds.set j d) (vs.set j v)
 |[],vs,j,m=>by cases Ats.nil_iff.mp m;exact m
 |e::ds,vs,j,m=>by
  obtain⟨u,r,rfl,m1,m2⟩:=Ats.cons_iff.mp m
  cases j with
  |zero=>exact .cons a m2
  |succ j=>exact .cons m1 (Ats.set a j m2)
theorem w4 (ho:SE X W o fo)(hi:SE X W i fi)(hv:SE X W e fv)(hs:swapsWithSole [.Subscript o i pos'] e pos.line X.env=pure false:=by rfl)(hw:swappedStores [.Subscript o i pos'] e X.env=pure none:=by rfl)
  (h1:(assignEach [.Subscript o i pos'] X.env).map (·.2)=[assign (.Subscript o i pos') X.env]:=by rfl)
  (ha:∀ v,assign (.Subscript o i pos') X.env v=(do
   let ov ← holding [v] (eval o X.env)
   let iv ← holding [v,ov] (eval i X.env)
   standAt pos'
   holding [v,ov,iv] (setItem ov iv v)
   release [v,ov,iv] []):=by intro _;rfl):SS X W (.Assign [.Subscript o i pos'] e pos) (tF fo fi fv):=
 (vy hv (y6 ho hi set_list ha) hs hw h1).imp λE σ H h=>by
  have h:tH X W [] [] (tF fo fi fv) E σ H:=let ⟨J,ρ,S,r,S',c,e,z⟩:=h;⟨J,ρ,S,r,S',c,.nil,e,z⟩
  refine (tH.bindE h).mono λv H1 ⟨dv,h1⟩=>(tH.bindE h1).mono λx H2 ⟨dx,h2⟩=>(tH.bindE h2).mono λy H3 ⟨dk,h3⟩=>?_
  obtain⟨J,ρ,S,r,S',c,m,e,z⟩:=h3
  obtain⟨mk,m⟩:=m.uncons
  obtain⟨mx,m⟩:=m.uncons
  obtain⟨mv,_⟩:=m.uncons
  have e:mF dx dk dv ρ S=some (r,S'):=e
  unfold mF at e
  cases dk with
  |int k =>
   cases dx with
   |loc l =>
    simp only at e
    split at e
    ·rename_i xs es
     split at e
     ·rename_i j ej
      cases e
      obtain⟨a,rfl,ha⟩:=At.loc_iff.mp mx
      obtain⟨us,eh,mu⟩:=c.sto.at_ l a _ ha es
      cases At.int_iff.mp mk
      have up:=c.sto.update (o:=.lst (us.set j v)) (mo:=.lst (xs.set j dv)) ha λJ' H' x' eH eJ=>by
       subst eH eJ
       exact⟨_,upd_same,Ats.set (mv.ex x') j (mu.ex x')⟩
      exact⟨a,us,k,j,rfl,rfl,eh,by rw[← mu.length];exact ej,z J σ _ up.2 (c.re up.2 up.1)⟩
     ·cases e
    ·cases e
   |_=>cases e
  |_=>cases e
end
def FE (K:PySem.W.Frag)(x qual:Str)(st:Stmt)(f:Addr):Prop:=∃ fd,Fun K x qual st f fd
def BD (x qual:Str)(st:Stmt)(ps:List Str):Prop:=∀ (kV doc pm:Value) (an:Option Addr) (cdv ct:Value) (us:List Value),us.length=ps.length->bindArgs (PySem.W.fnOf x qual (cL st) (bd st) (al st) .none kV doc pm an cdv ct) ⟨us,[]⟩=pure (ps.zip us)
section
variable {P:List Value->Prop}{us:List Value}
theorem us0 (h:us.length=0)(k:P []):P us:=by rw[List.length_eq_zero_iff.mp h];exact k
theorem wT {n:Nat}(h:us.length=n+1)(k:∀ a r,r.length=n->P (a::r)):P us:=by
 cases us with
 |nil=>cases h
 |cons a r=>exact k a r (Nat.succ.inj h)
theorem us1 (h:us.length=1)(k:∀ a,P [a]):P us:=wT h λa _ h=>us0 (P:=λr=>P (a::r)) h (k a)
theorem us2 (h:us.length=2)(k:∀ a b,P [a,b]):P us:=wT h λa _ h=>us1 (P:=λr=>P (a::r)) h (k a)
theorem us3 (h:us.length=3)(k:∀ a b c,P [a,b,c]):P us:=wT h λa _ h=>us2 (P:=λr=>P (a::r)) h (k a)
theorem us4 (h:us.length=4)(k:∀ a b c d,P [a,b,c,d]):P us:=wT h λa _ h=>us3 (P:=λr=>P (a::r)) h (k a)
end
section
variable {x qual:Str}{st:Stmt}{p1 p2 p3 p4 p5 p6:Str}
theorem bd1 (h:∀ (kV doc pm:Value) (an:Option Addr) (cdv ct:Value) (a:Value),bindArgs (PySem.W.fnOf x qual (cL st) (bd st) (al st) .none kV doc pm an cdv ct) ⟨[a],[]⟩=pure [(p1,a)]):BD x qual st [p1]:=λkV doc pm an cdv ct us hl=>us1 (P:=λus=>bindArgs _ ⟨us,[]⟩=pure (List.zip [p1] us)) hl λa=>(h kV doc pm an cdv ct a)
theorem bd2 (h:∀ (kV doc pm:Value) (an:Option Addr) (cdv ct:Value) (a b:Value),bindArgs (PySem.W.fnOf x qual (cL st) (bd st) (al st) .none kV doc pm an cdv ct) ⟨[a,b],[]⟩=pure [(p1,a),(p2,b)]):BD x qual st [p1,p2]:=λkV doc pm an cdv ct us hl=>us2 (P:=λus=>bindArgs _ ⟨us,[]⟩=pure (List.zip [p1,p2] us)) hl λa b=>(h kV doc pm an cdv ct a b)
theorem bd3 (h:∀ (kV doc pm:Value) (an:Option Addr) (cdv ct:Value) (a b c:Value),bindArgs (PySem.W.fnOf x qual (cL st) (bd st) (al st) .none kV doc pm an cdv ct) ⟨[a,b,c],[]⟩=pure [(p1,a),(p2,b),(p3,c)]):BD x qual st [p1,p2,p3]:=λkV doc pm an cdv ct us hl=>us3 (P:=λus=>bindArgs _ ⟨us,[]⟩=pure (List.zip [p1,p2,p3] us)) hl λa b c=>(h kV doc pm an cdv ct a b c)
theorem bd4 (h:∀ (kV doc pm:Value) (an:Option Addr) (cdv ct:Value) (a b c d:Value),bindArgs (PySem.W.fnOf x qual (cL st) (bd st) (al st) .none kV doc pm an cdv ct) ⟨[a,b,c,d],[]⟩=pure [(p1,a),(p2,b),(p3,c),(p4,d)]):BD x qual st [p1,p2,p3,p4]:=λkV doc pm an cdv ct us hl=>us4 (P:=λus=>bindArgs _ ⟨us,[]⟩=pure (List.zip [p1,p2,p3,p4] us)) hl λa b c d=>(h kV doc pm an cdv ct a b c d)
end
section
variable {K:PySem.W.Frag}{h:Heap}{mg:Str->Option Value}{x m c qual:Str}{st:Stmt}{ps:List Str}{f C:Addr}
theorem fE {oc:Value}{od an:Option Addr}{osl:Array (Option Value)}{kV doc pm cdv ct:Value}(l:K.lookup f=some ⟨oc,od,.func (PySem.W.fnOf x qual (cL st) (bd st) (al st) .none kV doc pm an cdv ct),osl⟩)
  (c:PySem.W.codeIn K cdv qual=true) (k:PySem.W.keepIn K (.ref f)=true):FE K x qual st f:=⟨_,zC l c k⟩
theorem dAt (X:K.In h)(G:h.Ns mainGlobals mg)(a:PySem.W.nsIn K mainGlobals x=some (some (.ref f)))(q:FE K x x st f)(b:BD x x st ps):bC K mg x st ps:=
 Exists.elim q λfd F=>⟨f,fd,F,PySem.W.mg_of X G a,F.binds b⟩
abbrev NC (K:PySem.W.Frag)(c:Str)(C:Addr):Prop:=PySem.W.nsIn K mainGlobals c=some (some (.ref C))/\Cls K C
theorem mAt (n:NC K c C)(a:PySem.W.findIn K (.ref C) m=some (some (.ref f)))(i:PySem.W.isFn K (.ref f)=true)(q:FE K m qual st f)(b:BD m qual st ps):MethAt K c m qual st ps:=
 Exists.elim q λfd F=>⟨C,f,fd,n.1,n.2,⟨a,i,F.kp⟩,F,F.binds b⟩
theorem kAt (X:K.In h)(G:h.Ns mainGlobals mg)(n:NC K c C)(k4:PySem.W.makesIn K C=true)(k5:PySem.W.keepIn K (.ref C)=true)(a:PySem.W.findIn K (.ref C) "__init__"=some (some (.ref f)))(i:PySem.W.isFn K (.ref f)=true)(q:FE K "__init__" qual st f)(b:BD "__init__" qual st ps):zZ K mg c qual st ps:=
 Exists.elim q λfd F=>⟨C,f,fd,n.1,PySem.W.mg_of X G n.1,⟨k4,a,i,k5⟩,F,F.binds b⟩
end
section
variable {prog:Program}{w:World}{A:Around}{E:Value->Shared->Prop}{s:Shared}
structure ZA (z TI TO i1 i2:Addr) (f1 f2:List Addr):Prop where
 m1:i1∈f1
 m2:i2∈f2
 z1:z∉f1
 z2:z∉f2
 o1:TO∉f1
 o2:TO∉f2
 x1:i2∉f1
 x2:i1∉f2
 oz:TO≠z
 tz:TI≠z
 to:TI≠TO
 t1:TI∉f1
 t2:TI∉f2
variable {z TI TO i1 i2:Addr}{f1 f2:List Addr}{n1 n2:Nat}{P1 P2:Nat->Value->Prop}{S1 S2:Nat->Heap->Prop}{a b:Value}
theorem ZA.ne1 (D:ZA z TI TO i1 i2 f1 f2):i1≠z/\i1≠TO/\i1≠i2/\i2≠z/\i2≠TO/\TI≠i1/\TI≠i2:=
 ⟨λe=>D.z1 (e▸D.m1),λe=>D.o1 (e▸D.m1),λe=>D.x1 (e▸D.m1),λe=>D.z2 (e▸D.m2),λe=>D.o2 (e▸D.m2),λe=>D.t1 (e▸D.m1),λe=>D.t2 (e▸D.m2)⟩
theorem ci {x y:Addr}{l:List Addr}(h:x∉l)(g:y∈l):y≠x:=λe=>h (e▸g)
theorem uX (D:ZA z TI TO i1 i2 f1 f2)(W1:Draws prog w A i1 f1 n1 P1 S1)(W2:Draws prog w A i2 f2 n2 P2 S2){j k:Nat}(hj:j<n1)(hk:k<n2){Q:Value->Shared->Prop}
  (hz:IsZip s.heap z TI TO .none) (hTI:IsPair s.heap TI (.ref i1) (.ref i2)) (hTO:IsPair s.heap TO a b) (t1:S1 j s.heap) (t2:S2 k s.heap)
  (hQ:∀ x y h' tk,P1 j x->P2 k y->IsZip h' z TI TO (rawInt s.heap.objs.size)->IsPair h' TO x y->S1 (j+1) h'->S2 (k+1) h'->IsPair h' s.heap.objs.size x y->h'.objs.size=s.heap.objs.size+1 ->
   (∀ c o,c≠z->c≠TO->c≠i1->c≠i2->s.heap.get? c=some o->h'.get? c=some o)->Q (.ref s.heap.objs.size) { s with heap:=h',toks:=tk }) :
  wpAny (model prog w) A (Builtin.«zip.__next__» ⟨[.ref z],[]⟩) (λfin s' => ∃ v,fin = .done (.ret v)/\Q v s') E s:=by
 obtain⟨e1,e2,e3,e4,e5,e6,e7⟩:=D.ne1
 show wpAny _ _ (field (.ref z) 2 >>= _) _ _ _
 refine wpAny_bind (wpAny_field (x:=.bool false) hz rfl rfl ?_)
 show wpAny _ _ (field (.ref z) 3 >>= _) _ _ _
 refine wpAny_bind (wpAny_field (x:=.ref TI) hz rfl rfl (wpAny_bind (wpAny_seqItems hTI rfl ?_)))
 show wpAny _ _ (Builtin.SmallTypes.ownedTupleIsFree (.ref z) >>= _) _ _ _
 unfold Builtin.SmallTypes.ownedTupleIsFree
 refine wpAny_bind (wpAny_bind (wpAny_field (x:=.none) hz rfl rfl (wpAny_pure ?_)))
 simp only[if_true]
 refine wpAny_bind (wpAny_rule (wpAny_bind (wpAny_field (x:=.ref TO) hz rfl rfl (wpAny_bind (wpAny_setField_rec hz (by simp) λha za ka=>wpAny_bind ?_)))))
 have za:IsZip ha z TI TO .ellipsis:=za
 simp only[List.zipIdx_cons,List.zipIdx_nil,List.forIn_cons,List.forIn_nil]
 refine wpAny_bind (wpAny_bind (wpAny_onRaise ?_))
 show wpAny _ _ (Builtin.SmallTypes.nextOf (.ref i1) >>= _) _ _ _
 refine wpAny_bind (W1.item j _ _ _ hj (W1.frame _ _ _ t1 λc hc o e=>ka.extBut _ _ (ci D.z1 hc) e) λx hb tb px tb1 kb=>wpAny_pure ?_)
 have ob:IsPair hb TO a b:=kb.extBut _ _ (Ne.symm e2) (ka.extBut _ _ D.oz hTO)
 refine wpAny_bind (wpAny_seqItems ob rfl (wpAny_bind (wpAny_updateSeq_pair ob λhc oc kc=>wpAny_bind (wpAny_letGo (wpAny_pure ?_)))))
 have oc:IsPair hc TO x b:=oc
 refine wpAny_bind (wpAny_bind (wpAny_onRaise ?_))
 show wpAny _ _ (Builtin.SmallTypes.nextOf (.ref i2) >>= _) _ _ _
 have t2':S2 k hc:=W2.frame _ _ _ t2 λc hm o e=>kc.extBut _ _ (ci D.o2 hm) (kb.extBut _ _ (ci D.x2 hm) (ka.extBut _ _ (ci D.z2 hm) e))
 refine wpAny_bind (W2.item k _ _ _ hk t2' λy hd td py td1 kd=>wpAny_pure ?_)
 have od:IsPair hd TO x b:=kd.extBut _ _ (Ne.symm e5) oc
 refine wpAny_bind (wpAny_seqItems od rfl (wpAny_bind (wpAny_updateSeq_pair od λhe oe ke=>wpAny_bind (wpAny_letGo (wpAny_pure (wpAny_pure ?_))))))
 have oe:IsPair he TO x y:=oe
 refine wpAny_bind (wpAny_seqItems oe rfl (wpAny_bind (wpAny_newTuple ?_)))
 have sz:he.objs.size=s.heap.objs.size:=by rw[ke.1,kd.1,kc.1,kb.1,ka.1]
 have all:∀ c o,c≠z->c≠TO->c≠i1->c≠i2->s.heap.get? c=some o->he.get? c=some o:=λc o q1 q2 q3 q4 e=>ke.extBut _ _ q2 (kd.extBut _ _ q4 (kc.extBut _ _ q2 (kb.extBut _ _ q3 (ka.extBut _ _ q1 e))))
 have ze:IsZip he z TI TO .ellipsis:=ke.extBut _ _ (Ne.symm D.oz) (kd.extBut _ _ (Ne.symm e4) (kc.extBut _ _ (Ne.symm D.oz) (kb.extBut _ _ (Ne.symm e1) za)))
 have s1e:S1 (j+1) he:=W1.frame _ _ _ tb1 λc hm o e=>ke.extBut _ _ (ci D.o1 hm) (kd.extBut _ _ (ci D.x1 hm) (kc.extBut _ _ (ci D.o1 hm) e))
 have s2e:S2 (k+1) he:=W2.frame _ _ _ td1 λc hm o e=>ke.extBut _ _ (ci D.o2 hm) e
 have lz:z<he.objs.size:=Heap.lt_size ze
 show wpAny _ _ (Builtin.SmallTypes.ownedTupleHandOut (.ref z) (.ref he.objs.size) >>= _) _ _ _
 unfold Builtin.SmallTypes.ownedTupleHandOut
 have zf:IsZip (he.push { cls:=.type "tuple",data:=.seq #[x,y] }) z TI TO .ellipsis:=Heap.get?_push_of_some _ ze
 refine wpAny_bind (wpAny_bind (wpAny_setField_rec zf (by simp) λhg zg kg=>wpAny_setField_rec (show IsZip hg z TI TO (rawInt he.objs.size) from zg) (by simp) λhh zh kh=>wpAny_pure ⟨_,rfl,?_⟩))
 have zh:IsZip hh z TI TO (rawInt he.objs.size):=zh
 have up:∀ c o,c≠z->he.get? c=some o->hh.get? c=some o:=λc o q e=>kh.extBut _ _ q (kg.extBut _ _ q (Heap.get?_push_of_some _ e))
 have new:IsPair hh he.objs.size x y:=kh.extBut _ _ (Nat.ne_of_gt lz) (kg.extBut _ _ (Nat.ne_of_gt lz) (Heap.get?_push_size _ rfl))
 have size:hh.objs.size=he.objs.size+1:=by rw[kh.1,kg.1,Heap.size_push]
 show Q (.ref he.objs.size) _
 rw[sz] at zh new size ⊢
 exact hQ x y hh _ px py zh (up _ _ D.oz oe) (W1.frame _ _ _ s1e λc hm o e=>up c o (ci D.z1 hm) e) (W2.frame _ _ _ s2e λc hm o e=>up c o (ci D.z2 hm) e) new size λc o q1 q2 q3 q4 e=>up c o q1 (all c o q1 q2 q3 q4 e)
theorem wO (D:ZA z TI TO i1 i2 f1 f2)(W1:Draws prog w A i1 f1 n1 P1 S1)(W2:Draws prog w A i2 f2 n2 P2 S2){j k:Nat}(hend:j=n1∨(j<n1/\k=n2)){Q:Fin->Shared->Prop}
  (hz:IsZip s.heap z TI TO .none) (hTI:IsPair s.heap TI (.ref i1) (.ref i2)) (hTO:IsPair s.heap TO a b) (t1:S1 j s.heap) (t2:S2 k s.heap)
  (hE:∀ h' e tk,(∀ c o,c≠z->c≠TO->c≠i1->c≠i2->s.heap.get? c=some o->h'.get? c=some o)->(∃ o,h'.get? e=some o/\o.cls = .type "StopIteration")->E (.ref e) { s with heap:=h',toks:=tk }) :
  wpAny (model prog w) A (Builtin.«zip.__next__» ⟨[.ref z],[]⟩) Q E s:=by
 obtain⟨e1,e2,e3,e4,e5,e6,e7⟩:=D.ne1
 show wpAny _ _ (field (.ref z) 2 >>= _) _ _ _
 refine wpAny_bind (wpAny_field (x:=.bool false) hz rfl rfl ?_)
 show wpAny _ _ (field (.ref z) 3 >>= _) _ _ _
 refine wpAny_bind (wpAny_field (x:=.ref TI) hz rfl rfl (wpAny_bind (wpAny_seqItems hTI rfl ?_)))
 show wpAny _ _ (Builtin.SmallTypes.ownedTupleIsFree (.ref z) >>= _) _ _ _
 unfold Builtin.SmallTypes.ownedTupleIsFree
 refine wpAny_bind (wpAny_bind (wpAny_field (x:=.none) hz rfl rfl (wpAny_pure ?_)))
 simp only[if_true]
 refine wpAny_bind (wpAny_rule (wpAny_bind (wpAny_field (x:=.ref TO) hz rfl rfl (wpAny_bind (wpAny_setField_rec hz (by simp) λha za ka=>wpAny_bind ?_)))))
 have za:IsZip ha z TI TO .ellipsis:=za
 have stop:∀ (h:Heap) (zh:IsZip h z TI TO .ellipsis) (e:Addr) (tk:Nat) (h2:Heap) (ih:Addr),z≠ih->Heap.ExtBut ih h h2->(∃ o,h2.get? e=some o/\o.cls = .type "StopIteration")->(∀ c o,c≠z->c≠TO->c≠i1->c≠i2->s.heap.get? c=some o->h2.get? c=some o) ->
   wpAny (model prog w) A (setField (.ref z) 0 .none) (λ_ s'=>E (.ref e) s') E { s with heap:=h2,toks:=tk }:=by
  rintro h zh e tk h2 ih hne kx ⟨oe,hoe,hce⟩ kk
  have z2:IsZip h2 z TI TO .ellipsis:=kx _ _ hne zh
  have nez:e≠z:=λq=>by subst q;rw[z2] at hoe;cases hoe;simp at hce
  exact wpAny_setField_rec z2 (by simp) λh3 _ k3=>hE h3 e tk (λc o q1 q2 q3 q4 x=>k3.extBut _ _ q1 (kk c o q1 q2 q3 q4 x)) ⟨oe,k3.extBut _ _ nez hoe,hce⟩
 simp only[List.zipIdx_cons,List.zipIdx_nil,List.forIn_cons,List.forIn_nil]
 refine wpAny_bind (wpAny_bind (wpAny_onRaise ?_))
 show wpAny _ _ (Builtin.SmallTypes.nextOf (.ref i1) >>= _) _ _ _
 have t1':=W1.frame _ _ _ t1 λc hc o e=>ka.extBut c o (ci D.z1 hc) e
 rcases hend with rfl |⟨hj,rfl⟩
 ·refine wpAny_bind (W1.done _ _ _ t1' λh2 e k2 he=>?_)
  exact stop ha za e s.toks h2 i1 (Ne.symm e1) k2 he λc o q1 q2 q3 q4 x=>k2 _ _ q3 (ka.extBut _ _ q1 x)
 ·refine wpAny_bind (W1.item j _ _ _ hj t1' λx hb tb px tb1 kb=>wpAny_pure ?_)
  have ob:IsPair hb TO a b:=kb.extBut _ _ (Ne.symm e2) (ka.extBut _ _ D.oz hTO)
  refine wpAny_bind (wpAny_seqItems ob rfl (wpAny_bind (wpAny_updateSeq_pair ob λhc oc kc=>wpAny_bind (wpAny_letGo (wpAny_pure ?_)))))
  refine wpAny_bind (wpAny_bind (wpAny_onRaise ?_))
  show wpAny _ _ (Builtin.SmallTypes.nextOf (.ref i2) >>= _) _ _ _
  have t2':=W2.frame _ _ _ t2 λc hm o e=>kc.extBut c o (ci D.o2 hm) (kb.extBut _ _ (ci D.x2 hm) (ka.extBut _ _ (ci D.z2 hm) e))
  have zc:IsZip hc z TI TO .ellipsis:=kc.extBut _ _ (Ne.symm D.oz) (kb.extBut _ _ (Ne.symm e1) za)
  refine wpAny_bind (W2.done _ _ _ t2' λh2 e k2 he=>?_)
  exact stop hc zc e tb h2 i2 (Ne.symm e4) k2 he λc o q1 q2 q3 q4 x=>k2 _ _ q4 (kc.extBut _ _ q2 (kb.extBut _ _ q3 (ka.extBut _ _ q1 x)))
end
def QAt (k:Bool)(h:Heap)(a:Addr)(items:Array Value):Prop:=match k with
 |true=>h.IsTuple a items
 |false=>h.IsList a items
def QIt (k:Bool)(h:Heap)(it a:Addr)(i:Nat):Prop:=match k with
 |true=>h.IsTupleIter it a i
 |false=>h.IsListIter it a i
def itO (k:Bool)(a:Addr):Obj:=match k with
 |true => { cls:=.type "tuple_iterator",data:=.fields #[.ref a,.int 0 0] }
 |false => { cls:=.type "list_iterator",data:=.fields #[.ref a,.int 0 0] }
section
variable {prog:Program}{w:World}{A:Around}{E:Value->Shared->Prop}{s:Shared}
theorem QAt.keep {k:Bool}{h h':Heap}{a:Addr}{items:Array Value}(x:QAt k h a items)(e:∀ o,h.get? a=some o->h'.get? a=some o):QAt k h' a items:=by
 cases k with
 |true=>obtain⟨o,ho,r⟩:=(x:h.IsTuple a items);exact⟨o,e o ho,r⟩
 |false=>obtain⟨o,ho,r⟩:=(x:h.IsList a items);exact⟨o,e o ho,r⟩
theorem QIt.keep {k:Bool}{h h':Heap}{it a:Addr}{i:Nat}(x:QIt k h it a i)(e:∀ o,h.get? it=some o->h'.get? it=some o):QIt k h' it a i:=by
 cases k with
 |true=>obtain⟨o,ho,r⟩:=(x:h.IsTupleIter it a i);exact⟨o,e o ho,r⟩
 |false=>obtain⟨o,ho,r⟩:=(x:h.IsListIter it a i);exact⟨o,e o ho,r⟩
theorem QIt.obj {k:Bool}{h:Heap}{it a:Addr}{i:Nat}(x:QIt k h it a i):∃ o,h.get? it=some o/\∀ v,o.data≠.cell v:=by
 cases k with
 |true=>obtain⟨o,ho,_,hd⟩:=(x:h.IsTupleIter it a i);exact⟨o,ho,λv z=>by rw[hd] at z;cases z⟩
 |false=>obtain⟨o,ho,_,hd⟩:=(x:h.IsListIter it a i);exact⟨o,ho,λv z=>by rw[hd] at z;cases z⟩
theorem QAt.lt {k:Bool}{h:Heap}{a:Addr}{items:Array Value}(x:QAt k h a items):a<h.objs.size:=by
 cases k with
 |true=>obtain⟨o,ho,_⟩:=(x:h.IsTuple a items);exact Heap.lt_size ho
 |false=>obtain⟨o,ho,_⟩:=(x:h.IsList a items);exact Heap.lt_size ho
theorem Draws.seq (k:Bool)(hh:A.handled=none)(it a:Addr)(hne:a≠it)(items:Array Value):Draws prog w A it [it,a] items.size (λi v=>items[i]?=some v) (λi h=>QIt k h it a i/\QAt k h a items):=by
 cases k with
 |true=>exact Draws.tup hh it a hne items
 |false=>exact Draws.list hh it a hne items
theorem sC {k:Bool}{a:Addr}{items:Array Value}{Q:Value->Shared->Prop}(x:QAt k s.heap a items)(h:Q (.ref s.heap.objs.size) { s with heap:=s.heap.push (itO k a) }):wpAny (model prog w) A (pyIter (.ref a)) Q E s:=by
 cases k with
 |true=>exact wpAny_pyIter_tuple (show s.heap.IsTuple a items from x) h
 |false=>exact wpAny_pyIter_list (show s.heap.IsList a items from x) h
end
abbrev zp1 (k1:Bool)(h:Heap)(a:Addr):Heap:=h.push (itO k1 a)
abbrev zp2 (k1 k2:Bool)(h:Heap)(a b:Addr):Heap:=(zp1 k1 h a).push (itO k2 b)
abbrev zp3 (k1 k2:Bool)(h:Heap)(a b:Addr):Heap:=(zp2 k1 k2 h a b).push { cls:=.type "tuple",data:=.seq #[.ref h.objs.size,.ref (zp1 k1 h a).objs.size] }
abbrev zp4 (k1 k2:Bool)(h:Heap)(a b:Addr):Heap:=(zp3 k1 k2 h a b).push { cls:=.type "tuple",data:=.seq #[.none,.none] }
abbrev zp5 (k1 k2:Bool)(h:Heap)(a b:Addr):Heap:=(zp4 k1 k2 h a b).push { cls:=.type "zip",data:=.fields #[.none,.bool false,.bool false,.ref (zp2 k1 k2 h a b).objs.size,.ref (zp3 k1 k2 h a b).objs.size] }
theorem wN (k1 k2:Bool)(a b:Addr)(xs ys:Array Value):Meets (Builtin.«zip.__new__» ⟨[.type "zip",.ref a,.ref b],[]⟩) (λ_ R s=>QAt k1 s.heap a xs/\QAt k2 s.heap b ys /\
   R (.ok (.ret (.ref (zp4 k1 k2 s.heap a b).objs.size))) { s with heap:=zp5 k1 k2 s.heap a b }):=
 .of_wp λprog w A R s h=>by
  obtain⟨hp,g,d,tk,os⟩:=s;obtain⟨ha,hb,h⟩:=h
  have hs:=sub_zip
  have ga:QAt k1 (Shared.heap ⟨hp,g,d,tk,os⟩) a xs:=ha
  have gb:QAt k2 (Shared.heap ⟨hp.push (itO k1 a),g,d,tk,os⟩) b ys:=QAt.keep (show QAt k2 hp b ys from hb) λo e=>Heap.get?_push_of_some _ e
  wp_walk using sC ga,sC gb
  exact⟨_,rfl,h⟩
section
variable {prog:Program}{w:World}{A:Around}{E:Value->Shared->Prop}{s:Shared}
theorem uO {k1 k2:Bool}{a b:Addr}{xs ys:Array Value}{Q:Value->Shared->Prop}(ha:QAt k1 s.heap a xs)(hb:QAt k2 s.heap b ys)
  (h:∀ h',IsZip h' (s.heap.objs.size+4) (s.heap.objs.size+2) (s.heap.objs.size+3) .none->IsPair h' (s.heap.objs.size+2) (.ref s.heap.objs.size) (.ref (s.heap.objs.size+1)) ->
   IsPair h' (s.heap.objs.size+3) .none .none->QIt k1 h' s.heap.objs.size a 0->QIt k2 h' (s.heap.objs.size+1) b 0->(∀ c o,s.heap.get? c=some o->h'.get? c=some o)->Q (.ref (s.heap.objs.size+4)) { s with heap:=h' }) :
  wpAny (model prog w) A (call (.type "zip") [.ref a,.ref b]) Q E s:=by
 refine callType_new F.called_zip (by decide) (F.typeCall_zip_2 _ _) (F.newCall_zip_2 _ _) (λobj=>F.args_object_init_3 obj _ _) F.entry_zip_new (wN k1 k2 a b xs ys) ⟨ha,hb,?_⟩
 have c1:(zp1 k1 s.heap a).objs.size=s.heap.objs.size+1:=Heap.size_push ..
 have c2:(zp2 k1 k2 s.heap a b).objs.size=s.heap.objs.size+2:=by rw[Heap.size_push,c1]
 have c3:(zp3 k1 k2 s.heap a b).objs.size=s.heap.objs.size+3:=by rw[Heap.size_push,c2]
 have c4:(zp4 k1 k2 s.heap a b).objs.size=s.heap.objs.size+4:=by rw[Heap.size_push,c3]
 have up1:∀ c o,(zp4 k1 k2 s.heap a b).get? c=some o->(zp5 k1 k2 s.heap a b).get? c=some o:=λc o e=>Heap.get?_push_of_some _ e
 have up2:∀ c o,(zp3 k1 k2 s.heap a b).get? c=some o->(zp5 k1 k2 s.heap a b).get? c=some o:=λc o e=>up1 _ _ (Heap.get?_push_of_some _ e)
 have up3:∀ c o,(zp2 k1 k2 s.heap a b).get? c=some o->(zp5 k1 k2 s.heap a b).get? c=some o:=λc o e=>up2 _ _ (Heap.get?_push_of_some _ e)
 have up4:∀ c o,(zp1 k1 s.heap a).get? c=some o->(zp5 k1 k2 s.heap a b).get? c=some o:=λc o e=>up3 _ _ (Heap.get?_push_of_some _ e)
 have g5:(zp5 k1 k2 s.heap a b).get? (zp4 k1 k2 s.heap a b).objs.size=some _:=Heap.get?_push_size _ rfl
 have g4:(zp5 k1 k2 s.heap a b).get? (zp3 k1 k2 s.heap a b).objs.size=some _:=up1 _ _ (Heap.get?_push_size _ rfl)
 have g3:(zp5 k1 k2 s.heap a b).get? (zp2 k1 k2 s.heap a b).objs.size=some _:=up2 _ _ (Heap.get?_push_size _ rfl)
 have fr:∀ k c,(itO k c).isFreed=false:=λk c=>by cases k<;>rfl
 have g2:(zp5 k1 k2 s.heap a b).get? (zp1 k1 s.heap a).objs.size=some (itO k2 b):=up3 _ _ (Heap.get?_push_size _ (fr k2 b))
 have g1:(zp5 k1 k2 s.heap a b).get? s.heap.objs.size=some (itO k1 a):=up4 _ _ (Heap.get?_push_size _ (fr k1 a))
 have it:∀ (k:Bool) (c i:Addr),(zp5 k1 k2 s.heap a b).get? i=some (itO k c)->QIt k (zp5 k1 k2 s.heap a b) i c 0:=λk c i e=>by
  cases k with
  |true=>exact⟨_,e,rfl,rfl⟩
  |false=>exact⟨_,e,rfl,rfl⟩
 show _/\_
 rw[c4] at g5 ⊢
 rw[c3] at g4 g5
 rw[c2] at g3 g5
 rw[c1] at g2 g3
 exact⟨⟨_,g5,rfl⟩,h _ g5 g3 g4 (it _ _ _ g1) (it _ _ _ g2) λc o x=>up4 _ _ (Heap.get?_push_of_some _ x)⟩
end
def SqK (k:Bool)(K:PySem.W.Frag)(H:Hp)(a:Addr)(xs:List V):Prop:=match k with
 |true=>SqT K H a xs
 |false=>SqL K H a xs
section
variable {X:Cx}{pins:List (Addr×Obj)}{σ:St}{H:Hp}{s:Shared}
theorem Inv.seqK {k:Bool}{a:Addr}{xs:List V}(I:Inv X pins σ H s)(h:SqK k X.K H a xs):∃ its:List Value,Vals xs its/\QAt k s.heap a its.toArray:=by
 cases k with
 |true=>obtain⟨its,r,p,_⟩:=I.tuple h;exact⟨its,r,p⟩
 |false=>obtain⟨its,r,⟨o,n,ho,hc,_,hd⟩,_⟩:=I.list h;exact⟨its,r,o,ho,hc,n,hd⟩
theorem Inv.seqK_inj {k:Bool}{a:Addr}{xs ys:List V}(I:Inv X pins σ H s)(h:SqK k X.K H a xs)(h':SqK k X.K H a ys):xs=ys:=by
 cases k with
 |true=>exact I.tuple_inj h h'
 |false=>exact I.list_inj h h'
end
theorem QAt.ne {k:Bool}{h:Heap}{a it c:Addr}{items:Array Value}{i:Nat}(x:QAt k h a items)(y:QIt k h it c i):a≠it:=λe=>by
 subst e
 cases k with
 |true =>
  obtain⟨o1,ho1,hc1,_⟩:=(x:h.IsTuple a items)
  obtain⟨o2,ho2,hc2,_⟩:=(y:h.IsTupleIter a c i)
  rw[ho1] at ho2;cases ho2;rw[hc1] at hc2
  exact absurd hc2 (by simp)
 |false =>
  obtain⟨o1,ho1,hc1,_⟩:=(x:h.IsList a items)
  obtain⟨o2,ho2,hc2,_⟩:=(y:h.IsListIter a c i)
  rw[ho1] at ho2;cases ho2;rw[hc1] at hc2
  exact absurd hc2 (by simp)
def Itz (K:PySem.W.Frag)(k1 k2:Bool)(a b:Addr)(n1 n2:Nat):It:=
 ⟨λi H=>i<n1/\i<n2/\∃ xs ys,SqK k1 K H a xs/\SqK k2 K H b ys/\xs.length=n1/\ys.length=n2,
  λi H v H' => ∃ p x y,H p=none/\v = .ref p/\H'=upd H p (.tup [x,y])/\(∀ xs,SqK k1 K H a xs->xs[i]?=some x)/\∀ ys,SqK k2 K H b ys->ys[i]?=some y,
  λi H=>(n1<=i∨n2<=i)/\∃ xs ys,SqK k1 K H a xs/\SqK k2 K H b ys/\xs.length=n1/\ys.length=n2⟩
structure ZSt (k1 k2:Bool) (a b z TI TO i1 i2:Addr) (n1 n2 i:Nat) (h:Heap):Prop where
 zip:IsZip h z TI TO .none
 its:IsPair h TI (.ref i1) (.ref i2)
 out:∃ u v,IsPair h TO u v
 fst:QIt k1 h i1 a i
 snd:QIt k2 h i2 b i
 le1:i<=n1
 le2:i<=n2
theorem u3 {P:Program}{w:World}{K:PySem.W.Frag}{es:List Expr}{kk:Nat}{pt:Pos}(k1 k2:Bool)(a b z TI TO i1 i2:Addr)(n1 n2:Nat)(D:ZA z TI TO i1 i2 [i1,a] [i2,b]) :
  Turn P w K (.Tuple es kk pt) (Itz K k1 k2 a b n1 n2) [z,TI,TO,i1,i2] z (ZSt k1 k2 a b z TI TO i1 i2 n1 n2) where
 mem:=by simp
 obj:=λi h st c hc=>by
  simp only[List.mem_cons,List.not_mem_nil,or_false] at hc
  rcases hc with rfl |rfl |rfl |rfl |rfl
  ·exact⟨_,st.zip,λv q=>by cases q⟩
  ·exact⟨_,st.its,λv q=>by cases q⟩
  ·obtain⟨u,v,e⟩:=st.out;exact⟨_,e,λv q=>by cases q⟩
  ·exact st.fst.obj
  ·exact st.snd.obj
 keep:=λi h h' st kp=>by
  obtain⟨u,v,e⟩:=st.out
  exact⟨kp _ (by simp) _ st.zip,kp _ (by simp) _ st.its,⟨u,v,kp _ (by simp) _ e⟩,st.fst.keep λo e=>kp _ (by simp) o e,st.snd.keep λo e=>kp _ (by simp) o e,st.le1,st.le2⟩
 item:=by
  intro X hP hw hK hc i pins s σ H E I hf st hg
  subst hP hw hK
  obtain⟨l1,l2,xs,ys,hx,hy,lx,ly⟩:=hg
  obtain⟨us,ru,pu⟩:=I.seqK hx
  obtain⟨vs,rv,pv⟩:=I.seqK hy
  obtain⟨u0,v0,eo⟩:=st.out
  have su:us.toArray.size=n1:=by rw[List.size_toArray,← ru.length,lx]
  have sv:vs.toArray.size=n2:=by rw[List.size_toArray,← rv.length,ly]
  have ne1:a≠i1:=pu.ne st.fst
  have ne2:b≠i2:=pv.ne st.snd
  have hT:s.TypeIs (.ref z) "zip":=⟨_,st.zip,rfl⟩
  unfold pyNext
  refine wpAny_bind (wpAny_attempt (wpAny_callSpecial?_slot (name:=Str.ofString "__next__") hT F.slot_zip_next (wpAny_call_entry F.slot_zip_next hT F.entry_zip_next ?_ (F.args_zip_next_1 _))))
  refine uX D (Draws.seq (A:=X.A.in1) k1 (I.ok.hd hc) i1 a ne1 us.toArray) (Draws.seq (A:=X.A.in1) k2 (I.ok.hd hc) i2 b ne2 vs.toArray) (j:=i) (k:=i) (by omega) (by omega) st.zip st.its eo ⟨st.fst,pu⟩ ⟨st.snd,pv⟩
   λu v h' tk hu hv z' o' f' g' new size kp=>wpAny_pure ⟨_,rfl,wpAny_letOwnedTupleGo_zip (s:={ s with heap:=h',toks:=tk }) z' λh2 z2 k2=>?_⟩
  have hu:us[i]?=some u:=by simpa using hu
  have hv:vs[i]?=some v:=by simpa using hv
  obtain⟨x,ex⟩:∃ x,xs[i]?=some x:=⟨_,List.getElem?_eq_getElem (by omega)⟩
  obtain⟨y,ey⟩:∃ y,ys[i]?=some y:=⟨_,List.getElem?_eq_getElem (by omega)⟩
  obtain⟨u',e1,rx⟩:=ru.get ex
  rw[hu] at e1;cases e1
  obtain⟨v',e2,ry⟩:=rv.get ey
  rw[hv] at e2;cases e2
  have hn:H s.heap.objs.size=none:=I.fresh
  have kq:∀ c o,c≠z->c≠TO->c≠i1->c≠i2->s.heap.get? c=some o->h2.get? c=some o:=λc o q1 q2 q3 q4 e=>(k2.2 c q1).trans (kp c o q1 q2 q3 q4 e)
  have nz:s.heap.objs.size≠z:=Nat.ne_of_gt (Heap.lt_size st.zip)
  have hT2:IsPair h2 s.heap.objs.size u v:=(k2.2 _ nz).trans new
  have neH:∀ c o,H c=some o->c≠s.heap.objs.size:=λc o q=>aB q hn
  have chz:∀ c∈[z,TO,i1,i2],c∈[z,TI,TO,i1,i2]:=λc hc=>by
   simp only[List.mem_cons,List.not_mem_nil,or_false] at hc ⊢
   rcases hc with h |h |h |h
   ·exact .inl h
   ·exact .inr (.inr (.inl h))
   ·exact .inr (.inr (.inr (.inl h)))
   ·exact .inr (.inr (.inr (.inr h)))
  have nm:∀ {c:Addr},c∉[z,TO,i1,i2]->c≠z/\c≠TO/\c≠i1/\c≠i2:=λ{c} h=>by simpa using h
  have kc:∀ c o,c∉[z,TO,i1,i2]->s.heap.get? c=some o->h2.get? c=some o:=λc o h e=>kq c o (nm h).1 (nm h).2.1 (nm h).2.2.1 (nm h).2.2.2 e
  have out:∀ c o,H c=some o->c∉[z,TO,i1,i2]:=λc o q hc=>by
   have:=(hf c (chz c hc)).1
   rw[this] at q;cases q
  have I1:Inv X pins σ (upd H s.heap.objs.size (.tup [x,y])) { s with heap:=h2,toks:=tk }:=by
   refine I.step (h':=h2) (g':=s.gens) (d':=s.drawn) (t':=tk) (ch:=[z,TO,i1,i2]) (λc hc=>?_) (λc o _ _ hc e _=>kc c o hc e) (λc o _ _ hc e _=>⟨o.slots,kc c o hc e⟩)
    (λc o _ e n'=>by rw[au (Nat.ne_of_lt (Heap.lt_size e))];exact n') (λc o hc e=>⟨o,kc c o hc e⟩)
    (λc xs q=>by rw[au (neH c _ q)];exact q) (λc o xs q=>by rw[au (neH c _ q)];exact q) (λc ps q=>⟨#[],by rw[au (neH c _ q),q];simp⟩)
    (λm hm=>?_) (λc o q=>?_) I.bare
   ·obtain⟨_,g1,_,g3,g4,g5⟩:=hf c (chz c hc)
    exact⟨g3,g1,g4,g5⟩
   ·obtain⟨o,es,ep,ho,r⟩:=hm
    exact⟨o,es,ep,kq _ o (Ne.symm (hf z (by simp)).2.1) (Ne.symm (hf TO (by simp)).2.1) (Ne.symm (hf i1 (by simp)).2.1) (Ne.symm (hf i2 (by simp)).2.1) ho,r⟩
   ·by_cases hb:c=s.heap.objs.size
    ·subst hb
     rw[upd_same] at q
     cases q
     exact⟨by show 2<=sizeLine;decide,[u,v],.cons rx (.cons ry .nil),_,hT2⟩
    ·rw[au hb] at q
     refine (I.hok c o q).stay (λd v' hc' e=>kc d v' ?_ e) (λd e=>by rw[au (neH d _ e)];exact e) λd xs e=>by rw[au (neH d _ e)];exact e
     rcases hc' with rfl |hc'
     ·exact out _ _ q
     ·exact out _ _ hc'
  refine⟨.ref s.heap.objs.size,_,I1,rfl,⟨_,x,y,hn,rfl,rfl,λxs' h'=>by rw[I.seqK_inj h' hx];exact ex,λys' h'=>by rw[I.seqK_inj h' hy];exact ey⟩,?_,λc hc=>?_⟩
  ·have kz:∀ c o,c≠z->h'.get? c=some o->h2.get? c=some o:=λc o q e=>(k2.2 c q).trans e
   obtain⟨n1',n2',n3',n4',n5',n6',n7'⟩:=D.ne1
   exact⟨z2,kq _ _ D.tz D.to n6' n7' st.its,⟨u,v,kz _ _ D.oz o'⟩,f'.1.keep λo e=>kz _ o n1' e,g'.1.keep λo e=>kz _ o n4' e,by omega,by omega⟩
  ·have hlt:c<s.heap.objs.size:=by
    have q:∃ o,s.heap.get? c=some o:=by
     simp only[List.mem_cons,List.not_mem_nil,or_false] at hc
     rcases hc with rfl |rfl |rfl |rfl |rfl
     ·exact⟨_,st.zip⟩
     ·exact⟨_,st.its⟩
     ·exact⟨_,eo⟩
     ·obtain⟨o,ho,_⟩:=st.fst.obj;exact⟨o,ho⟩
     ·obtain⟨o,ho,_⟩:=st.snd.obj;exact⟨o,ho⟩
    obtain⟨o,ho⟩:=q
    exact Heap.lt_size ho
   rw[au (Nat.ne_of_lt hlt)]
   exact (hf c hc).1
 done:=by
  intro X hP hw hK hc i pins s σ H E I hf st hg
  subst hP hw hK
  obtain⟨le,xs,ys,hx,hy,lx,ly⟩:=hg
  obtain⟨us,ru,pu⟩:=I.seqK hx
  obtain⟨vs,rv,pv⟩:=I.seqK hy
  obtain⟨u0,v0,eo⟩:=st.out
  have su:us.toArray.size=n1:=by rw[List.size_toArray,← ru.length,lx]
  have sv:vs.toArray.size=n2:=by rw[List.size_toArray,← rv.length,ly]
  have ne1:a≠i1:=pu.ne st.fst
  have ne2:b≠i2:=pv.ne st.snd
  have hT:s.TypeIs (.ref z) "zip":=⟨_,st.zip,rfl⟩
  have e1:=st.le1
  have e2:=st.le2
  unfold pyNext
  refine wpAny_bind (wpAny_attempt (wpAny_callSpecial?_slot (name:=Str.ofString "__next__") hT F.slot_zip_next (wpAny_call_entry F.slot_zip_next hT F.entry_zip_next ?_ (F.args_zip_next_1 _))))
  refine wO D (Draws.seq (A:=X.A.in1) k1 (I.ok.hd hc) i1 a ne1 us.toArray) (Draws.seq (A:=X.A.in1) k2 (I.ok.hd hc) i2 b ne2 vs.toArray) (j:=i) (k:=i) (by omega) st.zip st.its eo ⟨st.fst,pu⟩ ⟨st.snd,pv⟩ λh' e tk kp he=>?_
  obtain⟨o,ho,hce⟩:=he
  refine wpAny_bind (wpAny_isInstance (T:="StopIteration") (b:=true) ⟨o,ho,hce⟩ isSubtype_stop ?_)
  refine wpAny_pure ⟨rfl,?_⟩
  have chz:∀ c∈[z,TO,i1,i2],c∈[z,TI,TO,i1,i2]:=λc hc=>by
   simp only[List.mem_cons,List.not_mem_nil,or_false] at hc ⊢
   rcases hc with h |h |h |h
   ·exact .inl h
   ·exact .inr (.inr (.inl h))
   ·exact .inr (.inr (.inr (.inl h)))
   ·exact .inr (.inr (.inr (.inr h)))
  have kc:∀ c o,c∉[z,TO,i1,i2]->s.heap.get? c=some o->h'.get? c=some o:=λc o h e=>by
   have h:c≠z/\c≠TO/\c≠i1/\c≠i2:=by simpa using h
   exact kp c o h.1 h.2.1 h.2.2.1 h.2.2.2 e
  have out:∀ c o,H c=some o->c∉[z,TO,i1,i2]:=λc o q hc=>by
   have:=(hf c (chz c hc)).1
   rw[this] at q;cases q
  refine I.step (h':=h') (g':=s.gens) (d':=s.drawn) (t':=tk) (ch:=[z,TO,i1,i2]) (λc hc=>?_) (λc o _ _ hc e _=>kc c o hc e) (λc o _ _ hc e _=>⟨o.slots,kc c o hc e⟩)
   (λ_ _ _ _ n=>n) (λc o hc e=>⟨o,kc c o hc e⟩) (λ_ _ e=>e) (λ_ _ _ e=>e) (λc ps e=>⟨#[],by rw[e];simp⟩) (λm hm=>?_) (λc o q=>?_) I.bare
  ·obtain⟨_,g1,_,g3,g4,g5⟩:=hf c (chz c hc)
   exact⟨g3,g1,g4,g5⟩
  ·obtain⟨o,es,ep,ho,r⟩:=hm
   exact⟨o,es,ep,kp _ o (Ne.symm (hf z (by simp)).2.1) (Ne.symm (hf TO (by simp)).2.1) (Ne.symm (hf i1 (by simp)).2.1) (Ne.symm (hf i2 (by simp)).2.1) ho,r⟩
  ·refine (I.hok c o q).stay (λd v' hc' e=>kc d v' ?_ e) (λd e=>e) λd xs e=>e
   rcases hc' with rfl |hc'
   ·exact out _ _ q
   ·exact out _ _ hc'
 self:=by
  intro A i s Q E st h
  exact wpAny_pyIter_zip st.zip h
def i_:List D->List D->List D
 |d::ds,e::es => .tup [d,e]::i_ ds es
 |_,_=>[]
theorem dF:∀ ds es:List D,(i_ ds es).length=min ds.length es.length
 |[],es=>by simp[i_]
 |d::ds,[]=>by simp[i_]
 |d::ds,e::es=>by simp only[i_,List.length_cons,dF ds es];omega
theorem oB:∀ (ds es:List D) (i:Nat) {d e:D},ds[i]?=some d->es[i]?=some e->(i_ ds es)[i]?=some (.tup [d,e])
 |[],_,_,_,_,h,_=>by simp at h
 |_::_,[],_,_,_,_,h=>by simp at h
 |a::ds,b::es,0,d,e,h,g=>by
  have h:a=d:=by simpa using h
  have g:b=e:=by simpa using g
  subst h g;rfl
 |a::ds,b::es,i+1,d,e,h,g=>by
  rw[i_,List.getElem?_cons_succ]
  exact oB ds es i (by simpa using h) (by simpa using g)
def wP:List D->Option (List D)
 |[x,y]=>(t3 x).bind λxs=>(t3 y).map λys=>i_ xs ys
 |_=>none
section
variable {X:Cx}{W:WT}
theorem vh {H:Hp}{J:List Addr}{d:D}{v:V}{xs:List D}(m:At X.K H J d v)(h:t3 d=some xs):∃ (k:Bool) (a:Addr) (vs:List V),v = .ref a/\Ats X.K H J xs vs/\vs.length<=sizeLine/\∀ J' H',Ex J H J' H'->SqK k X.K H' a vs:=by
 cases d with
 |tup ds=>cases h;obtain⟨a,vs,rfl,tq,m⟩:=At.tup_iff.mp m;exact⟨true,a,vs,rfl,m,tq.len,λJ' H' x=>(tq.ex x).sq⟩
 |lst ds=>cases h;obtain⟨a,vs,rfl,tq,m⟩:=At.lst_iff.mp m;exact⟨false,a,vs,rfl,m,tq.len,λJ' H' x=>(tq.ex x).sq⟩
 |_=>cases h
theorem Walk.zip {k1 k2:Bool}{a b:Addr}{ds es:List D}{xs ys:List V}{J:List Addr}{H:Hp}(m1:Ats X.K H J ds xs)(m2:Ats X.K H J es ys)(l1:xs.length<=sizeLine)(q1:∀ J' H',Ex J H J' H'->SqK k1 X.K H' a xs)(q2:∀ J' H',Ex J H J' H'->SqK k2 X.K H' b ys) :
  Walk X (Itz X.K k1 k2 a b xs.length ys.length) (i_ ds es) J H where
 len:=by rw[dF,m1.length];omega
 go:=λJ1 H1 i x hi=>by
  rw[dF,m1.length,m2.length] at hi
  exact⟨by omega,by omega,xs,ys,q1 _ _ x,q2 _ _ x,rfl,rfl⟩
 yld:=λJ1 H1 i v H' x hJ hi y=>by
  obtain⟨p,u,w,hn,rfl,rfl,hu,hw⟩:=y
  obtain⟨d,e1,a1⟩:=(m1.ex x).get' (hu xs (q1 _ _ x))
  obtain⟨e,e2,a2⟩:=(m2.ex x).get' (hw ys (q2 _ _ x))
  exact⟨.tup [d,e],oB ds es i e1 e2,At.newTup (.cons a1 (.cons a2 .nil)) hn hJ (by show 2<=sizeLine;decide),aJ hn _⟩
 stop:=λJ1 H1 i x hi=>by
  rw[dF,m1.length,m2.length] at hi
  exact⟨by omega,xs,ys,q1 _ _ x,q2 _ _ x,rfl,rfl⟩
theorem nm2 {x a b:Nat}(h1:x≠a)(h2:x≠b):(x:Addr)∉([a,b]:List Addr):=λh=>by
 rcases List.mem_cons.mp h with e |h
 ·exact h1 e
 ·exact h2 (List.mem_singleton.mp h)
theorem Aa (N A B:Nat)(h1:A<N)(h2:B<N):ZA (N+4) (N+2) (N+3) N (N+1) [N,A] [N+1,B]:=
 ⟨List.mem_cons_self ..,List.mem_cons_self ..,nm2 (by omega) (by omega),nm2 (by omega) (by omega),nm2 (by omega) (by omega),nm2 (by omega) (by omega),nm2 (by omega) (by omega),nm2 (by omega) (by omega),
  (by omega:(N+3:Nat)≠N+4),(by omega:(N+2:Nat)≠N+4),(by omega:(N+2:Nat)≠N+3),nm2 (by omega) (by omega),nm2 (by omega) (by omega)⟩
theorem BC {N b:Nat}(h:(b:Addr)∈([N+4,N+2,N+3,N,N+1]:List Addr)):N<=b:=by
 simp only[List.mem_cons,List.not_mem_nil,or_false] at h
 have h:b=N+4∨b=N+2∨b=N+3∨b=N∨b=N+1:=h
 omega
theorem boot_zip:bootBuiltins "zip"=some (.type "zip"):=by decide +kernel
theorem yG {es:List Expr}{k:Nat}{pt p pos:Pos}{a b:Expr}{t:Rho->Sto->Out (List D)}{x:Str}(hx:x="zip")(hm:X.mg x=none)(ha:SA X W [a,b] t)(hg:Gl X x:=by rfl)
  (he:starEach (a::[b]) X.env=(false,eval a X.env)::starEach [b] X.env:=by rfl) (hpl:(backTo pos (starEach [b] X.env)).any (·.1)=false:=by rfl):SI X W (.Tuple es k pt) (.Call (.Name x p) [a,b] [] pos) (gL wP t):=by
 subst hx
 intro pins s σ H R I h
 refine wpAny_Call_Name_kw (js I hg hm boot_zip ?_ (by decide) (by decide))
 refine callWith_type1 (thn (ha pos pins s σ H _ I (iB h)) λus s1 ⟨vs,H1,I1,r1,J,S,es',ds,so,m,hk,z⟩=>?_) he hpl
 unfold wP at hk
 split at hk
 ·rename_i dx dy
  obtain⟨xs,h1,h2⟩:=Option.bind_eq_some_iff.mp hk
  obtain⟨ys,h3,h4⟩:=Option.map_eq_some_iff.mp h2
  subst h4
  obtain⟨v1,r,rfl,a1,n⟩:=Ats.cons_iff.mp m
  obtain⟨v2,r',rfl,a2,n⟩:=Ats.cons_iff.mp n
  cases Ats.nil_iff.mp n
  obtain⟨k1,A1,w1,rfl,m1,lw1,q1⟩:=vh a1 h1
  obtain⟨k2,A2,w2,rfl,m2,lw2,q2⟩:=vh a2 h3
  obtain⟨u1,u2,rfl,ru1,ru2⟩:=vals2 r1
  cases ru1
  cases ru2
  obtain⟨its1,rv1,p1⟩:=I1.seqK (q1 _ _ Ex.refl)
  obtain⟨its2,rv2,p2⟩:=I1.seqK (q2 _ _ Ex.refl)
  have l1:=p1.lt
  have l2:=p2.lt
  refine uO p1 p2 λh' g1 g2 g3 g4 g5 kp=>?_
  have I2:Inv X pins σ H1 { s1 with heap:=h' }:=I1.kept (t':=s1.toks) kp
  refine wpAny_pyIter_zip g1 ?_
  generalize hN:s1.heap.objs.size=N at *
  refine⟨N+4,[N+4,N+2,N+3,N,N+1],_,Itz X.K k1 k2 A1 A2 w1.length w2.length,H1,rfl,I2,u3 k1 k2 A1 A2 (N+4) (N+2) (N+3) N (N+1) w1.length w2.length ?_,⟨g1,g2,⟨_,_,g3⟩,g4,g5,Nat.zero_le _,Nat.zero_le _⟩,λb hb=>?_,z H1 _ (Same.refl _) (Walk.zip m1 m2 lw1 q1 q2)⟩
  ·exact Aa N A1 A2 l1 l2
  ·have hb':N<=b:=BC hb
   exact I1.fpOk (by rw[hN];exact hb') (I1.hok.fresh (by rw[hN];exact hb'))
 ·cases hk
end
section
variable {prog:Program}{w:World}{A:Around}{E:Value->Shared->Prop}{s:Shared}
theorem uz {d:Addr}{o:Obj}{es:Array DictEntry}{ep:Nat}{Q:Value->Shared->Prop}(hd:(d==sysModules)=false)(ho:s.heap.get? d=some o)(hx:o.ExactDict)(hdat:o.data = .dict es ep)(hz:(es.size:Int)<2 ^ 63)
  (h:Q (.int es.size (s.toks+1)) { s with toks:=s.toks+1+1 }):wpAny (model prog w) A (call (.builtin "len") [.ref d]) Q E s:=by
 have hT:s.TypeIs (.ref d) "dict":=⟨o,ho,hx.1⟩
 refine Calls.call_function_entry kind_len plain_len entry_len (args_len1 _) ?_
 unfold Builtin.«len»
 refine wpAny_bind (m:=oneArg "len" _) (wpAny_pure (wpAny_bind (m:=callSpecial? (.ref d) (Str.ofString "__len__")) ?_))
 refine wpAny_callSpecial?_slot (name:=Str.ofString "__len__") hT F.slot_dict_len (wpAny_call_entry F.slot_dict_len hT F.entry_dict_len ?_ (F.args_dict_len_1 _))
 show wpAny _ _ (dictSize d >>= _) _ _ s
 unfold dictSize
 refine wpAny_bind (wpAny_bind (wpAny_dictEntries ho hdat (wpAny_pure ?_)))
 show wpAny _ _ (Builtin.Dict.pendingCount d >>= _) _ _ s
 refine wpAny_bind (wpAny_pendingCount_other hd (wpAny_ret_mkInt ?_))
 have e0:((es.size:Nat):Int)+((0:Nat):Int)=es.size:=by omega
 rw[e0]
 show wpAny _ _ (holding [Value.int es.size s.toks] (asIndex (Value.int es.size s.toks)) >>= _) _ _ _
 refine wpAny_bind (wpAny_holding (wpAny_pure (wpAny_bind (wpAny_letGo ?_))))
 show wpAny _ _ (if ((es.size:Nat):Int)<0 then _ else _) _ _ _
 rw[if_neg (show ¬ ((es.size:Nat):Int)<0 by omega)]
 show wpAny _ _ (if ((es.size:Nat):Int)≥2 ^ 63 then _ else _) _ _ _
 rw[if_neg (show ¬ ((es.size:Nat):Int)≥2 ^ 63 by omega)]
 exact wpAny_bind (wpAny_mkInt (wpAny_pure ⟨_,rfl,h⟩))
end
section
variable {X:Cx}{W:WT}{a b e:Expr}{fa fb fe:Rho->Sto->Out D}{pos p:Pos}{x:Str}
theorem uP:gR X (.builtin "len") (λxs H Q => ∃ a ps,xs=[V.ref a]/\H a=some (.dN ps)/\Q (.int ps.length) H):=by
 intro pins s σ H xs us Q I r h
 obtain⟨a,ps,rfl,ha,q⟩:=h
 obtain⟨u,rfl,ru⟩:=vals1 r
 cases ru
 obtain⟨z,hd,xs,rel,o,es,ep,h1,h2,h3,h4,_⟩:=I.hok a _ ha
 have e1:es.size=ps.length:=by
  have e2:=congrArg List.length h4
  rw[Array.length_toList,List.length_map] at e2
  rw[e2];exact (jP rel).symm
 refine uz hd h1 h2 h3 (by rw[e1];rw[sizeLine_eq] at z;omega) ?_
 rw[e1]
 exact⟨.int ps.length,H,I.tok _,⟨_,rfl⟩,q⟩
def mG (d:D)(S:Sto):Option D:=match d with
 | .loc l=>(match S[l]? with
  |some (.dictN kvs)=>some (.int kvs.length)
  |_=>none)
 |_=>none
def tu (fe:Rho->Sto->Out D):Rho->Sto->Out D:=λρ S=>ae (fe ρ S) λd S1=>aE (mG d S1) S1
theorem w_ (hm:X.mg x=none)(ha:SE X W e fe)(hx:x="len":=by rfl)(hg:Gl X x:=by rfl)(he:starEach [e] X.env=(false,eval e X.env)::starEach [] X.env:=by rfl)(hpl:(backTo pos (starEach [] X.env)).any (·.1)=false:=by rfl) :
  SE X W (.Call (.Name x p) [e] [] pos) (tu fe):=by
 subst hx
 refine PE.imp (iF uP hg hm dz (dJ ha pa_nil he) (by decide) (by decide) he hpl) λσ H Q h=>?_
 refine (tG.bindE h).mono λv H1 ⟨d,h1⟩=>?_
 obtain⟨J,ρ,S,r,S',c,m,eq,z⟩:=h1
 obtain⟨m,_⟩:=m.uncons
 show nE _ _ _
 have eq:aE (mG d S) S=some (r,S'):=eq
 unfold mG at eq
 cases d with
 |loc l =>
  simp only at eq
  split at eq
  ·rename_i kvs es
   cases eq
   obtain⟨a,rfl,hl⟩:=At.loc_iff.mp m
   obtain⟨ps,hp,hkv⟩:=c.sto.at_ l a _ hl es
   refine⟨a,ps,rfl,hp,?_⟩
   rw[← jP hkv]
   exact z J H1 _ Ex.refl c.sto (At.int_iff.mpr rfl)
  ·cases eq
 |_=>cases eq
def t9 (d n:D)(S:Sto):Out D:=match n with
 | .int k=>(match d with
  | .loc l=>(match S[l]? with
   |some (.lst xs)=>if -(2 ^ 63)<=k/\k<2 ^ 63/\xs.length*k.toNat<=sizeLine then okO (.loc S.length) (S++[.lst (List.replicate k.toNat xs).flatten]) else none
   |_=>none)
  |_=>none)
 |_=>none
def wy (fa fb:Rho->Sto->Out D):Rho->Sto->Out D:=λρ S=>ae (fa ρ S) λd S1=>ae (fb ρ S1) λn S2=>t9 d n S2
theorem Ats.flat {K:PySem.W.Frag}{H:Hp}{J:List Addr}{ds:List D}{vs:List V}(m:Ats K H J ds vs):∀ k:Nat,Ats K H J (List.replicate k ds).flatten (List.replicate k vs).flatten
 | 0 => .nil
 |k+1=>by
  rw[List.replicate_succ,List.replicate_succ,List.flatten_cons,List.flatten_cons]
  exact m.append (Ats.flat m k)
theorem w8 (ha:SE X W a fa)(hb:SE X W b fb):SE X W (.BinOp a .Mult b pos) (wy fa fb):=
 (yj zi ha hb).imp λσ H Q h=>(tG.bindE h).mono λv H1 ⟨d,h1⟩=>(tG.bindE h1).mono λv2 H2 ⟨d2,h2⟩=>by
  obtain⟨J,ρ,S,r,S',c,m,e,z⟩:=h2
  obtain⟨mk,m⟩:=m.uncons
  obtain⟨mx,_⟩:=m.uncons
  have e:t9 d d2 S=some (r,S'):=e
  unfold t9 at e
  cases d2 with
  |int k =>
   cases d with
   |loc l =>
    simp only at e
    split at e
    ·rename_i xs es
     split at e
     ·rename_i hc
      cases e
      obtain⟨q,rfl,hq⟩:=At.loc_iff.mp mx
      obtain⟨us,eh,mu⟩:=c.sto.at_ l q _ hq es
      cases At.int_iff.mp mk
      refine⟨q,k,us,rfl,rfl,eh,hc.1,hc.2.1,by rw[← mu.length];exact hc.2.2,λp hp=>?_⟩
      have x:Ex J H2 (J++[p]) (upd H2 p (.lst (List.replicate k.toNat us).flatten)):=⟨⟨[p],rfl⟩,λb u hb nb=>⟨by rw[au (aB hb hp)];exact hb,λz=>by
       rcases List.mem_append.mp z with z |z
       ·exact nb z
       ·exact aB hb hp (by simpa using z)⟩⟩
      have q:=c.sto.push (o:=.lst (List.replicate k.toNat us).flatten) (mo:=.lst (List.replicate k.toNat xs).flatten) hp ⟨_,upd_same,(Ats.flat mu k.toNat).ex x⟩
      refine z (J++[p]) _ _ q.2 q.1 (At.loc_iff.mpr ⟨p,rfl,?_⟩)
      rw[← c.sto.len,List.getElem?_append_right (Nat.le_refl _)]
      simp
     ·cases e
    ·cases e
   |_=>cases e
  |_=>cases e
end
end L2
namespace L2
open PySem PyProof.Rows
section
variable (f g:Rho->Sto->Out D) (ρ:Rho) (S:Sto) (i:Nat) (k:Bool)
@[simp] theorem CB (d:D):aD d ρ S=okO d S:=rfl
@[simp] theorem CD (op:D->D->Option D):aG op f g ρ S=ae (f ρ S) λx S1=>ae (g ρ S1) λy S2=>aE (op x y) S2:=rfl
@[simp] theorem CI (op:D->Option D):cUn op f ρ S=ae (f ρ S) λx S1=>aE (op x) S1:=rfl
@[simp] theorem Ci:b9 f ρ S=ae (f ρ S) λx S1=>aE (blO x) S1:=rfl
@[simp] theorem Bl (a b:D->D->Option D)(h:Rho->Sto->Out D):zN a b f g h ρ S=ae (f ρ S) λx S1=>ae (g ρ S1) λy S2=>ae (aE ((a x y).bind blO) S2) λk S3=>if k=true then ae (h ρ S3) λz S4=>aE (b y z) S4 else okO (.bl false) S3:=rfl
@[simp] theorem B6 (a b:Rho->Sto->Out Bool):A7 a b ρ S=ae (a ρ S) λk S1=>if k=true then b ρ S1 else okO false S1:=rfl
@[simp] theorem Cn (a b:Rho->Sto->Out Bool):xV a b ρ S=ae (a ρ S) λk S1=>if k=true then okO true S1 else b ρ S1:=rfl
@[simp] theorem BT (a:Rho->Sto->Out Bool):AZ a ρ S=ae (a ρ S) λk S1=>okO (!k) S1:=rfl
@[simp] theorem CG:B_ f g ρ S=ae (f ρ S) λx S1=>ae (aE (blO x) S1) λk S2=>if k=true then g ρ S2 else okO (.bl false) S2:=rfl
@[simp] theorem CK:cOr f g ρ S=ae (f ρ S) λx S1=>ae (aE (blO x) S1) λk S2=>if k=true then okO (.bl true) S2 else g ρ S2:=rfl
@[simp] theorem Co:B8 f ρ S=ae (f ρ S) λx S1=>ae (aE (blO x) S1) λk S2=>okO (.bl (!k)) S2:=rfl
@[simp] theorem Cv (t:Rho->Sto->Out Bool):qe t f g ρ S=ae (t ρ S) λk S1=>if k=true then f ρ S1 else g ρ S1:=rfl
@[simp] theorem yr:aC ρ S=okO [] S:=rfl
@[simp] theorem wm (t:Rho->Sto->Out (List D)):ah f t ρ S=ae (f ρ S) λd S1=>ae (t ρ S1) λds S2=>okO (d::ds) S2:=rfl
@[simp] theorem Ch (t:Rho->Sto->Out (List D)):l4 t ρ S=ae (t ρ S) λds S1=>aE (szO ds (.tup ds)) S1:=rfl
@[simp] theorem Cs (t:Rho->Sto->Out (List D)):wC t ρ S=ae (t ρ S) λds S1=>aE (szO ds (.lst ds)) S1:=rfl
@[simp] theorem B4 (h:List D->Option D)(t:Rho->Sto->Out (List D)):bO h t ρ S=ae (t ρ S) λds S1=>aE (h ds) S1:=rfl
@[simp] theorem BU:fW ρ S=okO (.next ρ) S:=rfl
@[simp] theorem wl (a b:Rho->Sto->Out Fl):aN a b ρ S=ae (a ρ S) λfl S1=>match fl with
 | .next ρ'=>b ρ' S1
 |o=>okO o S1:=rfl
@[simp] theorem Ck:bJ f ρ S=ae (f ρ S) λd S1=>okO (.ret d) S1:=rfl
@[simp] theorem CN (t:Rho->Sto->Out Bool)(a b:Rho->Sto->Out Fl):cIf t a b ρ S=ae (t ρ S) λk S1=>if k=true then a ρ S1 else b ρ S1:=rfl
@[simp] theorem AU:bI i f ρ S=ae (f ρ S) λd S1=>okO (.next (ρ.set i (some d))) S1:=rfl
@[simp] theorem Cy (fi:Rho->Sto->Out (List D))(u:D->Rho->Option Rho)(b:Rho->Sto->Out Fl):fX fi u b ρ S=ae (fi ρ S) λds S1=>dL u b ds ρ S1:=rfl
@[simp] theorem Cj (h:List D->Option (List D))(t:Rho->Sto->Out (List D)):gL h t ρ S=ae (t ρ S) λds S1=>aE (h ds) S1:=rfl
@[simp] theorem Be:cY f ρ S=ae (f ρ S) λd S1=>aE (eX d) S1:=rfl
@[simp] theorem BO:iX ρ S=okO true S:=rfl
@[simp] theorem CA (F:List D->Sto->Out D)(t:Rho->Sto->Out (List D)):bi F t ρ S=ae (t ρ S) λds S1=>gO (F ds S1):=rfl
@[simp] theorem Bi (d:D):gO (okO d S)=okO d S:=rfl
@[simp] theorem AW (d:D):gO (some (.ok d,S))=okO d S:=rfl
@[simp] theorem CL:cIx f g ρ S=ae (f ρ S) λx S1=>ae (g ρ S1) λy S2=>aE (ixO x y S2) S2:=rfl
@[simp] theorem CM:cIn k f g ρ S=ae (f ρ S) λx S1=>ae (g ρ S1) λy S2=>aE (inO k x y S2) S2:=rfl
@[simp] theorem BP:p_ f ρ S=ae (f ρ S) λd S1=>aE (iu d S1) S1:=rfl
@[simp] theorem Cp:qd ρ S=okO (.loc S.length) (S++[.dict []]):=rfl
@[simp] theorem Cm (h:Rho->Sto->Out D):rK f g h ρ S=ae (h ρ S) λv S1=>ae (f ρ S1) λx S2=>ae (g ρ S2) λk S3=>oZ x k v ρ S3:=rfl
@[simp] theorem B3 (n:Nat)(ix:List Nat)(fi:Rho->Sto->Out (List D))(u:D->Rho->Option Rho)(gt:Rho->Sto->Out Bool):gQ n ix fi u gt f ρ S=ae (fi ρ S) λds S1 =>
 match dO u gt f ds (d4 n ix ρ) S1 with
 |some (out,S2)=>okO (.lst out) S2
 |none=>none:=rfl
@[simp] theorem CJ (op:D->Option Int->Option Int->Option D)(lo hi:Option (Rho->Sto->Out D)):cSl op f lo hi ρ S=ae (f ρ S) λx S1=>ae (iY lo ρ S1) λl S2=>ae (iY hi ρ S2) λu S3=>aE (op x l u) S3:=rfl
@[simp] theorem Bh:iY none ρ S=okO none S:=rfl
@[simp] theorem Bg:iY (some f) ρ S=ae (f ρ S) λd S1=>aE (rh d) S1:=rfl
@[simp] theorem Cr (kk:D->Bool)(op:D->D->Option D):wA kk op f g ρ S=ae (f ρ S) λx S1=>if kk x=true then ae (g ρ S1) λy S2=>aE (op x y) S2 else none:=rfl
@[simp] theorem Cg (d:D)(h : ρ[i]?=some (some d)):af i ρ S=okO d S:=by unfold af;rw[h]
@[simp] theorem Bd (d:D):aH i d ρ=some (ρ.set i (some d)):=rfl
@[simp] theorem CC (b:Bool):blO (.bl b)=some b:=rfl
end
@[simp] theorem ca {ds:List D}{d:D}(h:ds.length<=1000):szO ds d=some d:=by
 unfold szO;rw[if_pos (Nat.le_trans h (by decide))]
theorem az {n m:Nat}{G:Rho->Sto->Out Fl}{ds:List D}{S S':Sto}{d:D}(hl:ds.length=n)(h:G (ds.map some++List.replicate m none) S=okO (.ret d) S'):bh n m G ds S=okO d S':=by
 unfold bh;rw[if_pos hl,h];rfl
theorem lu {u:D->Rho->Option Rho}{gt:Rho->Sto->Out Bool}{fe:Rho->Sto->Out D}(I:Rho->Prop)(g:D->Bool)(f:D->D)(S:Sto) :
  ∀ (ds:List D) (ρ:Rho),I ρ->(∀ d∈ds,∀ ρ,I ρ->∃ ρ1,u d ρ=some ρ1/\I ρ1/\gt ρ1 S=okO (g d) S/\(g d=true->fe ρ1 S=okO (f d) S))->dO u gt fe ds ρ S=some ((ds.filter g).map f,S)
 |[],ρ,_,_=>rfl
 |d::ds,ρ,hI,h=>by
  obtain⟨ρ1,e1,i1,e2,e3⟩:=h d (List.mem_cons_self ..) ρ hI
  have ih:=lu I g f S ds ρ1 i1 λx hx=>h x (List.mem_cons_of_mem _ hx)
  rw[dO,e1,Option.bind_some,e2]
  simp only[okO,okP,Option.bind_some]
  by_cases hg:g d=true
  ·rw[if_pos hg,e3 hg]
   simp only[okO,okP,Option.bind_some,ih,Option.map_some,List.filter_cons,hg,if_true,List.map_cons]
  ·rw[if_neg hg,ih,List.filter_cons,if_neg hg]
theorem jz {u:D->Rho->Option Rho}{fe:Rho->Sto->Out D}(I:Rho->Prop)(f:D->D)(S:Sto)(ds:List D)(ρ:Rho)(hI:I ρ)
  (h:∀ d∈ds,∀ ρ,I ρ->∃ ρ1,u d ρ=some ρ1/\I ρ1/\fe ρ1 S=okO (f d) S):dO u iX fe ds ρ S=some (ds.map f,S):=by
 have q:=lu (u:=u) (gt:=iX) (fe:=fe) I (λ_=>true) f S ds ρ hI λd hd ρ hr=>by
  obtain⟨ρ1,e1,i1,e2⟩:=h d hd ρ hr
  exact⟨ρ1,e1,i1,rfl,λ_=>e2⟩
 rw[q,List.filter_eq_self.mpr λ_ _=>rfl]
theorem ck {u:D->Rho->Option Rho}{body:Rho->Sto->Out Fl}(I:Nat->Rho->Sto->Prop):∀ (ds:List D) (i:Nat) (ρ:Rho) (S:Sto),I i ρ S ->
  (∀ (j:Nat) d ρ S,ds[j]?=some d->I (i+j) ρ S->∃ ρ1,u d ρ=some ρ1/\∃ ρ' S',body ρ1 S=okO (.next ρ') S'/\I (i+j+1) ρ' S')->∃ ρ' S',dL u body ds ρ S=okO (.next ρ') S'/\I (i+ds.length) ρ' S'
 |[],i,ρ,S,hI,_=>⟨ρ,S,rfl,hI⟩
 |d::ds,i,ρ,S,hI,h=>by
  obtain⟨ρ1,e1,ρ',S',e2,i2⟩:=h 0 d ρ S rfl hI
  obtain⟨ρ2,S2,e3,i3⟩:=ck I ds (i+1) ρ' S' i2 λj x ρ S hx hi=>by
   obtain⟨a,b,c,d,e,f⟩:=h (j+1) x ρ S (by simpa using hx) (by rw[show i+(j+1)=i+1+j by omega];exact hi)
   exact⟨a,b,c,d,e,by rw[show i+1+j+1=i+(j+1)+1 by omega];exact f⟩
  refine⟨ρ2,S2,?_,by rw[List.length_cons,show i+(ds.length+1)=i+1+ds.length by omega];exact i3⟩
  rw[dL,e1]
  simp only[e2,cu]
  exact e3
mutual
def pl:D->Bool
 | .tup ds=>pls ds
 | .lst ds=>pls ds
 | .set _=>false
 | .loc _=>false
 |_=>true
def pls:List D->Bool
 |[]=>true
 |d::ds=>pl d&&pls ds
end
mutual
theorem rY:∀ {d:D},pl d=true->∃ p,toPy d=some p
 | .non,_=>⟨_,rfl⟩
 | .bl _,_=>⟨_,rfl⟩
 | .int _,_=>⟨_,rfl⟩
 | .str _,_=>⟨_,rfl⟩
 | .tup ds,h=>by
  rw[pl] at h
  obtain⟨ps,e⟩:=kE h
  exact⟨.tuple ps,by rw[toPy,e];rfl⟩
 | .lst ds,h=>by
  rw[pl] at h
  obtain⟨ps,e⟩:=kE h
  exact⟨.list ps,by rw[toPy,e];rfl⟩
 | .set _,h=>by simp[pl] at h
 | .loc _,h=>by simp[pl] at h
theorem kE:∀ {ds:List D},pls ds=true->∃ ps,cZ ds=some ps
 |[],_=>⟨[],rfl⟩
 |d::ds,h=>by
  rw[pls,Bool.and_eq_true] at h
  obtain⟨p,e1⟩:=rY h.1
  obtain⟨ps,e2⟩:=kE h.2
  exact⟨p::ps,by rw[cZ,e1,e2];rfl⟩
end
theorem xY {α:Type}[BEq α][LawfulBEq α][DecidableEq α](a b : α):(a==b)=decide (a=b):=by by_cases h:a=b<;>simp[h]
@[simp] theorem s_ (i j:Int):eqD (.int i) (.int j)=some (.bl (decide (i=j))):=by simp[eqD,toPy,PyData.eqv,PyData.depth,xY]
@[simp] theorem Bc (i j:Int):neD (.int i) (.int j)=some (.bl (!decide (i=j))):=by simp[neD,toPy,PyData.eqv,PyData.depth,xY]
@[simp] theorem BL (a b:Bool):eqD (.bl a) (.bl b)=some (.bl (a==b)):=by simp[eqD,toPy,PyData.eqv,PyData.depth]
theorem gS:∀ l:List Str,cZ (l.map .str)=some (l.map .str)
 |[]=>rfl
 |a::l=>by rw[List.map_cons,cZ,gS l];rfl
theorem lp:∀ l m:List Str,PyData.eqvAll (l.map .str) (m.map .str)=decide (l=m)
 |[],[]=>rfl
 |[],b::m=>by simp[PyData.eqvAll]
 |a::l,[]=>by simp[PyData.eqvAll]
 |a::l,b::m=>by
  rw[List.map_cons,List.map_cons,PyData.eqvAll,lp l m]
  simp only[PyData.eqv,List.cons.injEq]
  by_cases h:a=b<;>by_cases h2:l=m<;>simp[h,h2]
theorem lq:∀ l:List Str,PyData.depthAll (l.map .str)=0
 |[]=>rfl
 |a::l=>by rw[List.map_cons,PyData.depthAll,lq l];rfl
theorem in3 (x a b c:Str):inD (.str x) (.tup [.str a,.str b,.str c])=some (.bl (decide (a=x) ||(decide (b=x) ||decide (c=x)))):=by
 simp[inD,v9,toPy,cZ,t3,PyData.eqv,PyData.depth,xY]
section
variable (ρ:Rho) (S:Sto)
@[simp] theorem B2 (F:List D->Sto->Out D)(t:Rho->Sto->Out (List D)):A0 F t ρ S=ae (t ρ S) λds S1=>F ds S1:=rfl
@[simp] theorem Bf (c:Str)(t:Rho->Sto->Out (List D)):zL c t ρ S=ae (t ρ S) λds S1=>ae (aE (szO ds .non) S1) λ_ S2=>some (.error c,S2):=rfl
@[simp] theorem Cw (tab:Str->Option Bool)(f:Rho->Sto->Out D):B9 tab f ρ S=ae (f ρ S) λd S1=>aE (AK tab d S1) S1:=rfl
end
end L2
namespace K13
open PySem L2
def we:Rho->Sto->Out Fl:=
  (bJ (aG eqD (bO cm (ah (af 0) aC)) (aD (.int 3))))
def lJ:List D->Sto->Out D:=bh 1 0 we
def iL:Rho->Sto->Out Fl:=
  (bJ (qe (b9 (bi lJ (ah (af 0) aC))) (cSl slD (af 0) (some (aD (.int 1))) none) (l4 aC)))
def cz:List D->Sto->Out D:=bh 1 0 iL
def li:Rho->Sto->Out Fl:=
  (bJ (qe (b9 (bi lJ (ah (af 0) aC))) (wA dm gD (af 1) (cIx (af 0) (aD (.int 0)))) (bO cm (ah (af 1) aC))))
def h9:List D->Sto->Out D:=bh 2 0 li
def mP:Rho->Sto->Out Fl:=
  (aN (bI 4 (uR (af 0) (af 1)))
  (bJ (qe (b9 (aG eqD (cIx (af 4) (aD (.int 0))) (af 2))) (cIx (af 4) (aG bw (aD (.int 1)) (af 3))) (af 1))))
def jG:List D->Sto->Out D:=bh 4 1 mP
def bB (rec:List D->Sto->Out D):Rho->Sto->Out Fl:=
  (cIf (b9 (cIn true (af 3) (af 2))) (m_ (bi rec (ah (af 0) (ah (af 3) (ah (af 2) aC))))) fW)
def cP (rec:List D->Sto->Out D):Rho->Sto->Out Fl:=
  (aN (fX (cY (bi cz (ah (uR (af 0) (af 1)) aC))) (aH 3) (bB rec))
  (rK (af 2) (af 1) (aD (.bl true))))
def aQ:Nat->List D->Sto->Out D
 | 0=>λ_ _=>none
 |n+1=>bh 3 1 (cP (aQ n))
def fT:Rho->Sto->Out Fl:=
  (aN (bI 2 qd)
  (aN (m_ (bi (aQ 10) (ah (af 0) (ah (af 1) (ah (af 2) aC)))))
  (bJ (jA (af 2)))))
def dB:List D->Sto->Out D:=bh 2 1 fT
def fS:Rho->Sto->Out Fl:=
  (bJ (qe (b9 (bi lJ (ah (af 0) aC))) (l4 (ah (cIx (af 0) (aD (.int 0))) (ah (cIx (af 1) (cIx (af 0) (aD (.int 1)))) (ah (cIx (af 1) (cIx (af 0) (aD (.int 2)))) aC)))) (af 0)))
def dA:List D->Sto->Out D:=bh 2 0 fS
def cW:Rho->Sto->Out Fl:=
  (aN (lF "Rows" "order" (af 0) (af 1))
  (aN (lF "Rows" "gathered" (af 0) tx)
  (aN (lF "Rows" "numbers" (af 0) qa)
  (lF "Rows" "choices" (af 0) qa))))
def aW:List D->Sto->Out D:=bh 2 0 cW
def bX:Rho->Sto->Out Fl:=
  (rK (af 3) (af 5) (af 4))
def bv:Rho->Sto->Out D:=
  (bi dA (ah (xW (fY "Rows" "gathered" (af 2)) (af 0)) (ah (af 1) aC)))
def eO:Rho->Sto->Out Fl:=
  (aN (bI 2 (bi dB (ah (fY "Rows" "gathered" (af 0)) (ah (af 1) aC))))
  (aN (bI 3 qd)
  (aN (fX (gL n6 (ah (af 2) aC)) (kC 2 (aU (aH 4) (aU (aH 5) gN))) bX)
  (bJ (bO lT (ah (gQ 1 [3,0] (cY (af 2)) (aH 0) iX bv) aC))))))
def cH:List D->Sto->Out D:=bh 2 4 eO
def aP:Rho->Sto->Out D:=
  (bi h9 (ah (xW (fY "Rows" "gathered" (af 1)) (af 0)) (ah (fY "Rows" "order" (af 1)) aC)))
def cn:Rho->Sto->Out Fl:=
  (aN (bI 4 (gQ 1 [0] (cY (l4 (ah (af 2) (ah (af 3) aC)))) (aH 0) iX aP))
  (bJ (cIx (fY "Rows" "order" (af 0)) (bO pp (ah (aG bw (af 4) (wC (ah (wA dm gD (fY "Rows" "order" (af 0)) (af 1)) aC))) aC)))))
def bx:List D->Sto->Out D:=bh 4 1 cn
def cG:Rho->Sto->Out Fl:=
  (aN (cIf (b9 (wz true (af 1) (fY "Rows" "numbers" (af 0)))) (aN (m8 (fY "Rows" "numbers" (af 0)) (af 1) (wu (fY "Rows" "gathered" (af 0))))
  (m_ (xX (fY "Rows" "gathered" (af 0)) (af 1)))) fW)
  (bJ (tD (fY "Rows" "numbers" (af 0)) (af 1))))
def bq:List D->Sto->Out D:=bh 2 0 cG
def bH:Rho->Sto->Out Fl:=
  (bJ (qe (b9 (aG eqD (af 2) (af 3))) (af 2) (cC "Rows" "number_of" bq (af 0) (ah (l4 (ah (af 1) (ah (af 2) (ah (af 3) aC)))) aC))))
def bf:List D->Sto->Out D:=bh 4 0 bH
def jV:Rho->Sto->Out Fl:=
  (bJ (bi jG (ah (fY "Rows" "gathered" (af 0)) (ah (af 1) (ah (af 2) (ah (af 3) aC))))))
def br:List D->Sto->Out D:=bh 4 0 jV
def bW (rec:List D->Sto->Out D):Rho->Sto->Out Fl:=
  (aN (bI 4 (cC "Rows" "first_character" bx (af 0) (ah (af 1) (ah (af 2) (ah (af 3) aC)))))
  (aN (cIf (b9 (aG eqD (af 4) (af 1))) (bJ (cC "Rows" "number_of_ask" bf (af 0) (ah (af 1) (ah (cC "Rows" "side" br (af 0) (ah (af 2) (ah (af 1) (ah (aD (.int 0)) aC)))) (ah (cC "Rows" "side" br (af 0) (ah (af 3) (ah (af 1) (ah (aD (.int 1)) aC)))) aC))))) fW)
  (aN (bI 5 (cC "Rows" "choose" rec (af 0) (ah (af 1) (ah (cC "Rows" "side" br (af 0) (ah (af 2) (ah (af 4) (ah (aD (.int 0)) aC)))) (ah (cC "Rows" "side" br (af 0) (ah (af 3) (ah (af 4) (ah (aD (.int 0)) aC)))) aC)))))
  (aN (bI 6 (cC "Rows" "choose" rec (af 0) (ah (af 1) (ah (cC "Rows" "side" br (af 0) (ah (af 2) (ah (af 4) (ah (aD (.int 1)) aC)))) (ah (cC "Rows" "side" br (af 0) (ah (af 3) (ah (af 4) (ah (aD (.int 1)) aC)))) aC)))))
  (bJ (cC "Rows" "number_of_ask" bf (af 0) (ah (af 4) (ah (af 5) (ah (af 6) aC)))))))))
def bY (rec:List D->Sto->Out D):List D->Sto->Out D:=bh 4 3 (bW rec)
def cK (rec:List D->Sto->Out D):Rho->Sto->Out Fl:=
  (aN (bI 4 (l4 (ah (af 1) (ah (af 2) (ah (af 3) aC)))))
  (aN (cIf (b9 (wz true (af 4) (fY "Rows" "choices" (af 0)))) (m8 (fY "Rows" "choices" (af 0)) (af 4) (qe (b9 (aG eqD (af 2) (af 3))) (af 2) (cC "Rows" "choose_anew" (bY rec) (af 0) (ah (af 1) (ah (af 2) (ah (af 3) aC)))))) fW)
  (bJ (tD (fY "Rows" "choices" (af 0)) (af 4)))))
def cM:Nat->List D->Sto->Out D
 | 0=>λ_ _=>none
 |n+1=>bh 4 1 (cK (cM n))
def cV (rec:List D->Sto->Out D):Rho->Sto->Out Fl:=
  (aN (cIf (b9 (aG eqD (cIx (af 1) (aD (.int 0))) (aD (.str "names")))) (bJ (cC "Rows" "number_of" bq (af 0) (ah (af 1) aC))) fW)
  (bJ (cC "Rows" "choose" (cM 9) (af 0) (ah (cIx (af 1) (aD (.int 1))) (ah (bi rec (ah (af 0) (ah (cIx (af 1) (aD (.int 2))) aC))) (ah (bi rec (ah (af 0) (ah (cIx (af 1) (aD (.int 3))) aC))) aC))))))
def bT:Nat->List D->Sto->Out D
 | 0=>λ_ _=>none
 |n+1=>bh 2 0 (cV (bT n))
def lj:Rho->Sto->Out Fl:=
  (aN (bI 2 (m9 "Rows" aW (ah (af 1) aC)))
  (bJ (cC "Rows" "fold_from" cH (af 2) (ah (bi (bT 15) (ah (af 2) (ah (af 0) aC))) aC))))
def eU:List D->Sto->Out D:=bh 2 1 lj
def jU:Rho->Sto->Out Fl:=
  (aN (cIf (b9 (aG ltD (af 1) (bO cm (ah (af 0) aC)))) (bJ (cIx (af 0) (af 1))) fW)
  (bJ (aD (.int 0))))
def gf:List D->Sto->Out D:=bh 2 0 jU
def mS:Rho->Sto->Out Fl:=
  (aN (bI 2 (aG bS (aG b8 (aG bw (aG bw (bi gf (ah (af 0) (ah (af 1) aC))) (aG b8 (aD (.int 7919)) (af 1))) (aD (.int 1))) (aD (.int 48271))) (aD (.int 2147483647))))
  (bJ (aG bS (aG bw (aG bw (aG b8 (af 2) (af 2)) (aG b8 (aD (.int 7)) (af 2))) (af 1)) (aD (.int 2147483629)))))
def aV:List D->Sto->Out D:=bh 2 1 mS
def mT:Rho->Sto->Out Fl:=
  (aN (bI 2 (aG bS (aG b8 (aG bw (aG bw (af 0) (aG b8 (aD (.int 104729)) (af 1))) (aD (.int 17))) (aD (.int 69621))) (aD (.int 2147483647))))
  (bJ (aG bS (aG bw (aG bw (aG b8 (af 2) (af 2)) (aG b8 (aD (.int 3)) (af 2))) (af 1)) (aD (.int 2147483629)))))
def df:List D->Sto->Out D:=bh 2 1 mT
def dS:Rho->Sto->Out Fl:=
  (bI 5 (aG bw (af 5) (cIx (af 1) (aG bS (aG du (af 4) (aG bw (aG b8 (aD (.int 31)) (af 6)) (aD (.int 29)))) (aD (.int 26))))))
def dR:Rho->Sto->Out Fl:=
  (aN (bI 4 (bi df (ah (af 0) (ah (af 3) aC))))
  (aN (bI 5 (cIx (af 1) (aG bS (af 4) (aD (.int 26)))))
  (aN (fX (gL dI (ah (aG b8 (aG bS (aG du (af 4) (aD (.int 26))) (aD (.int 8))) (aG bS (af 0) (aD (.int 2)))) aC)) (aH 6) dS)
  (rK (af 2) (aG bw (af 5) (aG b8 (aD (.str "q")) (bO intD (ah (cIn false (af 5) (aD (D.tup [(D.str "names"),(D.str "ask"),(D.str "end")]))) aC)))) (aD (.bl true))))))
def mO:Rho->Sto->Out Fl:=
  (aN (bI 1 (aD (.str "abcdefghijklmnopqrstuvwxyz")))
  (aN (bI 2 qd)
  (aN (fX (gL dI (ah (aD (.int 6)) aC)) (aH 3) dR)
  (bJ (bO lT (ah (p_ (af 2)) aC))))))
def jF:List D->Sto->Out D:=bh 1 6 mO
def fK:Rho->Sto->Out Bool:=
  (b9 (aG eqD (aG bS (aG du (af 2) (aG bw (aG b8 (aD (.int 3)) (af 0)) (aD (.int 1)))) (aD (.int 4))) (aD (.int 0))))
def fU:Rho->Sto->Out D:=
  (af 1)
def mR:Rho->Sto->Out Fl:=
  (bJ (bO lT (ah (gQ 2 [0] (gL pP (ah (af 1) aC)) (kC 2 (aU (aH 0) (aU (aH 1) gN))) fK fU) aC)))
def jI:List D->Sto->Out D:=bh 2 0 mR
def n4 (rec:List D->Sto->Out D):Rho->Sto->Out Fl:=
  (aN (cIf (xV (b9 (aG eqD (af 3) (aD (.int 0)))) (b9 (aG eqD (aG bS (af 0) (aD (.int 7))) (aD (.int 0))))) (bJ (l4 (ah (aD (.str "names")) (ah (bi jI (ah (aG du (af 0) (aD (.int 7))) (ah (af 1) aC))) aC)))) fW)
  (aN (bI 4 (bi rec (ah (bi df (ah (af 0) (ah (aD (.int 1)) aC))) (ah (af 1) (ah (af 2) (ah (aG oQ (af 3) (aD (.int 1))) aC))))))
  (aN (bI 5 (bi rec (ah (bi df (ah (af 0) (ah (aD (.int 2)) aC))) (ah (af 1) (ah (af 2) (ah (aG oQ (af 3) (aD (.int 1))) aC))))))
  (bJ (l4 (ah (aD (.str "ask")) (ah (aG bS (aG du (af 0) (aD (.int 7))) (af 2)) (ah (af 4) (ah (af 5) aC)))))))))
def i4:Nat->List D->Sto->Out D
 | 0=>λ_ _=>none
 |n+1=>bh 4 2 (n4 (i4 n))
def dU:Rho->Sto->Out Fl:=
  (aN (bI 4 (aG bS (bi df (ah (af 0) (ah (af 3) aC))) (aG bw (bO cm (ah (af 2) aC)) (aD (.int 1)))))
  (bI 2 (aG bw (aG bw (cSl slD (af 2) none (some (af 4))) (wC (ah (af 3) aC))) (cSl slD (af 2) (some (af 4)) none))))
def mQ:Rho->Sto->Out Fl:=
  (aN (bI 2 (wC aC))
  (aN (fX (gL dI (ah (af 1) aC)) (aH 3) dU)
  (bJ (bO lT (ah (af 2) aC)))))
def jH:List D->Sto->Out D:=bh 2 3 mQ
def iO:Rho->Sto->Out D:=
  (aG bw (af 0) (aD (D.tup [(D.int 0)])))
def iN:Rho->Sto->Out D:=
  (aG bw (af 0) (aD (D.tup [(D.int 1)])))
def dc:Rho->Sto->Out Fl:=
  (bI 1 (aG bw (gQ 1 [] (cY (af 1)) (aH 0) iX iO) (gQ 1 [] (cY (af 1)) (aH 0) iX iN)))
def lg:Rho->Sto->Out Fl:=
  (aN (bI 1 (aD (D.lst [(D.tup [])])))
  (aN (fX (gL dI (ah (af 0) aC)) (aH 2) dc)
  (bJ (p_ (af 1)))))
def fz:List D->Sto->Out D:=bh 1 2 lg
def g7 (rec:List D->Sto->Out D):Rho->Sto->Out Fl:=
  (aN (cIf (b9 (aG eqD (cIx (af 0) (aD (.int 0))) (aD (.str "names")))) (bJ (cIx (af 0) (aD (.int 1)))) fW)
  (bJ (bi rec (ah (cIx (af 0) (aG bw (aD (.int 2)) (cIx (af 1) (cIx (af 0) (aD (.int 1)))))) (ah (af 1) aC)))))
def dC:Nat->List D->Sto->Out D
 | 0=>λ_ _=>none
 |n+1=>bh 2 0 (g7 (dC n))
def pO:Rho->Sto->Out Fl:=
  (aN (bI 2 (aG bw (aD (.int 1)) (aG bS (bi aV (ah (af 0) (ah (aD (.int 0)) aC))) (af 1))))
  (aN (bI 3 (bi jF (ah (bi aV (ah (af 0) (ah (aD (.int 1)) aC))) aC)))
  (aN (bI 4 (bi (i4 8) (ah (bi aV (ah (af 0) (ah (aD (.int 2)) aC))) (ah (af 3) (ah (af 2) (ah (aG bw (aD (.int 1)) (aG bS (bi aV (ah (af 0) (ah (aD (.int 3)) aC))) (aD (.int 5)))) aC))))))
  (bJ (l4 (ah (af 2) (ah (af 3) (ah (af 4) (ah (bi jH (ah (bi aV (ah (af 0) (ah (aD (.int 4)) aC))) (ah (af 2) aC))) aC)))))))))
def i0:List D->Sto->Out D:=bh 2 3 pO
def cw:Rho->Sto->Out Fl:=
  (tF (af 5) (af 6) (af 7))
def cv:Rho->Sto->Out Fl:=
  (aN (bI 5 (wy (rL (ah (aD (.int 0)) aC)) (bO cm (ah (af 1) aC))))
  (aN (fX (gL wP (ah (af 1) (ah (aG bw (af 2) (af 4)) aC))) (kC 2 (aU (aH 6) (aU (aH 7) gN))) cw)
  (m_ (xX (af 3) (bi (dC 15) (ah (af 0) (ah (iR (af 5)) aC)))))))
def iM:Rho->Sto->Out Fl:=
  (aN (bI 3 tx)
  (aN (fX (cY (bi fz (ah (aG oQ (bO cm (ah (af 1) aC)) (bO cm (ah (af 2) aC))) aC))) (aH 4) cv)
  (bJ (iR (af 3)))))
def fA:List D->Sto->Out D:=bh 3 5 iM
def gG:Rho->Sto->Out Fl:=
  (aN (bI 8 (bi fA (ah (af 3) (ah (af 4) (ah (af 7) aC)))))
  (aN (bI 9 (aG du (bO cm (ah (af 8) aC)) (aD (.int 2))))
  (cIf (xV (b9 (aG eqD (af 6) (af 1))) (b9 (aG neD (cSl slD (af 8) none (some (af 9))) (cSl slD (af 8) (some (af 9)) none)))) (m8 (af 5) (af 8) (aD (.bl true))) fW)))
def gF:Rho->Sto->Out Fl:=
  (fX (cY (bi fz (ah (af 6) aC))) (aH 7) gG)
def yp:Rho->Sto->Out Fl:=
  (aN (oi (kC 4 (aU (aH 1) (aU (aH 2) (aU (aH 3) (aU (aH 4) gN))))) (bi i0 (ah (af 0) (ah (aD (.int 6)) aC))))
  (aN (bI 5 qa)
  (aN (fX (gL dI (ah (aG bw (af 1) (aD (.int 1))) aC)) (aH 6) gF)
  (bJ (aG eqD (bO cm (ah (bi eU (ah (af 3) (ah (af 4) aC))) aC)) (tu (af 5)))))))
def wL:List D->Sto->Out D:=bh 1 9 yp
def top (i:Nat):Stmt:=PySem.Challenge.pw_keyfold_k13_whole_fewest_rows.main.body.getD i (.Pass ⟨0,0,0,0⟩)
def xO:Stmt->List Stmt
 | .ClassDef _ _ _ b _ _ _ _ _ _ _=>b
 |_=>[]
def pq (i j:Nat):Stmt:=(xO (top i)).getD j (.Pass ⟨0,0,0,0⟩)
abbrev qO:Stmt:=top 1
noncomputable abbrev uY:Scope:={ kind:=.function,names:=[("row",.local),("len",.globalImplicit)],isGenerator:=false,isCoroutine:=false,more:=[] }
abbrev eZ:Stmt:=top 2
noncomputable abbrev ig:Scope:={ kind:=.function,names:=[("row",.local),("asks",.globalImplicit)],isGenerator:=false,isCoroutine:=false,more:=[] }
abbrev gX:Stmt:=top 3
noncomputable abbrev kr:Scope:={ kind:=.function,names:=[ ("row",.local),("order",.local),("asks",.globalImplicit),("len",.globalImplicit)],isGenerator:=false,isCoroutine:=false,more:=[] }
abbrev jg:Stmt:=top 4
noncomputable abbrev l6:Scope:={ kind:=.function,names:=[ ("rows",.local),("number",.local),("character",.local),("value",.local),("row",.local)],isGenerator:=false,isCoroutine:=false,more:=[] }
abbrev fL:Stmt:=top 6
noncomputable abbrev jJ:Scope:={ kind:=.function,names:=[ ("rows",.local),("number",.local),("left",.local),("below",.local),("rows_below",.globalImplicit),("leave_row",.globalImplicit)],isGenerator:=false,isCoroutine:=false,more:=[] }
abbrev dj:Stmt:=top 5
noncomputable abbrev fI:Scope:={ kind:=.function,names:=[ ("rows",.local),("top",.local),("left",.local),("leave_row",.globalImplicit),("list",.globalImplicit)],isGenerator:=false,isCoroutine:=false,more:=[] }
abbrev di:Stmt:=top 7
noncomputable abbrev fH:Scope:={ kind:=.function,names:=[ ("row",.local),("numbers",.local),("asks",.globalImplicit)],isGenerator:=false,isCoroutine:=false,more:=[] }
abbrev cT:Stmt:=pq 8 0
noncomputable abbrev fC:Scope:={ kind:=.function,names:=[("self",.local),("order",.local)],isGenerator:=false,isCoroutine:=false,more:=[] }
abbrev cF:Stmt:=pq 8 7
noncomputable abbrev z_Rows_fold_from:Scope:={ kind:=.function,names:=[ ("self",.cell),("top",.local),("left",.local),("numbers",.cell),("place",.local),("number",.local),("rows_as_left",.globalImplicit),("enumerate",.globalImplicit),("tuple",.globalImplicit)],isGenerator:=false,isCoroutine:=false,more:=[ ("fast",(.str "self")),("fast",(.str "top")),("fast",(.str "left")),("fast",(.str "numbers")),("fast",(.str "place")),("fast",(.str "number"))] }
abbrev bt:Stmt:=pq 8 4
noncomputable abbrev z_Rows_first_character:Scope:={ kind:=.function,names:=[ ("self",.cell),("character",.local),("no",.local),("yes",.local),("places",.local),("min",.globalImplicit)],isGenerator:=false,isCoroutine:=false,more:=[ ("fast",(.str "self")),("fast",(.str "character")),("fast",(.str "no")),("fast",(.str "yes")),("fast",(.str "number")),("fast",(.str "places"))] }
abbrev cE:Stmt:=pq 8 1
noncomputable abbrev d9:Scope:={ kind:=.function,names:=[ ("self",.local),("row",.local),("len",.globalImplicit)],isGenerator:=false,isCoroutine:=false,more:=[] }
abbrev bF:Stmt:=pq 8 2
noncomputable abbrev cN:Scope:={ kind:=.function,names:=[ ("self",.local),("character",.local),("no",.local),("yes",.local)],isGenerator:=false,isCoroutine:=false,more:=[] }
abbrev fN:Stmt:=pq 8 3
noncomputable abbrev jL:Scope:={ kind:=.function,names:=[ ("self",.local),("number",.local),("character",.local),("value",.local),("side_of",.globalImplicit)],isGenerator:=false,isCoroutine:=false,more:=[] }
abbrev bV:Stmt:=pq 8 6
noncomputable abbrev dg:Scope:={ kind:=.function,names:=[ ("self",.local),("character",.local),("no",.local),("yes",.local),("first",.local),("without",.local),("having",.local)],isGenerator:=false,isCoroutine:=false,more:=[] }
abbrev dX:Stmt:=pq 8 5
noncomputable abbrev gM:Scope:={ kind:=.function,names:=[ ("self",.local),("character",.local),("no",.local),("yes",.local),("choice",.local)],isGenerator:=false,isCoroutine:=false,more:=[] }
abbrev cS:Stmt:=top 11
noncomputable abbrev fB:Scope:={ kind:=.function,names:=[ ("rows",.local),("key",.local),("number_of_key",.globalImplicit)],isGenerator:=false,isCoroutine:=false,more:=[] }
abbrev kS:Stmt:=top 10
noncomputable abbrev oE:Scope:={ kind:=.function,names:=[ ("key",.local),("order",.local),("rows",.local),("Rows",.globalImplicit),("number_of_key",.globalImplicit)],isGenerator:=false,isCoroutine:=false,more:=[] }
abbrev fM:Stmt:=top 13
noncomputable abbrev jK:Scope:={ kind:=.function,names:=[ ("_law_script",.local),("_law_k",.local),("len",.globalImplicit)],isGenerator:=false,isCoroutine:=false,more:=[] }
abbrev jj:Stmt:=top 14
noncomputable abbrev l8:Scope:={ kind:=.function,names:=[ ("_law_script",.local),("_law_k",.local),("_law_drawn_here",.local),("_law_cell_at",.globalImplicit)],isGenerator:=false,isCoroutine:=false,more:=[] }
abbrev jk:Stmt:=top 15
noncomputable abbrev l9:Scope:={ kind:=.function,names:=[ ("_law_number",.local),("_law_k",.local),("_law_drawn_here",.local)],isGenerator:=false,isCoroutine:=false,more:=[] }
abbrev jf:Stmt:=top 16
noncomputable abbrev l5:Scope:={ kind:=.function,names:=[ ("_law_number",.local),("_law_letters",.local),("_law_found",.local),("_law_k",.local),("_law_drawn_here",.local),("_law_word",.local),("_law_at",.local),("range",.globalImplicit),("_law_drawn",.globalImplicit),("int",.globalImplicit),("tuple",.globalImplicit),("sorted",.globalImplicit)],isGenerator:=false,isCoroutine:=false,more:=[] }
abbrev ji:Stmt:=top 17
noncomputable abbrev z_names_L:Scope:={ kind:=.function,names:=[ ("_law_number",.cell),("_law_words_here",.local),("tuple",.globalImplicit),("enumerate",.globalImplicit)],isGenerator:=false,isCoroutine:=false,more:=[ ("fast",(.str "_law_number")),("fast",(.str "_law_words_here")),("fast",(.str "_law_k")),("fast",(.str "_law_word"))] }
abbrev nO:Stmt:=top 18
noncomputable abbrev rV:Scope:={ kind:=.function,names:=[ ("_law_number",.local),("_law_words_here",.local),("_law_many",.local),("_law_deep",.local),("_law_no",.local),("_law_yes",.local),("_law_names",.globalImplicit),("_law_key",.globalImplicit),("_law_drawn",.globalImplicit)],isGenerator:=false,isCoroutine:=false,more:=[] }
abbrev jh:Stmt:=top 19
noncomputable abbrev l7:Scope:={ kind:=.function,names:=[ ("_law_number",.local),("_law_many",.local),("_law_found",.local),("_law_k",.local),("_law_at",.local),("range",.globalImplicit),("_law_drawn",.globalImplicit),("len",.globalImplicit),("tuple",.globalImplicit)],isGenerator:=false,isCoroutine:=false,more:=[] }
abbrev gW:Stmt:=top 21
noncomputable abbrev z_things_L:Scope:={ kind:=.function,names:=[ ("_law_many",.local),("_law_found",.local),("_law_k",.local),("range",.globalImplicit),("sorted",.globalImplicit)],isGenerator:=false,isCoroutine:=false,more:=[ ("fast",(.str "_law_many")),("fast",(.str "_law_found")),("fast",(.str "_law_k")),("fast",(.str "_law_thing"))] }
abbrev gY:Stmt:=top 22
noncomputable abbrev kt:Scope:={ kind:=.function,names:=[ ("_law_key_here",.local),("_law_thing",.local),("_law_answer",.globalImplicit)],isGenerator:=false,isCoroutine:=false,more:=[] }
abbrev kR:Stmt:=top 23
noncomputable abbrev oC:Scope:={ kind:=.function,names:=[ ("_law_script",.local),("_law_most",.local),("_law_many",.local),("_law_words_here",.local),("_law_key_here",.local),("_law_mixed",.globalImplicit),("_law_words",.globalImplicit),("_law_key",.globalImplicit),("_law_order",.globalImplicit)],isGenerator:=false,isCoroutine:=false,more:=[] }
abbrev e_:Stmt:=top 24
noncomputable abbrev ii:Scope:={ kind:=.function,names:=[ ("_law_key_here",.local),("_law_order_here",.local),("_law_head",.local),("_law_found",.local),("_law_tail",.local),("_law_thing",.local),("_law_character",.local),("_law_value",.local),("_law_things",.globalImplicit),("len",.globalImplicit),("zip",.globalImplicit),("_law_answer",.globalImplicit),("tuple",.globalImplicit)],isGenerator:=false,isCoroutine:=false,more:=[] }
abbrev sw:Stmt:=top 25
noncomputable abbrev yc:Scope:={ kind:=.function,names:=[ ("_law_script",.local),("_law_many",.local),("_law_words_here",.local),("_law_key_here",.local),("_law_order_here",.local),("_law_unlike",.local),("_law_size",.local),("_law_head",.local),("_law_here",.local),("_law_half",.local),("_law_made",.globalImplicit),("range",.globalImplicit),("_law_things",.globalImplicit),("_law_going_on",.globalImplicit),("len",.globalImplicit),("folded",.globalImplicit)],isGenerator:=false,isCoroutine:=false,more:=[] }
structure Top (K:PySem.W.Frag) (mg:Str->Option Value):Prop where
 d_asks:bC K mg "asks" qO ["row"]
 d_rows_below:bC K mg "rows_below" eZ ["row"]
 d_place_of:bC K mg "place_of" gX ["row","order"]
 d_side_of:bC K mg "side_of" jg ["rows","number","character","value"]
 d_leave_row:bC K mg "leave_row" fL ["rows","number","left"]
 d_rows_as_left:bC K mg "rows_as_left" dj ["rows","top"]
 d_with_numbers:bC K mg "with_numbers" di ["row","numbers"]
 d_Rows___init__:zZ K mg "Rows" "Rows.__init__" cT ["self","order"]
 d_Rows_fold_from:MethAt K "Rows" "fold_from" "Rows.fold_from" cF ["self","top"]
 d_Rows_first_character:MethAt K "Rows" "first_character" "Rows.first_character" bt ["self","character","no","yes"]
 d_Rows_number_of:MethAt K "Rows" "number_of" "Rows.number_of" cE ["self","row"]
 d_Rows_number_of_ask:MethAt K "Rows" "number_of_ask" "Rows.number_of_ask" bF ["self","character","no","yes"]
 d_Rows_side:MethAt K "Rows" "side" "Rows.side" fN ["self","number","character","value"]
 d_Rows_choose_anew:MethAt K "Rows" "choose_anew" "Rows.choose_anew" bV ["self","character","no","yes"]
 d_Rows_choose:MethAt K "Rows" "choose" "Rows.choose" dX ["self","character","no","yes"]
 d_number_of_key:bC K mg "number_of_key" cS ["rows","key"]
 d_folded:bC K mg "folded" kS ["key","order"]
 d_cell_at_L:bC K mg "_law_cell_at" fM ["_law_script","_law_k"]
 d_mixed_L:bC K mg "_law_mixed" jj ["_law_script","_law_k"]
 d_drawn_L:bC K mg "_law_drawn" jk ["_law_number","_law_k"]
 d_words_L:bC K mg "_law_words" jf ["_law_number"]
 d_names_L:bC K mg "_law_names" ji ["_law_number","_law_words_here"]
 d_key_L:bC K mg "_law_key" nO ["_law_number","_law_words_here","_law_many","_law_deep"]
 d_order_L:bC K mg "_law_order" jh ["_law_number","_law_many"]
 d_things_L:bC K mg "_law_things" gW ["_law_many"]
 d_answer_L:bC K mg "_law_answer" gY ["_law_key_here","_law_thing"]
 d_made_L:bC K mg "_law_made" kR ["_law_script","_law_most"]
 d_going_on_L:bC K mg "_law_going_on" e_ ["_law_key_here","_law_order_here","_law_head"]
 d_law:bC K mg "law" sw ["_law_script"]
 b_len:mg "len"=none
 b_list:mg "list"=none
 b_enumerate:mg "enumerate"=none
 b_tuple:mg "tuple"=none
 b_min:mg "min"=none
 b_range:mg "range"=none
 b_int:mg "int"=none
 b_sorted:mg "sorted"=none
 b_zip:mg "zip"=none
 f_Rows_order:lI K "Rows" "order"
 f_Rows_gathered:lI K "Rows" "gathered"
 f_Rows_numbers:lI K "Rows" "numbers"
 f_Rows_choices:lI K "Rows" "choices"
section
variable {P:Program}{w:World}{K:PySem.W.Frag}{mg:Str->Option Value}{base:Heap}
theorem wM:al qO=uY:=rfl
theorem sc_asks:FnScope ["row"] ["row"] uY:=⟨rfl,rfl,rfl,by decide +kernel,rfl,by decide +kernel,by decide +kernel⟩
theorem lD (T:Top K mg):Cal P w K mg base 1 "asks" ["row"] lJ:=
 bp T.d_asks wM sc_asks (λf cdv A outer s H E hr=>by
 have hu:=a_ hr;have hu1:=aY hr;have hu2:=aZ hr;have hgd:=hr.gd;have nd:=sc_asks.nd
 exact (aq (aK (qM (fD hu) (bE ft T.b_len dz (ab (aa (i:=0)) ai)) ao))))
theorem lO:al eZ=ig:=rfl
theorem sc_rows_below:FnScope ["row"] ["row"] ig:=⟨rfl,rfl,rfl,by decide +kernel,rfl,by decide +kernel,by decide +kernel⟩
theorem lA (T:Top K mg):Cal P w K mg base 2 "rows_below" ["row"] cz:=
 bp T.d_rows_below lO sc_rows_below (λf cdv A outer s H E hr=>by
 have hu:=a_ hr;have hu1:=aY hr;have hu2:=aZ hr;have hgd:=hr.gd;have nd:=sc_rows_below.nd
 exact (aq (aK (je (qB (aI (lD T) (hr.mono (by omega)) (ab (aa (i:=0)) ai))) (oU sld (aa (i:=0)) ao trivial) (eY ai)))))
theorem ow:al gX=kr:=rfl
theorem sc_place_of:FnScope ["row","order"] ["row","order"] kr:=⟨rfl,rfl,rfl,by decide +kernel,rfl,by decide +kernel,by decide +kernel⟩
theorem oh (T:Top K mg):Cal P w K mg base 2 "place_of" ["row","order"] h9:=
 bp T.d_place_of ow sc_place_of (λf cdv A outer s H E hr=>by
 have hu:=a_ hr;have hu1:=aY hr;have hu2:=aZ hr;have hgd:=hr.gd;have nd:=sc_place_of.nd
 exact (aq (aK (je (qB (aI (lD T) (hr.mono (by omega)) (ab (aa (i:=0)) ai))) (mE rfl (aa (i:=1)) (bg hu1 (aa (i:=0)) ao)) (bE ft T.b_len dz (ab (aa (i:=1)) ai))))))
theorem qp:al jg=l6:=rfl
theorem sc_side_of:FnScope ["rows","number","character","value","row"] ["rows","number","character","value"] l6:=⟨rfl,rfl,rfl,by decide +kernel,rfl,by decide +kernel,by decide +kernel⟩
theorem p7 (T:Top K mg):Cal P w K mg base 1 "side_of" ["rows","number","character","value"] jG:=
 bp T.d_side_of qp sc_side_of (λf cdv A outer s H E hr=>by
 have hu:=a_ hr;have hu1:=aY hr;have hu2:=aZ hr;have hgd:=hr.gd;have nd:=sc_side_of.nd
 exact (aj (aL (i:=4) nd (sj (aa (i:=0)) (aa (i:=1))))
  (aq (aK (je (cD (fD hu) (bg hu1 (aa (i:=4)) ao) (aa (i:=2))) (bg hu1 (aa (i:=4)) (ar aR ao (aa (i:=3)))) (aa (i:=1)))))))
theorem nr:al fL=jJ:=rfl
theorem sc_leave_row:FnScope ["rows","number","left","below"] ["rows","number","left"] jJ:=⟨rfl,rfl,rfl,by decide +kernel,rfl,by decide +kernel,by decide +kernel⟩
theorem gP (T:Top K mg):∀ n:Nat,Cal P w K mg base (n+2) "leave_row" ["rows","number","left"] (aQ n)
 | 0=>iS T.d_leave_row
 |n+1=>by
  have Crec:=gP T n
  exact bp T.d_leave_row nr sc_leave_row (λf cdv A outer s H E hr=>by
   have hu:=a_ hr;have hu1:=aY hr;have hu2:=aZ hr;have hgd:=hr.gd;have nd:=sc_leave_row.nd
   exact (aj (dW PassesOwn.never rfl (gT (aI (lA T) (hr.mono (by omega)) (ab (sj (aa (i:=0)) (aa (i:=1))) ai))) (aO (i:=3) nd) (aq (iq (tW hu hu1 hu2 (aa (i:=3)) (aa (i:=2))) (aq (j4 (aI Crec (hr.mono (by omega)) (ab (aa (i:=0)) (ab (aa (i:=3)) (ab (aa (i:=2)) ai)))))) c_)))
    (aq (qH hu1 (aa (i:=2)) (aa (i:=1)) sk))))
theorem jY:al dj=fI:=rfl
theorem sc_rows_as_left:FnScope ["rows","top","left"] ["rows","top"] fI:=⟨rfl,rfl,rfl,by decide +kernel,rfl,by decide +kernel,by decide +kernel⟩
theorem jC (T:Top K mg):Cal P w K mg base 13 "rows_as_left" ["rows","top"] dB:=
 bp T.d_rows_as_left jY sc_rows_as_left (λf cdv A outer s H E hr=>by
 have hu:=a_ hr;have hu1:=aY hr;have hu2:=aZ hr;have hgd:=hr.gd;have nd:=sc_rows_as_left.nd
 exact (aj (aL (i:=2) nd nM)
  (aj (j4 (aI (gP T 10) (hr.mono (by omega)) (ab (aa (i:=0)) (ab (aa (i:=1)) (ab (aa (i:=2)) ai)))))
  (aq (aK (oV hu1 T.b_list (aa (i:=2))))))))
theorem jX:al di=fH:=rfl
theorem sc_with_numbers:FnScope ["row","numbers"] ["row","numbers"] fH:=⟨rfl,rfl,rfl,by decide +kernel,rfl,by decide +kernel,by decide +kernel⟩
theorem jB (T:Top K mg):Cal P w K mg base 2 "with_numbers" ["row","numbers"] dA:=
 bp T.d_with_numbers jX sc_with_numbers (λf cdv A outer s H E hr=>by
 have hu:=a_ hr;have hu1:=aY hr;have hu2:=aZ hr;have hgd:=hr.gd;have nd:=sc_with_numbers.nd
 exact (aq (aK (je (qB (aI (lD T) (hr.mono (by omega)) (ab (aa (i:=0)) ai))) (eY (ab (bg hu1 (aa (i:=0)) ao) (ab (bg hu1 (aa (i:=1)) (bg hu1 (aa (i:=0)) ao)) (ab (bg hu1 (aa (i:=1)) (bg hu1 (aa (i:=0)) ao)) ai)))) (aa (i:=0))))))
theorem i6:al cT=fC:=rfl
theorem sc_Rows___init__:FnScope ["self","order"] ["self","order"] fC:=⟨rfl,rfl,rfl,by decide +kernel,rfl,by decide +kernel,by decide +kernel⟩
theorem iV (T:Top K mg):z7 P w K mg base 1 "Rows" ["self","order"] aW:=
 xT T.d_Rows___init__ i6 sc_Rows___init__ (λf cdv A outer s H E hr=>by
 have hu:=a_ hr;have hu1:=aY hr;have hu2:=aZ hr;have hgd:=hr.gd;have nd:=sc_Rows___init__.nd
 exact (aj (nH T.f_Rows_order (aa (i:=0)) (aa (i:=1)))
  (aj (nH T.f_Rows_gathered (aa (i:=0)) sh)
  (aj (nH T.f_Rows_numbers (aa (i:=0)) nL)
  (aq (nH T.f_Rows_choices (aa (i:=0)) nL))))))
theorem ic:al cF=z_Rows_fold_from:=rfl
theorem sc_Rows_fold_from:FnScope ["self","top","left","numbers","place","number"] ["self","top"] z_Rows_fold_from:=⟨rfl,rfl,rfl,by decide +kernel,rfl,by decide +kernel,by decide +kernel⟩
theorem hZ (T:Top K mg):lN P w K mg base 14 "Rows" "fold_from" ["self","top"] cH:=
 fw T.d_Rows_fold_from ic sc_Rows_fold_from (λf cdv A outer s H E hr=>by
 have hu:=a_ hr;have hu1:=aY hr;have hu2:=aZ hr;have hgd:=hr.gd;have nd:=sc_Rows_fold_from.nd
 exact (aj (aL (i:=2) nd (aI (jC T) (hr.mono (by omega)) (ab (bU T.f_Rows_gathered (aa (i:=0))) (ab (aa (i:=1)) ai))))
  (aj (aL (i:=3) nd nM)
  (aj (dW PassesOwn.never rfl (vd rfl T.b_enumerate (ab (aa (i:=2)) ai)) (nK rfl (bR (aO (i:=4) nd) (bR (aO (i:=5) nd) j6))) (aq (qH hu1 (aa (i:=3)) (aa (i:=5)) (aa (i:=4)))))
  (aq (aK (eB of T.b_tuple fZ (ab (j7 (ts:=["number"]) (ix:=[3,0]) rfl ⟨rfl,by decide +kernel,by decide +kernel,by exact (show ∀ y∈(_:List (Str×NameKind)),y.2=NameKind.free->List.lookup y.1 z_Rows_fold_from.names=some NameKind.cell∨List.lookup y.1 z_Rows_fold_from.names=some NameKind.free from by decide +kernel)⟩ (by exact (show ∀ t∈([3,0]:List Nat),List.lookup ((["self","top","left","numbers","place","number"]:List Str).getD t Str.empty) _=some NameKind.free from by decide +kernel)) (gT (aa (i:=2))) (λ_ _ _ _ _=>⟨(aO (i:=0) (show (["number","numbers","self"]:List Str).Nodup from by decide +kernel)),j3,(aI (jB T) (hr.mono (by omega)) (ab (qL (bU T.f_Rows_gathered (aa (i:=2))) (aa (i:=0))) (ab (aa (i:=1)) ai)))⟩)) ai))))))))
theorem d8:al bt=z_Rows_first_character:=rfl
theorem sc_Rows_first_character:FnScope ["self","character","no","yes","places"] ["self","character","no","yes"] z_Rows_first_character:=⟨rfl,rfl,rfl,by decide +kernel,rfl,by decide +kernel,by decide +kernel⟩
theorem d6 (T:Top K mg):lN P w K mg base 3 "Rows" "first_character" ["self","character","no","yes"] bx:=
 fw T.d_Rows_first_character d8 sc_Rows_first_character (λf cdv A outer s H E hr=>by
 have hu:=a_ hr;have hu1:=aY hr;have hu2:=aZ hr;have hgd:=hr.gd;have nd:=sc_Rows_first_character.nd
 exact (aj (qG (ts:=["number"]) (ix:=[0]) (i:=4) nd rfl ⟨rfl,by decide +kernel,by decide +kernel,by exact (show ∀ y∈(_:List (Str×NameKind)),y.2=NameKind.free->List.lookup y.1 z_Rows_first_character.names=some NameKind.cell∨List.lookup y.1 z_Rows_first_character.names=some NameKind.free from by decide +kernel)⟩ (by exact (show ∀ t∈([0]:List Nat),List.lookup ((["self","character","no","yes","places"]:List Str).getD t Str.empty) _=some NameKind.free from by decide +kernel)) (gT (eY (ab (aa (i:=2)) (ab (aa (i:=3)) ai)))) (λ_ _ _ _ _=>⟨(aO (i:=0) (show (["number","self"]:List Str).Nodup from by decide +kernel)),j3,(aI (oh T) (hr.mono (by omega)) (ab (qL (bU T.f_Rows_gathered (aa (i:=1))) (aa (i:=0))) (ab (bU T.f_Rows_order (aa (i:=1))) ai)))⟩))
  (aq (aK (bg hu1 (bU T.f_Rows_order (aa (i:=0))) (bE (xS rfl) T.b_min zT (ab (ar aR (aa (i:=4)) (nN (ab (mE rfl (bU T.f_Rows_order (aa (i:=0))) (aa (i:=1))) ai))) ai)))))))
theorem h_:al cE=d9:=rfl
theorem sc_Rows_number_of:FnScope ["self","row"] ["self","row"] d9:=⟨rfl,rfl,rfl,by decide +kernel,rfl,by decide +kernel,by decide +kernel⟩
theorem dw (T:Top K mg):lN P w K mg base 1 "Rows" "number_of" ["self","row"] bq:=
 fw T.d_Rows_number_of h_ sc_Rows_number_of (λf cdv A outer s H E hr=>by
 have hu:=a_ hr;have hu1:=aY hr;have hu2:=aZ hr;have hgd:=hr.gd;have nd:=sc_Rows_number_of.nd
 exact (aj (iq (md hu (aa (i:=1)) (bU T.f_Rows_numbers (aa (i:=0)))) (aj (nG hu (bU T.f_Rows_numbers (aa (i:=0))) (aa (i:=1)) (xa T.b_len (bU T.f_Rows_gathered (aa (i:=0)))))
  (aq (j4 (vj rfl (bU T.f_Rows_gathered (aa (i:=0))) (aa (i:=1)))))) c_)
  (aq (aK (sf hu (bU T.f_Rows_numbers (aa (i:=0))) (aa (i:=1)))))))
theorem fG:al bF=cN:=rfl
theorem sc_Rows_number_of_ask:FnScope ["self","character","no","yes"] ["self","character","no","yes"] cN:=⟨rfl,rfl,rfl,by decide +kernel,rfl,by decide +kernel,by decide +kernel⟩
theorem cr (T:Top K mg):lN P w K mg base 2 "Rows" "number_of_ask" ["self","character","no","yes"] bf:=
 fw T.d_Rows_number_of_ask fG sc_Rows_number_of_ask (λf cdv A outer s H E hr=>by
 have hu:=a_ hr;have hu1:=aY hr;have hu2:=aZ hr;have hgd:=hr.gd;have nd:=sc_Rows_number_of_ask.nd
 exact (aq (aK (je (cD (fD hu) (aa (i:=2)) (aa (i:=3))) (aa (i:=2)) (bj (dw T) (hr.mono (by omega)) (aa (i:=0)) (ab (eY (ab (aa (i:=1)) (ab (aa (i:=2)) (ab (aa (i:=3)) ai)))) ai))))))
theorem nv:al fN=jL:=rfl
theorem sc_Rows_side:FnScope ["self","number","character","value"] ["self","number","character","value"] jL:=⟨rfl,rfl,rfl,by decide +kernel,rfl,by decide +kernel,by decide +kernel⟩
theorem bA (T:Top K mg):lN P w K mg base 2 "Rows" "side" ["self","number","character","value"] br:=
 fw T.d_Rows_side nv sc_Rows_side (λf cdv A outer s H E hr=>by
 have hu:=a_ hr;have hu1:=aY hr;have hu2:=aZ hr;have hgd:=hr.gd;have nd:=sc_Rows_side.nd
 exact (aq (aK (aI (p7 T) (hr.mono (by omega)) (ab (bU T.f_Rows_gathered (aa (i:=0))) (ab (aa (i:=1)) (ab (aa (i:=2)) (ab (aa (i:=3)) ai))))))))
theorem gH:al bV=dg:=rfl
theorem sc_Rows_choose_anew:FnScope ["self","character","no","yes","first","without","having"] ["self","character","no","yes"] dg:=⟨rfl,rfl,rfl,by decide +kernel,rfl,by decide +kernel,by decide +kernel⟩
theorem fV (T:Top K mg){n:Nat}{rec:List D->Sto->Out D}(Crec:lN P w K mg base (n*2+3) "Rows" "choose" ["self","character","no","yes"] rec):lN P w K mg base (n*2+4) "Rows" "choose_anew" ["self","character","no","yes"] (bY rec):=by
 rw[show n*2+4=(n*2+3)+1 from by omega]
 exact fw T.d_Rows_choose_anew gH sc_Rows_choose_anew (λf cdv A outer s H E hr=>by
 have hu:=a_ hr;have hu1:=aY hr;have hu2:=aZ hr;have hgd:=hr.gd;have nd:=sc_Rows_choose_anew.nd
 exact (aj (aL (i:=4) nd (bj (d6 T) (hr.mono (by omega)) (aa (i:=0)) (ab (aa (i:=1)) (ab (aa (i:=2)) (ab (aa (i:=3)) ai)))))
  (aj (iq (cD (fD hu) (aa (i:=4)) (aa (i:=1))) (aq (aK (bj (cr T) (hr.mono (by omega)) (aa (i:=0)) (ab (aa (i:=1)) (ab (bj (bA T) (hr.mono (by omega)) (aa (i:=0)) (ab (aa (i:=2)) (ab (aa (i:=1)) (ab ao ai)))) (ab (bj (bA T) (hr.mono (by omega)) (aa (i:=0)) (ab (aa (i:=3)) (ab (aa (i:=1)) (ab ao ai)))) ai)))))) c_)
  (aj (aL (i:=5) nd (bj Crec (hr.mono (by omega)) (aa (i:=0)) (ab (aa (i:=1)) (ab (bj (bA T) (hr.mono (by omega)) (aa (i:=0)) (ab (aa (i:=2)) (ab (aa (i:=4)) (ab ao ai)))) (ab (bj (bA T) (hr.mono (by omega)) (aa (i:=0)) (ab (aa (i:=3)) (ab (aa (i:=4)) (ab ao ai)))) ai)))))
  (aj (aL (i:=6) nd (bj Crec (hr.mono (by omega)) (aa (i:=0)) (ab (aa (i:=1)) (ab (bj (bA T) (hr.mono (by omega)) (aa (i:=0)) (ab (aa (i:=2)) (ab (aa (i:=4)) (ab ao ai)))) (ab (bj (bA T) (hr.mono (by omega)) (aa (i:=0)) (ab (aa (i:=3)) (ab (aa (i:=4)) (ab ao ai)))) ai)))))
  (aq (aK (bj (cr T) (hr.mono (by omega)) (aa (i:=0)) (ab (aa (i:=4)) (ab (aa (i:=5)) (ab (aa (i:=6)) ai)))))))))))
theorem ko:al dX=gM:=rfl
theorem sc_Rows_choose:FnScope ["self","character","no","yes","choice"] ["self","character","no","yes"] gM:=⟨rfl,rfl,rfl,by decide +kernel,rfl,by decide +kernel,by decide +kernel⟩
theorem fF (T:Top K mg):∀ n:Nat,lN P w K mg base (n*2+3) "Rows" "choose" ["self","character","no","yes"] (cM n)
 | 0=>uQ T.d_Rows_choose
 |n+1=>by
  have Crec:=fF T n
  rw[show (n+1)*2+3=(n*2+4)+1 from by omega]
  exact fw T.d_Rows_choose ko sc_Rows_choose (λf cdv A outer s H E hr=>by
   have hu:=a_ hr;have hu1:=aY hr;have hu2:=aZ hr;have hgd:=hr.gd;have nd:=sc_Rows_choose.nd
   exact (aj (aL (i:=4) nd (eY (ab (aa (i:=1)) (ab (aa (i:=2)) (ab (aa (i:=3)) ai)))))
    (aj (iq (md hu (aa (i:=4)) (bU T.f_Rows_choices (aa (i:=0)))) (aq (nG hu (bU T.f_Rows_choices (aa (i:=0))) (aa (i:=4)) (je (cD (fD hu) (aa (i:=2)) (aa (i:=3))) (aa (i:=2)) (bj (fV T Crec) (hr.mono (by omega)) (aa (i:=0)) (ab (aa (i:=1)) (ab (aa (i:=2)) (ab (aa (i:=3)) ai))))))) c_)
    (aq (aK (sf hu (bU T.f_Rows_choices (aa (i:=0))) (aa (i:=4))))))))
theorem i5:al cS=fB:=rfl
theorem sc_number_of_key:FnScope ["rows","key"] ["rows","key"] fB:=⟨rfl,rfl,rfl,by decide +kernel,rfl,by decide +kernel,by decide +kernel⟩
theorem dP (T:Top K mg):∀ n:Nat,Cal P w K mg base (n+21) "number_of_key" ["rows","key"] (bT n)
 | 0=>iS T.d_number_of_key
 |n+1=>by
  have Crec:=dP T n
  exact bp T.d_number_of_key i5 sc_number_of_key (λf cdv A outer s H E hr=>by
   have hu:=a_ hr;have hu1:=aY hr;have hu2:=aZ hr;have hgd:=hr.gd;have nd:=sc_number_of_key.nd
   exact (aj (iq (cD (fD hu) (bg hu1 (aa (i:=1)) ao) gU) (aq (aK (bj (dw T) (hr.mono (by omega)) (aa (i:=0)) (ab (aa (i:=1)) ai)))) c_)
    (aq (aK (bj (fF T 9) (hr.mono (by omega)) (aa (i:=0)) (ab (bg hu1 (aa (i:=1)) ao) (ab (aI Crec (hr.mono (by omega)) (ab (aa (i:=0)) (ab (bg hu1 (aa (i:=1)) ao) ai))) (ab (aI Crec (hr.mono (by omega)) (ab (aa (i:=0)) (ab (bg hu1 (aa (i:=1)) ao) ai))) ai))))))))
theorem tP:al kS=oE:=rfl
theorem sc_folded:FnScope ["key","order","rows"] ["key","order"] oE:=⟨rfl,rfl,rfl,by decide +kernel,rfl,by decide +kernel,by decide +kernel⟩
theorem rH (T:Top K mg):Cal P w K mg base 37 "folded" ["key","order"] eU:=
 bp T.d_folded tP sc_folded (λf cdv A outer s H E hr=>by
 have hu:=a_ hr;have hu1:=aY hr;have hu2:=aZ hr;have hgd:=hr.gd;have nd:=sc_folded.nd
 exact (aj (aL (i:=2) nd (w9 (iV T) (hr.mono (by omega)) (ab (aa (i:=1)) ai)))
  (aq (aK (bj (hZ T) (hr.mono (by omega)) (aa (i:=2)) (ab (aI (dP T 15) (hr.mono (by omega)) (ab (aa (i:=2)) (ab (aa (i:=0)) ai))) ai))))))
theorem nu:al fM=jK:=rfl
theorem sc_cell_at_L:FnScope ["_law_script","_law_k"] ["_law_script","_law_k"] jK:=⟨rfl,rfl,rfl,by decide +kernel,rfl,by decide +kernel,by decide +kernel⟩
theorem l0 (T:Top K mg):Cal P w K mg base 1 "_law_cell_at" ["_law_script","_law_k"] gf:=
 bp T.d_cell_at_L nu sc_cell_at_L (λf cdv A outer s H E hr=>by
 have hu:=a_ hr;have hu1:=aY hr;have hu2:=aZ hr;have hgd:=hr.gd;have nd:=sc_cell_at_L.nd
 exact (aj (iq (cD AA (aa (i:=1)) (bE ft T.b_len dz (ab (aa (i:=0)) ai))) (aq (aK (bg hu1 (aa (i:=0)) (aa (i:=1))))) c_)
  (aq (aK ao))))
theorem qt:al jj=l8:=rfl
theorem sc_mixed_L:FnScope ["_law_script","_law_k","_law_drawn_here"] ["_law_script","_law_k"] l8:=⟨rfl,rfl,rfl,by decide +kernel,rfl,by decide +kernel,by decide +kernel⟩
theorem cQ (T:Top K mg):Cal P w K mg base 2 "_law_mixed" ["_law_script","_law_k"] aV:=
 bp T.d_mixed_L qt sc_mixed_L (λf cdv A outer s H E hr=>by
 have hu:=a_ hr;have hu1:=aY hr;have hu2:=aZ hr;have hgd:=hr.gd;have nd:=sc_mixed_L.nd
 exact (aj (aL (i:=2) nd (ar cg (ar cU (ar aR (ar aR (aI (l0 T) (hr.mono (by omega)) (ab (aa (i:=0)) (ab (aa (i:=1)) ai))) (ar cU ao (aa (i:=1)))) ao) ao) ao))
  (aq (aK (ar cg (ar aR (ar aR (ar cU (aa (i:=2)) (aa (i:=2))) (ar cU ao (aa (i:=2)))) (aa (i:=1))) ao)))))
theorem qu:al jk=l9:=rfl
theorem sc_drawn_L:FnScope ["_law_number","_law_k","_law_drawn_here"] ["_law_number","_law_k"] l9:=⟨rfl,rfl,rfl,by decide +kernel,rfl,by decide +kernel,by decide +kernel⟩
theorem dQ (T:Top K mg):Cal P w K mg base 1 "_law_drawn" ["_law_number","_law_k"] df:=
 bp T.d_drawn_L qu sc_drawn_L (λf cdv A outer s H E hr=>by
 have hu:=a_ hr;have hu1:=aY hr;have hu2:=aZ hr;have hgd:=hr.gd;have nd:=sc_drawn_L.nd
 exact (aj (aL (i:=2) nd (ar cg (ar cU (ar aR (ar aR (aa (i:=0)) (ar cU ao (aa (i:=1)))) ao) ao) ao))
  (aq (aK (ar cg (ar aR (ar aR (ar cU (aa (i:=2)) (aa (i:=2))) (ar cU ao (aa (i:=2)))) (aa (i:=1))) ao)))))
theorem qo:al jf=l5:=rfl
theorem sc_words_L:FnScope ["_law_number","_law_letters","_law_found","_law_k","_law_drawn_here","_law_word","_law_at"] ["_law_number"] l5:=⟨rfl,rfl,rfl,by decide +kernel,rfl,by decide +kernel,by decide +kernel⟩
theorem pZ (T:Top K mg):Cal P w K mg base 2 "_law_words" ["_law_number"] jF:=
 bp T.d_words_L qo sc_words_L (λf cdv A outer s H E hr=>by
 have hu:=a_ hr;have hu1:=aY hr;have hu2:=aZ hr;have hgd:=hr.gd;have nd:=sc_words_L.nd
 exact (aj (aL (i:=1) nd gU)
  (aj (aL (i:=2) nd nM)
  (aj (dW PassesOwn.never rfl (eA rfl T.b_range (ab ao ai)) (aO (i:=3) nd) (aj (aL (i:=4) nd (aI (dQ T) (hr.mono (by omega)) (ab (aa (i:=0)) (ab (aa (i:=3)) ai))))
  (aj (aL (i:=5) nd (bg hu1 (aa (i:=1)) (ar cg (aa (i:=4)) ao)))
  (aj (dW PassesOwn.never rfl (eA rfl T.b_range (ab (ar cU (ar cg (ar gv (aa (i:=4)) ao) ao) (ar cg (aa (i:=0)) ao)) ai)) (aO (i:=6) nd) (aq (aL (i:=5) nd (ar aR (aa (i:=5)) (bg hu1 (aa (i:=1)) (ar cg (ar gv (aa (i:=4)) (ar aR (ar cU ao (aa (i:=6))) ao)) ao))))))
  (aq (qH hu1 (aa (i:=2)) (ar aR (aa (i:=5)) (ar cU gU (eB zK T.b_int zU (ab (yL hu hu1 hu2 (aa (i:=5)) (kO (.tup (.cons (.str ⟨by decide,by decide +kernel⟩) (.cons (.str ⟨by decide,by decide +kernel⟩) (.cons (.str ⟨by decide,by decide +kernel⟩) .nil))) (by decide)))) ai)))) sk))))))
  (aq (aK (eB of T.b_tuple fZ (ab (r_ rfl rfl T.b_sorted (aa (i:=2))) ai))))))))
theorem qr:al ji=z_names_L:=rfl
theorem sc_names_L:FnScope ["_law_number","_law_words_here"] ["_law_number","_law_words_here"] z_names_L:=⟨rfl,rfl,rfl,by decide +kernel,rfl,by decide +kernel,by decide +kernel⟩
theorem p9 (T:Top K mg):Cal P w K mg base 1 "_law_names" ["_law_number","_law_words_here"] jI:=
 bp T.d_names_L qr sc_names_L (λf cdv A outer s H E hr=>by
 have hu:=a_ hr;have hu1:=aY hr;have hu2:=aZ hr;have hgd:=hr.gd;have nd:=sc_names_L.nd
 exact (aq (aK (eB of T.b_tuple fZ (ab (j7 (ts:=["_law_k","_law_word"]) (ix:=[0]) rfl ⟨rfl,by decide +kernel,by decide +kernel,by exact (show ∀ y∈(_:List (Str×NameKind)),y.2=NameKind.free->List.lookup y.1 z_names_L.names=some NameKind.cell∨List.lookup y.1 z_names_L.names=some NameKind.free from by decide +kernel)⟩ (by exact (show ∀ t∈([0]:List Nat),List.lookup ((["_law_number","_law_words_here"]:List Str).getD t Str.empty) _=some NameKind.free from by decide +kernel)) (r9 rfl T.b_enumerate (ab (aa (i:=1)) ai)) (λ_ _ _ _ _=>⟨(nK rfl (bR (aO (i:=0) (show (["_law_k","_law_word","_law_number"]:List Str).Nodup from by decide +kernel)) (bR (aO (i:=1) (show (["_law_k","_law_word","_law_number"]:List Str).Nodup from by decide +kernel)) j6))),(wX (cD (fD hu) (ar cg (ar gv (aa (i:=2)) (ar aR (ar cU ao (aa (i:=0))) ao)) ao) ao)),(aa (i:=1))⟩)) ai)))))
theorem uW:al nO=rV:=rfl
theorem sc_key_L:FnScope ["_law_number","_law_words_here","_law_many","_law_deep","_law_no","_law_yes"] ["_law_number","_law_words_here","_law_many","_law_deep"] rV:=⟨rfl,rfl,rfl,by decide +kernel,rfl,by decide +kernel,by decide +kernel⟩
theorem m6 (T:Top K mg):∀ n:Nat,Cal P w K mg base (n+1) "_law_key" ["_law_number","_law_words_here","_law_many","_law_deep"] (i4 n)
 | 0=>iS T.d_key_L
 |n+1=>by
  have Crec:=m6 T n
  exact bp T.d_key_L uW sc_key_L (λf cdv A outer s H E hr=>by
   have hu:=a_ hr;have hu1:=aY hr;have hu2:=aZ hr;have hgd:=hr.gd;have nd:=sc_key_L.nd
   exact (aj (iq (rX (yf (cD (fD hu) (aa (i:=3)) ao) (u8 (cD (fD hu) (ar cg (aa (i:=0)) ao) ao)))) (aq (aK (eY (ab gU (ab (aI (p9 T) (hr.mono (by omega)) (ab (ar gv (aa (i:=0)) ao) (ab (aa (i:=1)) ai))) ai))))) c_)
    (aj (aL (i:=4) nd (aI Crec (hr.mono (by omega)) (ab (aI (dQ T) (hr.mono (by omega)) (ab (aa (i:=0)) (ab ao ai))) (ab (aa (i:=1)) (ab (aa (i:=2)) (ab (ar qV (aa (i:=3)) ao) ai))))))
    (aj (aL (i:=5) nd (aI Crec (hr.mono (by omega)) (ab (aI (dQ T) (hr.mono (by omega)) (ab (aa (i:=0)) (ab ao ai))) (ab (aa (i:=1)) (ab (aa (i:=2)) (ab (ar qV (aa (i:=3)) ao) ai))))))
    (aq (aK (eY (ab gU (ab (ar cg (ar gv (aa (i:=0)) ao) (aa (i:=2))) (ab (aa (i:=4)) (ab (aa (i:=5)) ai)))))))))))
theorem qq:al jh=l7:=rfl
theorem sc_order_L:FnScope ["_law_number","_law_many","_law_found","_law_k","_law_at"] ["_law_number","_law_many"] l7:=⟨rfl,rfl,rfl,by decide +kernel,rfl,by decide +kernel,by decide +kernel⟩
theorem p8 (T:Top K mg):Cal P w K mg base 2 "_law_order" ["_law_number","_law_many"] jH:=
 bp T.d_order_L qq sc_order_L (λf cdv A outer s H E hr=>by
 have hu:=a_ hr;have hu1:=aY hr;have hu2:=aZ hr;have hgd:=hr.gd;have nd:=sc_order_L.nd
 exact (aj (aL (i:=2) nd (nN ai))
  (aj (dW PassesOwn.never rfl (eA rfl T.b_range (ab (aa (i:=1)) ai)) (aO (i:=3) nd) (aj (aL (i:=4) nd (ar cg (aI (dQ T) (hr.mono (by omega)) (ab (aa (i:=0)) (ab (aa (i:=3)) ai))) (ar aR (bE ft T.b_len dz (ab (aa (i:=2)) ai)) ao)))
  (aq (aL (i:=2) nd (ar aR (ar aR (oU sld (aa (i:=2)) trivial (aa (i:=4))) (nN (ab (aa (i:=3)) ai))) (oU sld (aa (i:=2)) (aa (i:=4)) trivial))))))
  (aq (aK (eB of T.b_tuple fZ (ab (aa (i:=2)) ai)))))))
theorem oq:al gW=z_things_L:=rfl
theorem sc_things_L:FnScope ["_law_many","_law_found","_law_k"] ["_law_many"] z_things_L:=⟨rfl,rfl,rfl,by decide +kernel,rfl,by decide +kernel,by decide +kernel⟩
theorem iT (T:Top K mg):Cal P w K mg base 1 "_law_things" ["_law_many"] fz:=
 bp T.d_things_L oq sc_things_L (λf cdv A outer s H E hr=>by
 have hu:=a_ hr;have hu1:=aY hr;have hu2:=aZ hr;have hgd:=hr.gd;have nd:=sc_things_L.nd
 exact (aj (aL (i:=1) nd (kO (.lst (.cons (.tup .nil (by decide)) .nil) (by decide))))
  (aj (dW PassesOwn.never rfl (eA rfl T.b_range (ab (aa (i:=0)) ai)) (aO (i:=2) nd) (aq (aL (i:=1) nd (ar aR (j7 (ts:=["_law_thing"]) (ix:=[]) rfl ⟨rfl,by decide +kernel,by decide +kernel,by exact (show ∀ y∈(_:List (Str×NameKind)),y.2=NameKind.free->List.lookup y.1 z_things_L.names=some NameKind.cell∨List.lookup y.1 z_things_L.names=some NameKind.free from by decide +kernel)⟩ (by exact (show ∀ t∈([]:List Nat),List.lookup ((["_law_many","_law_found","_law_k"]:List Str).getD t Str.empty) _=some NameKind.free from by decide +kernel)) (gT (aa (i:=1))) (λ_ _ _ _ _=>⟨(aO (i:=0) (show (["_law_thing"]:List Str).Nodup from by decide +kernel)),j3,(ar aR (aa (i:=0)) (kO (.tup (.cons .int .nil) (by decide))))⟩)) (j7 (ts:=["_law_thing"]) (ix:=[]) rfl ⟨rfl,by decide +kernel,by decide +kernel,by exact (show ∀ y∈(_:List (Str×NameKind)),y.2=NameKind.free->List.lookup y.1 z_things_L.names=some NameKind.cell∨List.lookup y.1 z_things_L.names=some NameKind.free from by decide +kernel)⟩ (by exact (show ∀ t∈([]:List Nat),List.lookup ((["_law_many","_law_found","_law_k"]:List Str).getD t Str.empty) _=some NameKind.free from by decide +kernel)) (gT (aa (i:=1))) (λ_ _ _ _ _=>⟨(aO (i:=0) (show (["_law_thing"]:List Str).Nodup from by decide +kernel)),j3,(ar aR (aa (i:=0)) (kO (.tup (.cons .int .nil) (by decide))))⟩))))))
  (aq (aK (r_ rfl rfl T.b_sorted (aa (i:=1))))))))
theorem oy:al gY=kt:=rfl
theorem sc_answer_L:FnScope ["_law_key_here","_law_thing"] ["_law_key_here","_law_thing"] kt:=⟨rfl,rfl,rfl,by decide +kernel,rfl,by decide +kernel,by decide +kernel⟩
theorem iU (T:Top K mg):∀ n:Nat,Cal P w K mg base (n+0) "_law_answer" ["_law_key_here","_law_thing"] (dC n)
 | 0=>iS T.d_answer_L
 |n+1=>by
  have Crec:=iU T n
  exact bp T.d_answer_L oy sc_answer_L (λf cdv A outer s H E hr=>by
   have hu:=a_ hr;have hu1:=aY hr;have hu2:=aZ hr;have hgd:=hr.gd;have nd:=sc_answer_L.nd
   exact (aj (iq (cD (fD hu) (bg hu1 (aa (i:=0)) ao) gU) (aq (aK (bg hu1 (aa (i:=0)) ao))) c_)
    (aq (aK (aI Crec (hr.mono (by omega)) (ab (bg hu1 (aa (i:=0)) (ar aR ao (bg hu1 (aa (i:=1)) (bg hu1 (aa (i:=0)) ao)))) (ab (aa (i:=1)) ai)))))))
theorem tO:al kR=oC:=rfl
theorem sc_made_L:FnScope ["_law_script","_law_most","_law_many","_law_words_here","_law_key_here"] ["_law_script","_law_most"] oC:=⟨rfl,rfl,rfl,by decide +kernel,rfl,by decide +kernel,by decide +kernel⟩
theorem rG (T:Top K mg):Cal P w K mg base 10 "_law_made" ["_law_script","_law_most"] i0:=
 bp T.d_made_L tO sc_made_L (λf cdv A outer s H E hr=>by
 have hu:=a_ hr;have hu1:=aY hr;have hu2:=aZ hr;have hgd:=hr.gd;have nd:=sc_made_L.nd
 exact (aj (aL (i:=2) nd (ar aR ao (ar cg (aI (cQ T) (hr.mono (by omega)) (ab (aa (i:=0)) (ab ao ai))) (aa (i:=1)))))
  (aj (aL (i:=3) nd (aI (pZ T) (hr.mono (by omega)) (ab (aI (cQ T) (hr.mono (by omega)) (ab (aa (i:=0)) (ab ao ai))) ai)))
  (aj (aL (i:=4) nd (aI (m6 T 8) (hr.mono (by omega)) (ab (aI (cQ T) (hr.mono (by omega)) (ab (aa (i:=0)) (ab ao ai))) (ab (aa (i:=3)) (ab (aa (i:=2)) (ab (ar aR ao (ar cg (aI (cQ T) (hr.mono (by omega)) (ab (aa (i:=0)) (ab ao ai))) ao)) ai))))))
  (aq (aK (eY (ab (aa (i:=2)) (ab (aa (i:=3)) (ab (aa (i:=4)) (ab (aI (p8 T) (hr.mono (by omega)) (ab (aI (cQ T) (hr.mono (by omega)) (ab (aa (i:=0)) (ab ao ai))) (ab (aa (i:=2)) ai))) ai)))))))))))
theorem lQ:al e_=ii:=rfl
theorem sc_going_on_L:FnScope ["_law_key_here","_law_order_here","_law_head","_law_found","_law_tail","_law_thing","_law_character","_law_value"] ["_law_key_here","_law_order_here","_law_head"] ii:=⟨rfl,rfl,rfl,by decide +kernel,rfl,by decide +kernel,by decide +kernel⟩
theorem lB (T:Top K mg):Cal P w K mg base 16 "_law_going_on" ["_law_key_here","_law_order_here","_law_head"] fA:=
 bp T.d_going_on_L lQ sc_going_on_L (λf cdv A outer s H E hr=>by
 have hu:=a_ hr;have hu1:=aY hr;have hu2:=aZ hr;have hgd:=hr.gd;have nd:=sc_going_on_L.nd
 exact (aj (aL (i:=3) nd sh)
  (aj (dW PassesOwn.never rfl (gT (aI (iT T) (hr.mono (by omega)) (ab (ar qV (bE ft T.b_len dz (ab (aa (i:=1)) ai)) (bE ft T.b_len dz (ab (aa (i:=2)) ai))) ai))) (aO (i:=4) nd) (aj (aL (i:=5) nd (w8 (vi (ab ao ai)) (bE ft T.b_len dz (ab (aa (i:=1)) ai))))
  (aj (dW PassesOwn.never rfl (yG rfl T.b_zip (ab (aa (i:=1)) (ab (ar aR (aa (i:=2)) (aa (i:=4))) ai))) (nK rfl (bR (aO (i:=6) nd) (bR (aO (i:=7) nd) j6))) (aq (w4 (aa (i:=5)) (aa (i:=6)) (aa (i:=7)))))
  (aq (j4 (vj rfl (aa (i:=3)) (aI (iU T 15) (hr.mono (by omega)) (ab (aa (i:=0)) (ab (ml T.b_tuple (aa (i:=5))) ai)))))))))
  (aq (aK (ml T.b_tuple (aa (i:=3))))))))
theorem yw:al sw=yc:=rfl
theorem sc_law:FnScope ["_law_script","_law_many","_law_words_here","_law_key_here","_law_order_here","_law_unlike","_law_size","_law_head","_law_here","_law_half"] ["_law_script"] yc:=⟨rfl,rfl,rfl,by decide +kernel,rfl,by decide +kernel,by decide +kernel⟩
theorem zE (T:Top K mg){f:Addr}{fd:FuncData}(Fn:Fun K "law" "law" sw f fd):FnD P w K mg base 38 f fd ["_law_script"] wL:=
 lm Fn yw sc_law (λ_ cdv A outer s H E hr=>by
 have hu:=a_ hr;have hu1:=aY hr;have hu2:=aZ hr;have hgd:=hr.gd;have nd:=sc_law.nd
 exact (aj (yD (aI (rG T) (hr.mono (by omega)) (ab (aa (i:=0)) (ab ao ai))) (nK rfl (bR (aO (i:=1) nd) (bR (aO (i:=2) nd) (bR (aO (i:=3) nd) (bR (aO (i:=4) nd) j6))))))
  (aj (aL (i:=5) nd nL)
  (aj (dW PassesOwn.never rfl (eA rfl T.b_range (ab (ar aR (aa (i:=1)) ao) ai)) (aO (i:=6) nd) (aq (dW PassesOwn.never rfl (gT (aI (iT T) (hr.mono (by omega)) (ab (aa (i:=6)) ai))) (aO (i:=7) nd) (aj (aL (i:=8) nd (aI (lB T) (hr.mono (by omega)) (ab (aa (i:=3)) (ab (aa (i:=4)) (ab (aa (i:=7)) ai)))))
  (aj (aL (i:=9) nd (ar gv (bE ft T.b_len dz (ab (aa (i:=8)) ai)) ao))
  (aq (iq (rX (yf (cD (fD hu) (aa (i:=6)) (aa (i:=1))) (u8 (cD (Az hu) (oU sld (aa (i:=8)) trivial (aa (i:=9))) (oU sld (aa (i:=8)) (aa (i:=9)) trivial))))) (aq (nG hu (aa (i:=5)) (aa (i:=8)) sk)) c_)))))))
  (aq (aK (qM (fD hu) (bE ft T.b_len dz (ab (aI (rH T) (hr.mono (by omega)) (ab (aa (i:=3)) (ab (aa (i:=4)) ai))) ai)) (w_ T.b_len (aa (i:=5))))))))))
end
theorem top_mk {K:PySem.W.Frag}{h:Heap}{mg:Str->Option Value}(X:K.In h)(G:h.Ns mainGlobals mg)
  {C_Rows:Addr}
  {f0:Addr}
  {f1:Addr}
  {f2:Addr}
  {f3:Addr}
  {f4:Addr}
  {f5:Addr}
  {f6:Addr}
  {f7:Addr}
  {f8:Addr}
  {f9:Addr}
  {f10:Addr}
  {f11:Addr}
  {f12:Addr}
  {f13:Addr}
  {f14:Addr}
  {f15:Addr}
  {f16:Addr}
  {f17:Addr}
  {f18:Addr}
  {f19:Addr}
  {f20:Addr}
  {f21:Addr}
  {f22:Addr}
  {f23:Addr}
  {f24:Addr}
  {f25:Addr}
  {f26:Addr}
  {f27:Addr}
  {f28:Addr}
  (n_Rows:PySem.W.nsIn K mainGlobals "Rows"=some (some (.ref C_Rows)))
  (k0_Rows:PySem.W.plainGet K C_Rows Str.empty=true)
  (k1_Rows:PySem.W.hasDictIn K C_Rows=true)
  (k2_Rows:PySem.W.plainOver K C_Rows=true)
  (k3_Rows:PySem.W.findIn K (.ref C_Rows) "__setattr__"=some (some (.builtin "object.__setattr__")))
  (k4_Rows:PySem.W.makesIn K C_Rows=true)
  (k5_Rows:PySem.W.keepIn K (.ref C_Rows)=true)
  (a0:PySem.W.nsIn K mainGlobals "asks"=some (some (.ref f0))) (q0:FE K "asks" "asks" qO f0)
  (a1:PySem.W.nsIn K mainGlobals "rows_below"=some (some (.ref f1))) (q1:FE K "rows_below" "rows_below" eZ f1)
  (a2:PySem.W.nsIn K mainGlobals "place_of"=some (some (.ref f2))) (q2:FE K "place_of" "place_of" gX f2)
  (a3:PySem.W.nsIn K mainGlobals "side_of"=some (some (.ref f3))) (q3:FE K "side_of" "side_of" jg f3)
  (a4:PySem.W.nsIn K mainGlobals "leave_row"=some (some (.ref f4))) (q4:FE K "leave_row" "leave_row" fL f4)
  (a5:PySem.W.nsIn K mainGlobals "rows_as_left"=some (some (.ref f5))) (q5:FE K "rows_as_left" "rows_as_left" dj f5)
  (a6:PySem.W.nsIn K mainGlobals "with_numbers"=some (some (.ref f6))) (q6:FE K "with_numbers" "with_numbers" di f6)
  (a7:PySem.W.findIn K (.ref C_Rows) "__init__"=some (some (.ref f7))) (i7:PySem.W.isFn K (.ref f7)=true) (q7:FE K "__init__" "Rows.__init__" cT f7)
  (a8:PySem.W.findIn K (.ref C_Rows) "fold_from"=some (some (.ref f8))) (i8:PySem.W.isFn K (.ref f8)=true) (q8:FE K "fold_from" "Rows.fold_from" cF f8)
  (a9:PySem.W.findIn K (.ref C_Rows) "first_character"=some (some (.ref f9))) (i9:PySem.W.isFn K (.ref f9)=true) (q9:FE K "first_character" "Rows.first_character" bt f9)
  (a10:PySem.W.findIn K (.ref C_Rows) "number_of"=some (some (.ref f10))) (i10:PySem.W.isFn K (.ref f10)=true) (q10:FE K "number_of" "Rows.number_of" cE f10)
  (a11:PySem.W.findIn K (.ref C_Rows) "number_of_ask"=some (some (.ref f11))) (i11:PySem.W.isFn K (.ref f11)=true) (q11:FE K "number_of_ask" "Rows.number_of_ask" bF f11)
  (a12:PySem.W.findIn K (.ref C_Rows) "side"=some (some (.ref f12))) (i12:PySem.W.isFn K (.ref f12)=true) (q12:FE K "side" "Rows.side" fN f12)
  (a13:PySem.W.findIn K (.ref C_Rows) "choose_anew"=some (some (.ref f13))) (i13:PySem.W.isFn K (.ref f13)=true) (q13:FE K "choose_anew" "Rows.choose_anew" bV f13)
  (a14:PySem.W.findIn K (.ref C_Rows) "choose"=some (some (.ref f14))) (i14:PySem.W.isFn K (.ref f14)=true) (q14:FE K "choose" "Rows.choose" dX f14)
  (a15:PySem.W.nsIn K mainGlobals "number_of_key"=some (some (.ref f15))) (q15:FE K "number_of_key" "number_of_key" cS f15)
  (a16:PySem.W.nsIn K mainGlobals "folded"=some (some (.ref f16))) (q16:FE K "folded" "folded" kS f16)
  (a17:PySem.W.nsIn K mainGlobals "_law_cell_at"=some (some (.ref f17))) (q17:FE K "_law_cell_at" "_law_cell_at" fM f17)
  (a18:PySem.W.nsIn K mainGlobals "_law_mixed"=some (some (.ref f18))) (q18:FE K "_law_mixed" "_law_mixed" jj f18)
  (a19:PySem.W.nsIn K mainGlobals "_law_drawn"=some (some (.ref f19))) (q19:FE K "_law_drawn" "_law_drawn" jk f19)
  (a20:PySem.W.nsIn K mainGlobals "_law_words"=some (some (.ref f20))) (q20:FE K "_law_words" "_law_words" jf f20)
  (a21:PySem.W.nsIn K mainGlobals "_law_names"=some (some (.ref f21))) (q21:FE K "_law_names" "_law_names" ji f21)
  (a22:PySem.W.nsIn K mainGlobals "_law_key"=some (some (.ref f22))) (q22:FE K "_law_key" "_law_key" nO f22)
  (a23:PySem.W.nsIn K mainGlobals "_law_order"=some (some (.ref f23))) (q23:FE K "_law_order" "_law_order" jh f23)
  (a24:PySem.W.nsIn K mainGlobals "_law_things"=some (some (.ref f24))) (q24:FE K "_law_things" "_law_things" gW f24)
  (a25:PySem.W.nsIn K mainGlobals "_law_answer"=some (some (.ref f25))) (q25:FE K "_law_answer" "_law_answer" gY f25)
  (a26:PySem.W.nsIn K mainGlobals "_law_made"=some (some (.ref f26))) (q26:FE K "_law_made" "_law_made" kR f26)
  (a27:PySem.W.nsIn K mainGlobals "_law_going_on"=some (some (.ref f27))) (q27:FE K "_law_going_on" "_law_going_on" e_ f27)
  (a28:PySem.W.nsIn K mainGlobals "law"=some (some (.ref f28))) (q28:FE K "law" "law" sw f28)
  (z_len:PySem.W.nsIn K mainGlobals "len"=some none)
  (z_list:PySem.W.nsIn K mainGlobals "list"=some none)
  (z_enumerate:PySem.W.nsIn K mainGlobals "enumerate"=some none)
  (z_tuple:PySem.W.nsIn K mainGlobals "tuple"=some none)
  (z_min:PySem.W.nsIn K mainGlobals "min"=some none)
  (z_range:PySem.W.nsIn K mainGlobals "range"=some none)
  (z_int:PySem.W.nsIn K mainGlobals "int"=some none)
  (z_sorted:PySem.W.nsIn K mainGlobals "sorted"=some none)
  (z_zip:PySem.W.nsIn K mainGlobals "zip"=some none)
  (g_Rows_order:PySem.W.findIn K (.ref C_Rows) "order"=some none)
  (g_Rows_gathered:PySem.W.findIn K (.ref C_Rows) "gathered"=some none)
  (g_Rows_numbers:PySem.W.findIn K (.ref C_Rows) "numbers"=some none)
  (g_Rows_choices:PySem.W.findIn K (.ref C_Rows) "choices"=some none):Top K mg where
 d_asks:=dAt X G a0 q0 (bd1 λ_ _ _ _ _ _ _=>rfl)
 d_rows_below:=dAt X G a1 q1 (bd1 λ_ _ _ _ _ _ _=>rfl)
 d_place_of:=dAt X G a2 q2 (bd2 λ_ _ _ _ _ _ _ _=>rfl)
 d_side_of:=dAt X G a3 q3 (bd4 λ_ _ _ _ _ _ _ _ _ _=>rfl)
 d_leave_row:=dAt X G a4 q4 (bd3 λ_ _ _ _ _ _ _ _ _=>rfl)
 d_rows_as_left:=dAt X G a5 q5 (bd2 λ_ _ _ _ _ _ _ _=>rfl)
 d_with_numbers:=dAt X G a6 q6 (bd2 λ_ _ _ _ _ _ _ _=>rfl)
 d_Rows___init__:=kAt X G ⟨n_Rows,⟨k0_Rows,k1_Rows,k2_Rows,k3_Rows⟩⟩ k4_Rows k5_Rows a7 i7 q7 (bd2 λ_ _ _ _ _ _ _ _=>rfl)
 d_Rows_fold_from:=mAt ⟨n_Rows,⟨k0_Rows,k1_Rows,k2_Rows,k3_Rows⟩⟩ a8 i8 q8 (bd2 λ_ _ _ _ _ _ _ _=>rfl)
 d_Rows_first_character:=mAt ⟨n_Rows,⟨k0_Rows,k1_Rows,k2_Rows,k3_Rows⟩⟩ a9 i9 q9 (bd4 λ_ _ _ _ _ _ _ _ _ _=>rfl)
 d_Rows_number_of:=mAt ⟨n_Rows,⟨k0_Rows,k1_Rows,k2_Rows,k3_Rows⟩⟩ a10 i10 q10 (bd2 λ_ _ _ _ _ _ _ _=>rfl)
 d_Rows_number_of_ask:=mAt ⟨n_Rows,⟨k0_Rows,k1_Rows,k2_Rows,k3_Rows⟩⟩ a11 i11 q11 (bd4 λ_ _ _ _ _ _ _ _ _ _=>rfl)
 d_Rows_side:=mAt ⟨n_Rows,⟨k0_Rows,k1_Rows,k2_Rows,k3_Rows⟩⟩ a12 i12 q12 (bd4 λ_ _ _ _ _ _ _ _ _ _=>rfl)
 d_Rows_choose_anew:=mAt ⟨n_Rows,⟨k0_Rows,k1_Rows,k2_Rows,k3_Rows⟩⟩ a13 i13 q13 (bd4 λ_ _ _ _ _ _ _ _ _ _=>rfl)
 d_Rows_choose:=mAt ⟨n_Rows,⟨k0_Rows,k1_Rows,k2_Rows,k3_Rows⟩⟩ a14 i14 q14 (bd4 λ_ _ _ _ _ _ _ _ _ _=>rfl)
 d_number_of_key:=dAt X G a15 q15 (bd2 λ_ _ _ _ _ _ _ _=>rfl)
 d_folded:=dAt X G a16 q16 (bd2 λ_ _ _ _ _ _ _ _=>rfl)
 d_cell_at_L:=dAt X G a17 q17 (bd2 λ_ _ _ _ _ _ _ _=>rfl)
 d_mixed_L:=dAt X G a18 q18 (bd2 λ_ _ _ _ _ _ _ _=>rfl)
 d_drawn_L:=dAt X G a19 q19 (bd2 λ_ _ _ _ _ _ _ _=>rfl)
 d_words_L:=dAt X G a20 q20 (bd1 λ_ _ _ _ _ _ _=>rfl)
 d_names_L:=dAt X G a21 q21 (bd2 λ_ _ _ _ _ _ _ _=>rfl)
 d_key_L:=dAt X G a22 q22 (bd4 λ_ _ _ _ _ _ _ _ _ _=>rfl)
 d_order_L:=dAt X G a23 q23 (bd2 λ_ _ _ _ _ _ _ _=>rfl)
 d_things_L:=dAt X G a24 q24 (bd1 λ_ _ _ _ _ _ _=>rfl)
 d_answer_L:=dAt X G a25 q25 (bd2 λ_ _ _ _ _ _ _ _=>rfl)
 d_made_L:=dAt X G a26 q26 (bd2 λ_ _ _ _ _ _ _ _=>rfl)
 d_going_on_L:=dAt X G a27 q27 (bd3 λ_ _ _ _ _ _ _ _ _=>rfl)
 d_law:=dAt X G a28 q28 (bd1 λ_ _ _ _ _ _ _=>rfl)
 b_len:=PySem.W.mg_none_of X G z_len
 b_list:=PySem.W.mg_none_of X G z_list
 b_enumerate:=PySem.W.mg_none_of X G z_enumerate
 b_tuple:=PySem.W.mg_none_of X G z_tuple
 b_min:=PySem.W.mg_none_of X G z_min
 b_range:=PySem.W.mg_none_of X G z_range
 b_int:=PySem.W.mg_none_of X G z_int
 b_sorted:=PySem.W.mg_none_of X G z_sorted
 b_zip:=PySem.W.mg_none_of X G z_zip
 f_Rows_order:=⟨C_Rows,n_Rows,⟨k0_Rows,k1_Rows,k2_Rows,k3_Rows⟩,g_Rows_order⟩
 f_Rows_gathered:=⟨C_Rows,n_Rows,⟨k0_Rows,k1_Rows,k2_Rows,k3_Rows⟩,g_Rows_gathered⟩
 f_Rows_numbers:=⟨C_Rows,n_Rows,⟨k0_Rows,k1_Rows,k2_Rows,k3_Rows⟩,g_Rows_numbers⟩
 f_Rows_choices:=⟨C_Rows,n_Rows,⟨k0_Rows,k1_Rows,k2_Rows,k3_Rows⟩,g_Rows_choices⟩
end K13
namespace K13
open PySem L2 PyProof.Rows
def isLet (c:Nat):Bool:=decide (97<=c)&&decide (c<=122)
def lets (x:Str):Bool:=x.cps.toList.all isLet
def kept (x:Str):Bool:=decide (x="names") ||(decide (x="ask") ||decide (x="end"))
def cB (x:Str):Bool:=!kept x&&(decide (1<=x.length)&&(decide (x.length<=8)&&lets x))
def Ce:D->Bool
 | .str x=>cB x
 |_=>false
abbrev abc:Str:="abcdefghijklmnopqrstuvwxyz"
theorem ql:abc.cps.toList.all isLet=true:=by decide +kernel
theorem bL {α:Type}{xs:List α}{i:Nat}{v : α}(h:xs[i]?=some v):atI xs (i:Int)=some v:=by
 have hi:i<xs.length:=(List.getElem?_eq_some_iff.mp h).1
 have e:ixN xs.length (i:Int)=some i:=by unfold ixN;rw[if_pos (by omega),if_pos (by omega)];simp
 unfold atI;rw[e];exact h
end K13
namespace L2
open PySem PyProof.Rows
theorem nS {a b:Str}(h:leS a b=true)(n:a≠b):ltS a b=true:=by
 cases q:ltS a b with
 |true=>rfl
 |false=>exact absurd (pG h (by unfold leS;rw[q];rfl)) n
def adj:List Str->Bool
 |a::b::r=>ltS a b&&adj (b::r)
 |_=>true
theorem iG:∀ {l:List Str},(l.Pairwise λa b=>ltS a b=true)->adj l=true
 |[],_=>rfl
 |[a],_=>rfl
 |a::b::r,h=>by
  obtain⟨h1,h2⟩:=List.pairwise_cons.mp h
  rw[adj,Bool.and_eq_true]
  exact⟨h1 b (List.mem_cons_self ..),iG h2⟩
theorem xB {i j:Int}(h1 : -1000000000000<j)(h2:j<1000000000000):jQ i j=true:=by
 unfold jQ
 have e1:decide (-(2 ^ 64)<j)=true:=decide_eq_true (by omega)
 have e2:decide (j<2 ^ 64)=true:=decide_eq_true (by omega)
 rw[e1,e2];simp
theorem xC {i j:Int}(h1 : -1000000000000<i)(h2:i<1000000000000):jQ i j=true:=by
 unfold jQ
 have e1:decide (-(2 ^ 64)<i)=true:=decide_eq_true (by omega)
 have e2:decide (i<2 ^ 64)=true:=decide_eq_true (by omega)
 rw[e1,e2];simp
theorem pf (i j:Int):b8 (.int i) (.int j)=if jQ i j=true then some (.int (i*j)) else none:=rfl
theorem pe (x:Str)(n:Int):b8 (.str x) (.int n)=if -1000<=n/\n<1 then some (.str ⟨#[]⟩) else if 1<=n/\n<=1000/\x.length<=1000 then some (.str ⟨(List.replicate n.toNat x.cps.toList).flatten.toArray⟩) else none:=rfl
theorem vR (i j:Int):bS (.int i) (.int j)=if 0<j then some (.int (i % j)) else none:=rfl
theorem uJ (i j:Int):du (.int i) (.int j)=if 0<j/\j<1073741824 then some (.int (i / j)) else none:=rfl
theorem uU (x y:Str):bw (.str x) (.str y)=if x.length+y.length<=sizeLine then some (.str (x++y)) else none:=rfl
theorem uS (x y:List D):bw (.tup x) (.tup y)=if x.length+y.length<=sizeLine then some (.tup (x++y)) else none:=rfl
theorem jE (x y:List D):bw (.lst x) (.lst y)=if x.length+y.length<=sizeLine then some (.lst (x++y)) else none:=rfl
theorem t7 (j:Int):dI [.int j]=if -(2 ^ 62)<=j/\j<=16777216 then some ((List.range j.toNat).map λ(k:Nat)=>D.int k) else none:=rfl
theorem vQ {i j:Int}(h1 : -1000000000000<j)(h2:j<1000000000000):b8 (.int i) (.int j)=some (.int (i*j)):=by
 rw[pf,if_pos (xB h1 h2)]
theorem fg {i j:Int}(h1 : -1000000000000<i)(h2:i<1000000000000):b8 (.int i) (.int j)=some (.int (i*j)):=by
 rw[pf,if_pos (xC h1 h2)]
@[simp] theorem A9 (i j:Int):bw (.int i) (.int j)=some (.int (i+j)):=rfl
@[simp] theorem Al (i j:Int):oQ (.int i) (.int j)=some (.int (i-j)):=rfl
theorem aX {i j:Int}(h : 0<j):bS (.int i) (.int j)=some (.int (i % j)):=by rw[vR,if_pos h]
theorem eP {i j:Int}(h : 0<j)(h2:j<1073741824):du (.int i) (.int j)=some (.int (i / j)):=by rw[uJ,if_pos ⟨h,h2⟩]
end L2
namespace K13
open PySem L2 PyProof.Rows
theorem rE (ns:List Int)(k:Nat)(S:Sto):gf [.lst (ns.map .int),.int k] S=okO (.int (ns.getD k 0)) S:=by
 refine az rfl ?_
 unfold jU
 by_cases h:k<ns.length
 ·have h1:((k:Int)<ns.length):=by omega
  have h2:ns[k]?=some ns[k]:=List.getElem?_eq_getElem h
  have e:atI (ns.map D.int) (k:Int)=some (.int ns[k]):=bL (by rw[List.getElem?_map,h2];rfl)
  simp[cm,ltD,h,ixO,bN,ixD,e,List.getD,h2]
 ·have h2:ns[k]?=none:=List.getElem?_eq_none (by omega)
  simp[cm,ltD,h,List.getD,h2]
def mix (ns:List Int)(k:Nat):Int:=
 let d:=(ns.getD k 0+7919*(k:Int)+1)*48271 % 2147483647
 (d*d+7*d+(k:Int)) % 2147483629
theorem qY (ns:List Int)(k:Nat) : 0<=mix ns k:=Int.emod_nonneg _ (by decide)
theorem fP (ns:List Int)(k:Nat)(S:Sto):aV [.lst (ns.map .int),.int k] S=okO (.int (mix ns k)) S:=by
 refine az rfl ?_
 unfold mS
 have e0:=rE ns k
 have e1:∀ x:Int,b8 (.int 7919) (.int x)=some (.int (7919*x)):=λx=>fg (by decide) (by decide)
 have e2:∀ x:Int,b8 (.int x) (.int 48271)=some (.int (x*48271)):=λx=>vQ (by decide) (by decide)
 have e3:∀ x:Int,bS (.int x) (.int 2147483647)=some (.int (x % 2147483647)):=λx=>aX (by decide)
 have e4:∀ x:Int,bS (.int x) (.int 2147483629)=some (.int (x % 2147483629)):=λx=>aX (by decide)
 have e5:∀ x:Int,b8 (.int 7) (.int x)=some (.int (7*x)):=λx=>fg (by decide) (by decide)
 have e6:∀ x:Int,b8 (.int (x % 2147483647)) (.int (x % 2147483647))=some (.int (x % 2147483647*(x % 2147483647))):=λx=>by
  have h1:=Int.emod_nonneg x (show (2147483647:Int)≠0 by decide)
  have h2:=Int.emod_lt_of_pos x (show (0:Int)<2147483647 by decide)
  exact fg (by omega) (by omega)
 simp[e0,e1,e2,e3,e4,e5,e6,mix]
def drw (n k:Int):Int:=
 let d:=(n+104729*k+17)*69621 % 2147483647
 (d*d+3*d+k) % 2147483629
theorem g_ (n k:Int) : 0<=drw n k:=Int.emod_nonneg _ (by decide)
theorem iP (n k:Int)(S:Sto):df [.int n,.int k] S=okO (.int (drw n k)) S:=by
 refine az rfl ?_
 unfold mT
 have e1:∀ x:Int,b8 (.int 104729) (.int x)=some (.int (104729*x)):=λx=>fg (by decide) (by decide)
 have e2:∀ x:Int,b8 (.int x) (.int 69621)=some (.int (x*69621)):=λx=>vQ (by decide) (by decide)
 have e3:∀ x:Int,bS (.int x) (.int 2147483647)=some (.int (x % 2147483647)):=λx=>aX (by decide)
 have e4:∀ x:Int,bS (.int x) (.int 2147483629)=some (.int (x % 2147483629)):=λx=>aX (by decide)
 have e5:∀ x:Int,b8 (.int 3) (.int x)=some (.int (3*x)):=λx=>fg (by decide) (by decide)
 have e6:∀ x:Int,b8 (.int (x % 2147483647)) (.int (x % 2147483647))=some (.int (x % 2147483647*(x % 2147483647))):=λx=>by
  have h1:=Int.emod_nonneg x (show (2147483647:Int)≠0 by decide)
  have h2:=Int.emod_lt_of_pos x (show (0:Int)<2147483647 by decide)
  exact fg (by omega) (by omega)
 simp[e1,e2,e3,e4,e5,e6,drw]
def Wd (n:Nat)(x:Str):Prop:=x.length<=n/\∀ c∈x.cps.toList,c<128
theorem rN (x y:Str):(x++y).cps.toList=x.cps.toList++y.cps.toList:=by
 show (x.cps++y.cps).toList=_
 simp
theorem tK (x y:Str):(x++y).length=x.length+y.length:=by
 show (x.cps++y.cps).size=_
 rw[Array.size_append];rfl
theorem BE (i:Int)(h0 : 0<=i)(h1:i<26)(S:Sto):∃ x:Str,ixO (.str "abcdefghijklmnopqrstuvwxyz") (.int i) S=some (.str x)/\Wd 1 x:=by
 obtain⟨k,rfl⟩:∃ k:Nat,i=k:=⟨i.toNat,by omega⟩
 have hk:k<abc.cps.toList.length:=by
  have:abc.cps.toList.length=26:=by decide +kernel
  omega
 have e:atI abc.cps.toList (k:Int)=some abc.cps.toList[k]:=bL (List.getElem?_eq_getElem hk)
 refine⟨⟨#[abc.cps.toList[k]]⟩,?_,Nat.le_refl _,λc hc=>?_⟩
 ·unfold ixO;rw[if_neg (by simp[bN])];unfold ixD;simp only[e];rfl
 ·have hc':c=abc.cps.toList[k]:=by simpa using hc
  have q:=List.all_eq_true.mp ql abc.cps.toList[k] (List.getElem_mem hk)
  rw[hc']
  simp only[isLet,Bool.and_eq_true,decide_eq_true_eq] at q
  omega
theorem vo (j:Int)(h0 : 0<=j)(h1:j<=1000):dI [.int j]=some ((List.range j.toNat).map λ(k:Nat)=>D.int k):=by
 rw[t7,if_pos (by omega)]
theorem eD {n j:Nat}{d:D}(h:((List.range n).map λ(k:Nat)=>D.int k)[j]?=some d):d = .int j/\j<n:=by
 rw[List.getElem?_map] at h
 obtain⟨x,hx,rfl⟩:=Option.map_eq_some_iff.mp h
 obtain⟨h1,h2⟩:=List.getElem?_eq_some_iff.mp hx
 simp at h1 h2
 exact⟨by rw[← h2],h1⟩
theorem Aq (b:Bool):b8 (.str "q") (.int (if b then 1 else 0))=some (.str (if b then "q" else ⟨#[]⟩)):=by
 cases b
 ·rw[pe,if_pos (by decide)];rfl
 ·rw[pe,if_neg (by decide),if_pos ⟨by decide,by decide,by decide⟩]
  rfl
def isS (d:D)(s:Str):Bool:=match d with
 | .str y=>decide (y=s)
 |_=>false
theorem wj {d:D}(h:pl d=true)(s:Str):eqD d (.str s)=some (.bl (isS d s)):=by
 obtain⟨p,e⟩:=rY h
 have e2:toPy (.str s)=some (.str s):=rfl
 unfold eqD
 rw[e,e2]
 have hd:min p.depth (PyData.str s).depth<=150:=Nat.le_trans (Nat.min_le_right _ _) (by simp[PyData.depth])
 simp only[hd,if_true]
 cases d with
 |str y=>rw[toPy] at e;cases e;simp[PyData.eqv,isS,xY]
 |tup ds=>rw[toPy] at e;obtain⟨ps,_,rfl⟩:=Option.map_eq_some_iff.mp e;simp[PyData.eqv,isS]
 |lst ds=>rw[toPy] at e;obtain⟨ps,_,rfl⟩:=Option.map_eq_some_iff.mp e;simp[PyData.eqv,isS]
 |set _=>simp[pl] at h
 |loc _=>simp[pl] at h
 |_=>rw[toPy] at e;cases e;simp[PyData.eqv,isS]
theorem at0 (xs:List D)(a:D)(S:Sto):ixO (.tup (a::xs)) (.int 0) S=some a:=by
 unfold ixO;rw[if_neg (by simp[bN])];exact bL (i:=0) rfl
theorem at1 (xs:List D)(a b:D)(S:Sto):ixO (.tup (a::b::xs)) (.int 1) S=some b:=by
 unfold ixO;rw[if_neg (by simp[bN])];exact bL (i:=1) rfl
theorem at2 (xs:List D)(a b c:D)(S:Sto):ixO (.tup (a::b::c::xs)) (.int 2) S=some c:=by
 unfold ixO;rw[if_neg (by simp[bN])];exact bL (i:=2) rfl
theorem at3 (xs:List D)(a b c d:D)(S:Sto):ixO (.tup (a::b::c::d::xs)) (.int 3) S=some d:=by
 unfold ixO;rw[if_neg (by simp[bN])];exact bL (i:=3) rfl
theorem nR (x:Int){n:Int}(h : 0<n) : 0<=x % n/\x % n<n:=⟨Int.emod_nonneg x (by omega),Int.emod_lt_of_pos x h⟩
def Wl (n:Nat)(x:Str):Prop:=1<=x.length/\x.length<=n/\lets x=true
theorem vZ (x y:Str):lets (x++y)=(lets x&&lets y):=by
 unfold lets;rw[rN,List.all_append]
theorem Wl.app {n m:Nat}{x y:Str}(h:Wl n x)(g:Wl m y):Wl (n+m) (x++y):=by
 obtain⟨a,b,c⟩:=h
 obtain⟨a',b',c'⟩:=g
 refine⟨by rw[tK];omega,by rw[tK];omega,by rw[vZ,c,c'];rfl⟩
theorem sM (i:Int)(h0 : 0<=i)(h1:i<26)(S:Sto):∃ x:Str,ixO (.str "abcdefghijklmnopqrstuvwxyz") (.int i) S=some (.str x)/\Wl 1 x:=by
 obtain⟨k,rfl⟩:∃ k:Nat,i=k:=⟨i.toNat,by omega⟩
 have hk:k<abc.cps.toList.length:=by
  have:abc.cps.toList.length=26:=by decide +kernel
  omega
 have e:atI abc.cps.toList (k:Int)=some abc.cps.toList[k]:=bL (List.getElem?_eq_getElem hk)
 refine⟨⟨#[abc.cps.toList[k]]⟩,?_,Nat.le_refl _,Nat.le_refl _,?_⟩
 ·unfold ixO;rw[if_neg (by simp[bN])];unfold ixD;simp only[e];rfl
 ·have q:=List.all_eq_true.mp ql abc.cps.toList[k] (List.getElem_mem hk)
  show ([abc.cps.toList[k]]:List Nat).all isLet=true
  rw[List.all_cons,q];rfl
theorem wI {n m:Nat}{x y:Str}(h:Wl n x)(g:y.length<=m)(hn:n+m<=1000):bw (.str x) (.str y)=some (.str (x++y)):=by
 have h1:=h.2.1
 rw[uU,if_pos (Nat.le_trans (show x.length+y.length<=1000 by omega) (by decide))]
theorem zP (n:Int)(l:D)(k dr:Int)(word:Str)(i:Nat)(S:Sto)(hw:Wl (i+1) word)(hi:i<=10)(h0 : 0<=dr):∃ w2:Str,Wl (i+2) w2 /\
  dS [some (.int n),some (.str "abcdefghijklmnopqrstuvwxyz"),some l,some (.int k),some (.int dr),some (.str word),some (.int i)] S=okO (.next [some (.int n),some (.str "abcdefghijklmnopqrstuvwxyz"),some l,some (.int k),some (.int dr),some (.str w2),some (.int i)]) S:=by
 have e1:b8 (.int 31) (.int i)=some (.int (31*i)):=fg (by decide) (by decide)
 have e2:du (.int dr) (.int (31*(i:Int)+29))=some (.int (dr / (31*(i:Int)+29))):=eP (by omega) (by omega)
 have e3:bS (.int (dr / (31*(i:Int)+29))) (.int 26)=some (.int (dr / (31*(i:Int)+29) % 26)):=aX (by decide)
 obtain⟨x,e4,wx⟩:=sM (dr / (31*(i:Int)+29) % 26) (Int.emod_nonneg _ (by decide)) (Int.emod_lt_of_pos _ (by decide)) S
 have e5:=wI hw wx.2.1 (by omega)
 refine⟨word++x,hw.app wx,?_⟩
 unfold dS
 simp[e1,e2,e3,e4,e5]
theorem BG (x:Str)(S:Sto):inO false (.str x) (.tup [.str "names",.str "ask",.str "end"]) S=some (.bl (kept x)):=by
 have e:=in3 x "names" "ask" "end"
 unfold inO;rw[if_neg (by simp[bN]),if_neg (by decide)]
 rw[e]
 unfold kept;simp[eq_comm]
theorem AJ {x:Str}(h:kept x=true):cB (x++("q":Str))=true:=by
 simp only[kept,Bool.or_eq_true,decide_eq_true_eq] at h
 rcases h with rfl |rfl |rfl<;>decide +kernel
theorem AE {x:Str}(h:Wl 8 x):cB (x++(if kept x then ("q":Str) else ⟨#[]⟩))=true:=by
 cases hk:kept x with
 |true=>exact AJ hk
 |false =>
  have e:x++(⟨#[]⟩:Str)=x:=by
   show (⟨x.cps++#[]⟩:Str)=x
   simp
  simp only[Bool.false_eq_true,if_false,e]
  unfold cB
  rw[hk,decide_eq_true h.1,decide_eq_true h.2.1,h.2.2];rfl
def DictN (n:Nat)(kvs:List (D×D)):Prop:=kvs.length<=n/\∃ ss:List Str,kvs.map (·.1)=ss.map .str/\ss.Nodup/\∀ x∈ss,cB x=true
theorem t6 (x y:Str):dh (.str x) (.str y)=decide (x=y):=by
 simp[dh,dE]
theorem DictN.put {n:Nat}{kvs:List (D×D)}{x:Str}{v:D}(h:DictN n kvs)(hx:cB x=true):DictN (n+1) (putD kvs (.str x) v):=by
 obtain⟨hl,ss,e,nd,k⟩:=h
 unfold putD
 split
 ·refine⟨by rw[List.length_map];omega,ss,?_,nd,k⟩
  rw[List.map_map,← e]
  refine List.map_congr_left λp _=>?_
  simp only[Function.comp]
  split<;>rfl
 ·rename_i hn
  refine⟨by rw[List.length_append,List.length_singleton];omega,ss++[x],by simp[e],?_,λy hy=>?_⟩
  ·refine List.nodup_append.mpr ⟨nd,by simp,λa ha b hb=>?_⟩
   rw[List.mem_singleton.mp hb]
   rintro rfl
   apply hn
   have hm:D.str a∈kvs.map (·.1):=by rw[e];exact List.mem_map_of_mem ha
   obtain⟨p,hp,q⟩:=List.mem_map.mp hm
   rw[List.any_eq_true]
   exact⟨p,hp,by rw[q,t6];simp⟩
  ·rcases List.mem_append.mp hy with hy |hy
   ·exact k y hy
   ·rw[List.mem_singleton.mp hy];exact hx
theorem zO (n:Int)(k:Nat)(S:Sto)(kvs:List (D×D))(b c d:Option D)(hD:DictN k kvs)(hk:k<6):∃ b' c' d' kvs',DictN (k+1) kvs' /\
  dR [some (.int n),some (.str "abcdefghijklmnopqrstuvwxyz"),some (.loc S.length),some (.int k),b,c,d] (S++[.dict kvs])=okO (.next [some (.int n),some (.str "abcdefghijklmnopqrstuvwxyz"),some (.loc S.length),some (.int k),b',c',d']) (S++[.dict kvs']):=by
 have e0:=iP n k
 have p0:=g_ n k
 have e1:bS (.int (drw n k)) (.int 26)=some (.int (drw n k % 26)):=aX (by decide)
 obtain⟨x,e2,wx⟩:=sM (drw n k % 26) (Int.emod_nonneg _ (by decide)) (Int.emod_lt_of_pos _ (by decide)) (S++[.dict kvs])
 have e3:du (.int (drw n k)) (.int 26)=some (.int (drw n k / 26)):=eP (by decide) (by decide)
 have e4:bS (.int (drw n k / 26)) (.int 8)=some (.int (drw n k / 26 % 8)):=aX (by decide)
 have e5:bS (.int n) (.int 2)=some (.int (n % 2)):=aX (by decide)
 have b1:=Int.emod_nonneg (drw n k / 26) (show (8:Int)≠0 by decide)
 have b2:=Int.emod_lt_of_pos (drw n k / 26) (show (0:Int)<8 by decide)
 have b3:=Int.emod_nonneg n (show (2:Int)≠0 by decide)
 have b4:=Int.emod_lt_of_pos n (show (0:Int)<2 by decide)
 have e6:b8 (.int (drw n k / 26 % 8)) (.int (n % 2))=some (.int (drw n k / 26 % 8*(n % 2))):=fg (by omega) (by omega)
 have b5 : 0<=drw n k / 26 % 8*(n % 2)/\drw n k / 26 % 8*(n % 2)<=7:=by
  have:n % 2=0∨n % 2=1:=by omega
  rcases this with h |h<;>rw[h]<;>omega
 have e7:=vo (drw n k / 26 % 8*(n % 2)) b5.1 (by omega)
 generalize drw n k / 26 % 8*(n % 2)=m at e6 e7 b5
 obtain⟨ρ',S',e8,hI⟩:=ck (u:=aH 6) (body:=dS) (λi ρ S1=>S1=S++[.dict kvs]/\i<=7/\∃ (w:Str) (z:Option D),Wl (i+1) w/\ρ=[some (.int n),some (.str "abcdefghijklmnopqrstuvwxyz"),some (.loc S.length),some (.int k),some (.int (drw n k)),some (.str w),z])
  ((List.range m.toNat).map λ(k:Nat)=>D.int k) 0 [some (.int n),some (.str "abcdefghijklmnopqrstuvwxyz"),some (.loc S.length),some (.int k),some (.int (drw n k)),some (.str x),d] (S++[.dict kvs]) ⟨rfl,by omega,x,d,wx,rfl⟩ (by
   rintro j dd ρ S1 hj ⟨rfl,hi,w,z,hw,rfl⟩
   obtain⟨rfl,hlt⟩:=eD hj
   simp only[Nat.zero_add] at hw hi ⊢
   obtain⟨w2,hw2,eq⟩:=zP n (.loc S.length) k (drw n k) w j (S++[.dict kvs]) hw (by omega) p0
   exact⟨_,rfl,_,_,eq,rfl,by omega,w2,some (.int j),hw2,rfl⟩)
 simp only[Nat.zero_add,List.length_map,List.length_range] at hI
 obtain⟨rfl,hm7,w,z,hw,rfl⟩:=hI
 have hw8:Wl 8 w:=⟨hw.1,by have:=hw.2.1;omega,hw.2.2⟩
 have e9:=BG w (S++[.dict kvs])
 have nq:=AE hw8
 generalize kept w=bb at e9 nq
 have e10:=Aq bb
 have wq:(if bb then ("q":Str) else ⟨#[]⟩).length<=1:=by cases bb<;>decide
 have e11:=wI hw8 wq (by decide)
 have e12:(S++[MO.dict kvs])[S.length]?=some (.dict kvs):=by simp
 have e13:kvs.length<sizeLine:=Nat.lt_of_lt_of_le (show kvs.length<1000 by have:=hD.1;omega) (by decide)
 have e14:(S++[MO.dict kvs]).set S.length (.dict (putD kvs (.str (w++(if bb then ("q":Str) else ⟨#[]⟩))) (.bl true)))=S++[.dict (putD kvs (.str (w++(if bb then ("q":Str) else ⟨#[]⟩))) (.bl true))]:=by simp
 refine⟨some (.int (drw n k)),some (.str w),z,putD kvs (.str (w++(if bb then ("q":Str) else ⟨#[]⟩))) (.bl true),hD.put nq,?_⟩
 have e15:intD [.bl bb]=some (.int (if bb then 1 else 0)):=rfl
 unfold dR
 simp[e0,e1,e2,e3,e4,e5,e6,e7,e8,oZ,e12,dE,e13,e14,e9,e15,e10,e11]
theorem tQ (n:Int)(S:Sto):∃ (ss:List Str) (kvs:List (D×D)),jF [.int n] S=okO (.tup (ss.map .str)) (S++[.dict kvs])/\ss.length<=6/\(∀ x∈ss,cB x=true)/\ss.Pairwise λa b=>ltS a b=true:=by
 obtain⟨ρ',S',e1,hI⟩:=ck (u:=aH 3) (body:=dR) (λi ρ S1=>i<=6/\∃ kvs b c d z,S1=S++[.dict kvs]/\DictN i kvs/\ρ=[some (.int n),some (.str "abcdefghijklmnopqrstuvwxyz"),some (.loc S.length),z,b,c,d])
  ((List.range 6).map λ(k:Nat)=>D.int k) 0 [some (.int n),some (.str "abcdefghijklmnopqrstuvwxyz"),some (.loc S.length),none,none,none,none] (S++[.dict []]) ⟨by omega,[],none,none,none,none,rfl,⟨Nat.le_refl _,[],rfl,List.nodup_nil,λx h=>by cases h⟩,rfl⟩ (by
   rintro j dd ρ S1 hj ⟨hi,kvs,b,c,d,z,rfl,hD,rfl⟩
   obtain⟨rfl,hlt⟩:=eD hj
   simp only[Nat.zero_add] at hD ⊢
   obtain⟨b',c',d',kvs',hD',eq⟩:=zO n j S kvs b c d hD hlt
   exact⟨_,rfl,_,_,eq,by omega,kvs',b',c',d',some (.int j),rfl,hD',rfl⟩)
 simp only[Nat.zero_add,List.length_map,List.length_range] at hI
 obtain⟨_,kvs,b,c,d,z,rfl,⟨hl,ss,es,nd,hw⟩,rfl⟩:=hI
 have hl2:ss.length=kvs.length:=by
  have:=congrArg List.length es
  simpa using this.symm
 have e2:dG (kvs.map (·.1))=some ((kI ss).map .str):=by
  rw[es]
  unfold dG
  rw[if_pos (by rw[List.length_map];exact Nat.le_trans (show ss.length<=1000 by omega) (by decide)),mf]
 have pm:(kI ss).Perm ss:=List.mergeSort_perm _ _
 have nd2:(kI ss).Nodup:=(pm.nodup_iff).mpr nd
 have pw:(kI ss).Pairwise λa b=>leS a b=true:=List.pairwise_mergeSort mH mI _
 refine⟨kI ss,kvs,?_,by rw[pm.length_eq];omega,λx hx=>hw x (pm.mem_iff.mp hx),(pw.and nd2).imp λq=>nS q.1 q.2⟩
 have e3:dI [.int 6]=some ((List.range 6).map λ(k:Nat)=>D.int k):=vo 6 (by decide) (by decide)
 have e4:(S++[MO.dict kvs])[S.length]?=some (.dict kvs):=by simp
 refine az rfl ?_
 unfold mO
 simp[e3,e1,iu,e4,e2,lT]
theorem mW:∀ (ds:List D) (i:Nat),(b7 i ds).map (λd=>match d with | .tup [_,x]=>x |_ => .non)=ds
 |[],_=>rfl
 |d::ds,i=>by rw[b7,List.map_cons,mW ds]
theorem pc (n:Int){ss:List Str}(h6:ss.length<=100)(S:Sto):∃ ss':List Str,jI [.int n,.tup (ss.map .str)] S=okO (.tup (ss'.map .str)) S/\ss'.Sublist ss:=by
 have q:=lu (u:=kC 2 (aU (aH 0) (aU (aH 1) gN))) (gt:=fK) (fe:=fU) (λρ => ∃ y z,ρ=[y,z,some (.int n)]) (λd=>match d with | .tup [.int k,_]=>decide (n / (3*k+1) % 4=0) |_=>false)
  (λd=>match d with | .tup [_,x]=>x |_ => .non) S (b7 0 (ss.map .str)) (d4 2 [0] [some (.int n),some (.tup (ss.map .str))]) ⟨none,none,rfl⟩ (by
   rintro d hm ρ ⟨y,z,rfl⟩
   obtain⟨j,hj⟩:=List.getElem?_of_mem hm
   rw[eQ] at hj
   obtain⟨x,hx,rfl⟩:=Option.map_eq_some_iff.mp hj
   have hjl:j<ss.length:=by have:=(List.getElem?_eq_some_iff.mp hx).1;simpa using this
   have e1:b8 (.int 3) (.int ((0+j:Nat):Int))=some (.int (3*((0+j:Nat):Int))):=fg (by decide) (by decide)
   have e2:du (.int n) (.int (3*((0+j:Nat):Int)+1))=some (.int (n / (3*((0+j:Nat):Int)+1))):=eP (by omega) (by omega)
   have e3:bS (.int (n / (3*((0+j:Nat):Int)+1))) (.int 4)=some (.int (n / (3*((0+j:Nat):Int)+1) % 4)):=aX (by decide)
   refine⟨[some (.int ((0+j:Nat):Int)),some x,some (.int n)],rfl,⟨_,_,rfl⟩,?_,λ_=>?_⟩
   ·unfold fK
    simp only[Nat.zero_add] at e1 e2 e3 ⊢
    simp[e1,e2,e3]
   ·unfold fU;simp)
 have hs:(((b7 0 (ss.map D.str)).filter (λd=>match d with | .tup [.int k,_]=>decide (n / (3*k+1) % 4=0) |_=>false)).map (λd=>match d with | .tup [_,x]=>x |_ => .non)).Sublist (ss.map D.str):=by
  have:=(List.filter_sublist (p:=(λd=>match d with | .tup [.int k,_]=>decide (n / (3*k+1) % 4=0) |_=>false)) (l:=b7 0 (ss.map D.str))).map (λd=>match d with | .tup [_,x]=>x |_ => .non)
  rw[mW] at this
  exact this
 obtain⟨ss',h1,e⟩:=List.sublist_map_iff.mp hs
 refine⟨ss',?_,h1⟩
 refine az rfl ?_
 unfold mR
 rw[e] at q
 simp[pP,q,lT]
theorem vN {x:Str}(h:cB x=true):∀ c∈x.cps.toList,c<128:=by
 unfold cB at h
 rw[Bool.and_eq_true,Bool.and_eq_true,Bool.and_eq_true] at h
 intro c hc
 have:=List.all_eq_true.mp h.2.2.2 c hc
 unfold isLet at this
 simp at this
 omega
end K13
namespace L2
open PySem PyProof.Rows
section
variable (f g:Rho->Sto->Out D) (ρ:Rho) (S:Sto)
@[simp] theorem Cz (c k:Str):fY c k f ρ S=ae (f ρ S) λd S1=>aE (g9 c k d S1) S1:=rfl
@[simp] theorem BQ (c k:Str):lF c k f g ρ S=ae (g ρ S) λv S1=>ae (f ρ S1) λd S2=>kK c k d v ρ S2:=rfl
@[simp] theorem B5 (c k:Str):A6 c k f g ρ S=ae (f ρ S) λd S1=>ae (aE (g9 c k d S1) S1) λv S2=>ae (g ρ S2) λy S3=>A8 c k d v y ρ S3:=rfl
@[simp] theorem BX (c m:Str)(F:List D->Sto->Out D)(gs:Rho->Sto->Out (List D)):cC c m F f gs ρ S=ae (f ρ S) λd S1=>ae (aE (pM c m d S1) S1) λ_ S2=>ae (gs ρ S2) λds S3=>gO (F (d::ds) S3):=rfl
@[simp] theorem Bk (c m:Str)(F:List D->Sto->Out D)(gs:Rho->Sto->Out (List D)):zM c m F f gs ρ S=ae (f ρ S) λd S1=>ae (aE (pM c m d S1) S1) λ_ S2=>ae (gs ρ S2) λds S3=>F (d::ds) S3:=rfl
@[simp] theorem zG:tx ρ S=okO (.loc S.length) (S++[.lst []]):=rfl
@[simp] theorem CF:xX f g ρ S=ae (f ρ S) λd S1=>ae (aE (da d S1) S1) λ_ S2=>ae (g ρ S2) λv S3=>on d v S3:=rfl
@[simp] theorem AT:iR f ρ S=ae (f ρ S) λd S1=>aE ((da d S1).bind λxs=>if xs.length<=sizeLine then some (.tup xs) else none) S1:=rfl
@[simp] theorem B1:m_ f ρ S=ae (f ρ S) λ_ S1=>okO (.next ρ) S1:=rfl
@[simp] theorem AV (c:Str)(q:Rho->Sto->Bool):xU c q ρ S=if q ρ S=true then some (.error c,S) else none:=rfl
@[simp] theorem CH {α β:Type}(c:Str)(k : α->Sto->Out β):ae (some (.error c,S):Out α) k=some (.error c,S):=rfl
end
theorem dH {S:Sto}{l:Nat}{a b:MO}(h:S[l]?=some a):(S.set l b)[l]?=some b:=by
 have:l<S.length:=(List.getElem?_eq_some_iff.mp h).1
 simp[this]
theorem cR {S:Sto}{l k:Nat}{b:MO}(h:l≠k):(S.set l b)[k]?=S[k]?:=by
 simp[List.getElem?_set,h]
section
variable (f g:Rho->Sto->Out D) (ρ:Rho) (S:Sto)
@[simp] theorem Ct:xW f g ρ S=ae (f ρ S) λx S1=>ae (g ρ S1) λi S2=>aE (pJ x i S2) S2:=rfl
@[simp] theorem Cu:uR f g ρ S=ae (f ρ S) λx S1=>ae (g ρ S1) λi S2=>aE (if bN x=true then pJ x i S2 else ixD x i) S2:=rfl
@[simp] theorem Cq (neg:Bool):wz neg f g ρ S=ae (f ρ S) λk S1=>ae (g ρ S1) λx S2=>aE (kZ neg k x S2) S2:=rfl
@[simp] theorem BW:tD f g ρ S=ae (f ρ S) λx S1=>ae (g ρ S1) λk S2=>aE (fO x k S2) S2:=rfl
@[simp] theorem BS (h:Rho->Sto->Out D):m8 f g h ρ S=ae (h ρ S) λv S1=>ae (f ρ S1) λx S2=>ae (g ρ S2) λk S3=>iD x k v ρ S3:=rfl
@[simp] theorem B0:wu f ρ S=ae (f ρ S) λd S1=>aE ((da d S1).map λxs => .int xs.length) S1:=rfl
@[simp] theorem zH:jA f ρ S=ae (f ρ S) λd S1=>aE (eL d S1) S1:=rfl
@[simp] theorem BV:qa ρ S=okO (.loc S.length) (S++[.dictN []]):=rfl
@[simp] theorem AS (u:D->Rho->Option Rho):oi u f ρ S=ae (f ρ S) λd S1=>aE ((u d ρ).map Fl.next) S1:=rfl
end
end L2
namespace K13
open PySem L2 PyProof.Rows
inductive Row where
 |leaf (ss:List Str)
 |ask (c no yes:Nat)
 deriving DecidableEq
def aF:Row->D
 | .leaf ss => .tup [.str "names",.tup (ss.map .str)]
 | .ask c no yes => .tup [.int c,.int no,.int yes]
def kT:Row->PyData
 | .leaf ss => .tuple [.str "names",.tuple (ss.map .str)]
 | .ask c no yes => .tuple [.int c,.int no,.int yes]
def cy:Row->Prop
 | .leaf ss => ∀ x∈ss,cB x=true
 | .ask _ _ _=>True
theorem sI {x:Str}(h:cB x=true):PyData.strOk x=true:=by
 have w:=vN h
 unfold PyData.strOk
 rw[← Array.all_toList,List.all_eq_true]
 intro c hc
 have:=w c hc
 simp
 omega
theorem o_:PyData.strOk ("names":Str)=true:=by decide +kernel
theorem iA {r:Row}(h:cy r):dD (aF r)=some (kT r):=by
 unfold dD
 cases r with
 |leaf ss =>
  have e:toPy (aF (.leaf ss))=some (kT (.leaf ss)):=by simp[aF,kT,toPy,cZ,gS]
  have a:(ss.map PyData.str).all (keyOk 6)=true:=by
   rw[List.all_eq_true]
   intro p hp
   obtain⟨x,hx,rfl⟩:=List.mem_map.mp hp
   exact sI (h x hx)
  have k:keyOk 8 (kT (.leaf ss))=true:=by
   show ([PyData.str "names",PyData.tuple (ss.map .str)]:List PyData).all (keyOk 7)=true
   rw[List.all_cons,List.all_cons,List.all_nil,Bool.and_true,Bool.and_eq_true]
   exact⟨o_,a⟩
  rw[e,Option.bind_some,if_pos k]
 |ask c no yes=>simp[aF,kT,toPy,cZ,keyOk]
theorem xf (a b:Row):PyData.eqv (kT a) (kT b)=decide (a=b):=by
 cases a with
 |leaf s=>cases b with
  |leaf t=>simp[kT,PyData.eqv,PyData.eqvAll,lp]
  |ask c n y=>simp[kT,PyData.eqv,PyData.eqvAll]
 |ask c n y=>cases b with
  |leaf t=>simp[kT,PyData.eqv,PyData.eqvAll]
  |ask c' n' y' =>
   rw[Bool.eq_iff_iff]
   simp[kT,PyData.eqv,PyData.eqvAll]
   omega
theorem eC {a b:Row}(ha:cy a)(hb:cy b):cA (aF a) (aF b)=decide (a=b):=by
 unfold cA;rw[iA ha,iA hb];exact xf a b
theorem cJ (r:Row):dm (aF r)=true:=by cases r<;>rfl
def aS (k:Nat):List Row->List (D×D)
 |[]=>[]
 |r::G=>(aF r,.int k)::aS (k+1) G
theorem o6:∀ (G:List Row) (k:Nat),(aS k G).length=G.length
 |[],_=>rfl
 |r::G,k=>by rw[aS,List.length_cons,List.length_cons,o6 G]
theorem gE {r:Row}(hr:cy r):∀ (G:List Row) (k:Nat),(∀ x∈G,cy x)->iJ (aS k G) (aF r)=if r∈G then some (.int ((k+G.idxOf r:Nat):Int)) else none
 |[],k,_=>rfl
 |x::G,k,h=>by
  have ih:=gE hr G (k+1) λy hy=>h y (List.mem_cons_of_mem _ hy)
  unfold iJ at ih ⊢
  rw[aS,List.find?_cons]
  simp only[eC (h x (List.mem_cons_self ..)) hr]
  by_cases e:x=r
  ·subst e;simp
  ·rw[decide_eq_false e]
   simp only
   rw[ih]
   have e':¬ r=x:=λq=>e q.symm
   have eb:(x==r)=false:=by simpa using e
   by_cases hm:r∈G
   ·rw[if_pos hm,if_pos (List.mem_cons_of_mem _ hm),List.idxOf_cons,eb]
    simp only[cond_false]
    congr 2
    omega
   ·rw[if_neg hm,if_neg (by rw[List.mem_cons];exact λq=>q.elim e' hm)]
theorem any_nums {r:Row}(hr:cy r)(G:List Row)(k:Nat)(h:∀ x∈G,cy x)(hn:r∉G):((aS k G).any λp=>cA p.1 (aF r))=false:=by
 have q:=gE hr G k h
 rw[if_neg hn] at q
 unfold iJ at q
 rw[Option.map_eq_none_iff,List.find?_eq_none] at q
 rw[List.any_eq_false]
 exact q
theorem mw:∀ (G:List Row) (k:Nat) (r:Row),aS k (G++[r])=aS k G++[(aF r,.int ((k+G.length:Nat):Int))]
 |[],k,r=>rfl
 |x::G,k,r=>by
  rw[List.cons_append,aS,mw G (k+1) r,aS,List.cons_append,List.length_cons,show k+1+G.length=k+(G.length+1) by omega]
theorem ua {r:Row}(hr:cy r){G:List Row}(h:∀ x∈G,cy x)(hn:r∉G):putN (aS 0 G) (aF r) (.int G.length)=aS 0 (G++[r]):=by
 unfold putN
 rw[any_nums hr G 0 h hn,if_neg (by decide),mw,Nat.zero_add]
theorem uH {kvs:List (D×D)}{k v:D}(h:cA k k=true):iJ (putN kvs k v) k=some v:=by
 unfold putN
 split
 ·rename_i ha
  unfold iJ
  rw[List.any_eq_true] at ha
  clear h
  induction kvs with
  |nil=>obtain⟨p,hp,_⟩:=ha;cases hp
  |cons p r ih =>
   rw[List.map_cons,List.find?_cons]
   cases hp:cA p.1 k with
   |true=>simp[hp]
   |false =>
    simp only[hp,Bool.false_eq_true,if_false]
    obtain⟨x,hx,q⟩:=ha
    rcases List.mem_cons.mp hx with rfl |hx
    ·rw[hp] at q;cases q
    ·exact ih ⟨x,hx,q⟩
 ·rename_i ha
  unfold iJ
  rw[Bool.not_eq_true,List.any_eq_false] at ha
  rw[List.find?_append,List.find?_eq_none.mpr ha]
  simp[h]
abbrev Th:=Nat->Bool
inductive Ev (G:List Row) (th:Th):Nat->List Str->Prop
 |leaf {i:Nat}{ss:List Str}:G[i]?=some (.leaf ss)->Ev G th i ss
 |no {i c n y:Nat}{ss:List Str}:G[i]?=some (.ask c n y)->th c=false->Ev G th n ss->Ev G th i ss
 |yes {i c n y:Nat}{ss:List Str}:G[i]?=some (.ask c n y)->th c=true->Ev G th y ss->Ev G th i ss
theorem n3 {G E:List Row}{i:Nat}{r:Row}(h:G[i]?=some r):(G++E)[i]?=some r:=by
 rw[List.getElem?_append_left (List.getElem?_eq_some_iff.mp h).1];exact h
theorem Ev.mono {G:List Row}(E:List Row){th:Th}{i:Nat}{ss:List Str}(h:Ev G th i ss):Ev (G++E) th i ss:=by
 induction h with
 |leaf h=>exact .leaf (n3 h)
 |no h t _ ih=>exact .no (n3 h) t ih
 |yes h t _ ih=>exact .yes (n3 h) t ih
theorem Ev.det {G:List Row}{th:Th}{i:Nat}{a b:List Str}(h:Ev G th i a)(g:Ev G th i b):a=b:=by
 induction h with
 |leaf h=>cases g with
  |leaf h'=>rw[h] at h';cases h';rfl
  |no h'=>rw[h] at h';cases h'
  |yes h'=>rw[h] at h';cases h'
 |no h t _ ih=>cases g with
  |leaf h'=>rw[h] at h';cases h'
  |no h' t' g=>rw[h] at h';cases h';exact ih g
  |yes h' t' g=>rw[h] at h';cases h';rw[t] at t';cases t'
 |yes h t _ ih=>cases g with
  |leaf h'=>rw[h] at h';cases h'
  |no h' t' g=>rw[h] at h';cases h';rw[t] at t';cases t'
  |yes h' t' g=>rw[h] at h';cases h';exact ih g
def pl (o:List Nat)(G:List Row)(i:Nat):Nat:=match G[i]? with
 |some (.ask c _ _)=>o.idxOf c
 |_=>o.length
theorem bQ {o:List Nat}{G E:List Row}{i:Nat}(h:i<G.length):pl o (G++E) i=pl o G i:=by
 unfold pl;rw[List.getElem?_append_left h]
theorem Av (o:List Nat)(G:List Row)(i:Nat):pl o G i<=o.length:=by
 unfold pl
 split
 ·exact List.idxOf_le_length
 ·exact Nat.le_refl _
def RowIn (o:List Nat)(G:List Row)(i:Nat):Row->Prop
 | .leaf ss=>(∀ x∈ss,cB x=true)/\adj ss=true
 | .ask c n y=>c∈o/\n<i/\y<i/\o.idxOf c<K13.pl o G n/\o.idxOf c<K13.pl o G y/\n≠y
structure Wf (o:List Nat) (G:List Row):Prop where
 nd:G.Nodup
 row:∀ (i:Nat) (r:Row),G[i]?=some r->RowIn o G i r
theorem Wf.ok {o:List Nat}{G:List Row}(h:Wf o G):∀ x∈G,cy x:=by
 intro x hx
 obtain⟨i,hi⟩:=List.getElem?_of_mem hx
 have:=h.row i x hi
 cases x with
 |leaf ss=>exact this.1
 |ask c n y=>trivial
theorem Wf.total {o:List Nat}{G:List Row}(h:Wf o G)(th:Th):∀ (i:Nat),i<G.length->∃ ss,Ev G th i ss:=by
 intro i
 induction i using Nat.strongRecOn with
 |_ i ih =>
  intro hi
  have e:G[i]?=some G[i]:=List.getElem?_eq_getElem hi
  have q:=h.row i _ e
  cases hr:G[i] with
  |leaf ss=>rw[hr] at e;exact⟨ss,.leaf e⟩
  |ask c n y =>
   rw[hr] at e q
   obtain⟨_,hn,hy,_,_,_⟩:=q
   cases ht:th c with
   |false=>obtain⟨ss,k⟩:=ih n hn (by omega);exact⟨ss,.no e ht k⟩
   |true=>obtain⟨ss,k⟩:=ih y hy (by omega);exact⟨ss,.yes e ht k⟩
theorem Wf.back {o:List Nat}{G E:List Row}(h:Wf o G){th:Th}{i:Nat}{ss:List Str}(hi:i<G.length)(e:Ev (G++E) th i ss):Ev G th i ss:=by
 obtain⟨s2,k⟩:=h.total th i hi
 rw[Ev.det e (k.mono E)];exact k
theorem RowIn.app {o:List Nat}{G E:List Row}{i:Nat}{r:Row}(hi:i<=G.length)(h:RowIn o G i r):RowIn o (G++E) i r:=by
 cases r with
 |leaf ss=>exact h
 |ask c n y =>
  obtain⟨a,b,c',d,e,f⟩:=h
  refine⟨a,b,c',?_,?_,f⟩
  ·rw[bQ (by omega)];exact d
  ·rw[bQ (by omega)];exact e
theorem Wf.snoc {o:List Nat}{G:List Row}(h:Wf o G){r:Row}(hn:r∉G)(hr:RowIn o G G.length r):Wf o (G++[r]):=by
 refine⟨List.nodup_append.mpr ⟨h.nd,by simp,λa ha b hb=>?_⟩,λi x hx=>?_⟩
 ·rw[List.mem_singleton.mp hb];rintro rfl;exact hn ha
 ·rcases Nat.lt_trichotomy i G.length with hi |hi |hi
  ·rw[List.getElem?_append_left hi] at hx
   exact (h.row i x hx).app (Nat.le_of_lt hi)
  ·subst hi
   have:x=r:=by simpa using hx.symm
   subst this
   exact hr.app (Nat.le_refl _)
  ·rw[List.getElem?_append_right (by omega)] at hx
   have:([r]:List Row)[i-G.length]?=none:=by rw[List.getElem?_eq_none_iff];simp;omega
   rw[this] at hx;cases hx
def hW (C:List (Row×Nat)):List (D×D):=C.map λp=>(aF p.1,.int p.2)
def sel (th:Th)(c n y:Nat):Nat:=if th c=true then y else n
def ChOk (o:List Nat)(G:List Row)(r:Row)(v:Nat):Prop:=match r with
 | .leaf _=>False
 | .ask c n y=>n<G.length/\y<G.length/\v<G.length/\min (o.idxOf c) (min (K13.pl o G n) (K13.pl o G y))<=K13.pl o G v/\∀ th ss,Ev G th (sel th c n y) ss->Ev G th v ss
theorem ChOk.app {o:List Nat}{G E:List Row}(w:Wf o G){r:Row}{v:Nat}(h:ChOk o G r v):ChOk o (G++E) r v:=by
 cases r with
 |leaf _=>exact h
 |ask c n y =>
  obtain⟨a,b,c',d,e⟩:=h
  refine⟨by rw[List.length_append];omega,by rw[List.length_append];omega,by rw[List.length_append];omega,?_,λth ss k=>?_⟩
  ·rw[bQ a,bQ b,bQ c'];exact d
  ·have hs:sel th c n y<G.length:=by unfold sel;split<;>assumption
   exact (e th ss (w.back hs k)).mono E
def jZ:List (Row×Nat)->Row->Nat->List (Row×Nat):=λC r v=>if (C.any λp=>decide (p.1=r))=true then C.map (λp=>if p.1=r then (p.1,v) else p) else C++[(r,v)]
theorem tw {C:List (Row×Nat)}(h:∀ p∈C,cy p.1){r:Row}(hr:cy r)(v:Nat):putN (hW C) (aF r) (.int v)=hW (jZ C r v):=by
 have ea:((hW C).any λp=>cA p.1 (aF r))=C.any λp=>decide (p.1=r):=by
  unfold hW
  rw[List.any_map]
  have:∀ l:List (Row×Nat),(∀ p∈l,cy p.1)->(l.any ((λp=>cA p.1 (aF r)) ∘ λp=>(aF p.1,D.int p.2)))=l.any λp=>decide (p.1=r):=by
   intro l hl
   induction l with
   |nil=>rfl
   |cons p l ih =>
    rw[List.any_cons,List.any_cons,ih λq hq=>hl q (List.mem_cons_of_mem _ hq)]
    simp only[Function.comp,eC (hl p (List.mem_cons_self ..)) hr]
  exact this C h
 unfold putN jZ
 rw[ea]
 split
 ·unfold hW
  rw[List.map_map,List.map_map]
  refine List.map_congr_left λp hp=>?_
  simp only[Function.comp,eC (h p hp) hr,decide_eq_true_eq]
  split<;>rfl
 ·unfold hW;rw[List.map_append];rfl
theorem xQ {C:List (Row×Nat)}(h:∀ p∈C,cy p.1){r:Row}(hr:cy r):iJ (hW C) (aF r)=(C.find? λp=>decide (p.1=r)).map λp => .int p.2:=by
 unfold iJ hW
 induction C with
 |nil=>rfl
 |cons p C ih =>
  rw[List.map_cons,List.find?_cons,List.find?_cons]
  simp only[eC (h p (List.mem_cons_self ..)) hr]
  cases hd:decide (p.1=r) with
  |true=>rfl
  |false=>exact ih λq hq=>h q (List.mem_cons_of_mem _ hq)
theorem o5 {C:List (Row×Nat)}{P:Row->Nat->Prop}(h:∀ p∈C,P p.1 p.2){r:Row}{v:Nat}(hr:P r v):∀ p∈jZ C r v,P p.1 p.2:=by
 intro p hp
 unfold jZ at hp
 split at hp
 ·obtain⟨q,hq,rfl⟩:=List.mem_map.mp hp
  split
  ·rename_i e;rw[e];exact hr
  ·exact h q hq
 ·rcases List.mem_append.mp hp with hp |hp
  ·exact h p hp
  ·rw[List.mem_singleton.mp hp];exact hr
theorem o0 (C:List (Row×Nat))(r:Row)(v:Nat):(jZ C r v).length<=C.length+1:=by
 unfold jZ
 split
 ·rw[List.length_map];omega
 ·rw[List.length_append];simp
abbrev oD (o:List Nat):D:=.tup (o.map λ(c:Nat)=>D.int c)
abbrev RO (o:List Nat)(L:Nat):MO:=.ins "Rows" [("order",oD o),("gathered",.loc (L+1)),("numbers",.loc (L+2)),("choices",.loc (L+3))]
structure SR (B S:Sto) (L:Nat) (o:List Nat) (G:List Row) (C:List (Row×Nat)):Prop where
 obj:S[L]?=some (RO o L)
 gat:S[L+1]?=some (.lst (G.map aF))
 num:S[L+2]?=some (.dictN (aS 0 G))
 cho:S[L+3]?=some (.dictN (hW C))
 fr:S.take L=B
theorem fJ (S:Sto)(x:MO){n k:Nat}(h:n<=k):(S.set k x).take n=S.take n:=by
 apply List.ext_getElem?
 intro i
 rw[List.getElem?_take,List.getElem?_take]
 split
 ·rw[List.getElem?_set_ne (by omega)]
 ·rfl
theorem rq1:(("gathered":Str)=="order")=false:=by decide +kernel
theorem rq2:(("numbers":Str)=="order")=false:=by decide +kernel
theorem rq3:(("numbers":Str)=="gathered")=false:=by decide +kernel
theorem rq4:(("choices":Str)=="order")=false:=by decide +kernel
theorem rq5:(("choices":Str)=="gathered")=false:=by decide +kernel
theorem rq6:(("choices":Str)=="numbers")=false:=by decide +kernel
section
variable {B S:Sto}{L:Nat}{o:List Nat}{G:List Row}{C:List (Row×Nat)}
theorem SR.ins (h:SR B S L o G C):rj "Rows" (.loc L) S=some ([("order",oD o),("gathered",.loc (L+1)),("numbers",.loc (L+2)),("choices",.loc (L+3))]:List (Str×D)):=by
 unfold rj;simp only[h.obj,if_true]
theorem SR.f_order (h:SR B S L o G C):g9 "Rows" "order" (.loc L) S=some (oD o):=by
 unfold g9;rw[h.ins];simp[List.lookup]
theorem SR.f_gat (h:SR B S L o G C):g9 "Rows" "gathered" (.loc L) S=some (.loc (L+1)):=by
 unfold g9;rw[h.ins];simp[List.lookup,rq1]
theorem SR.f_num (h:SR B S L o G C):g9 "Rows" "numbers" (.loc L) S=some (.loc (L+2)):=by
 unfold g9;rw[h.ins];simp[List.lookup,rq2,rq3]
theorem SR.f_cho (h:SR B S L o G C):g9 "Rows" "choices" (.loc L) S=some (.loc (L+3)):=by
 unfold g9;rw[h.ins];simp[List.lookup,rq4,rq5,rq6]
theorem SR.has (h:SR B S L o G C)(m:Str)(hm:((m=="order") ||(m=="gathered") ||(m=="numbers") ||(m=="choices"))=false):pM "Rows" m (.loc L) S=some .non:=by
 rw[Bool.or_eq_false_iff,Bool.or_eq_false_iff,Bool.or_eq_false_iff] at hm
 unfold pM;rw[h.ins];simp[List.lookup,hm.1.1.1,hm.1.1.2,hm.1.2,hm.2]
theorem SR.lst (h:SR B S L o G C):da (.loc (L+1)) S=some (G.map aF):=by unfold da;simp only[h.gat]
theorem SR.row (h:SR B S L o G C){i:Nat}{r:Row}(hi:G[i]?=some r):pJ (.loc (L+1)) (.int i) S=some (aF r):=by
 show ((da (.loc (L+1)) S).bind λxs=>atI xs (i:Int))=_
 rw[h.lst,Option.bind_some]
 exact bL (by rw[List.getElem?_map,hi];rfl)
theorem rC (a b:Nat):eqD (.int a) (.int b)=some (.bl (decide (a=b))):=by
 rw[s_]
 by_cases h:a=b
 ·simp[h]
 ·rw[decide_eq_false h,decide_eq_false (by omega)]
theorem eq_str_int (x:Str)(i:Int):eqD (.str x) (.int i)=some (.bl false):=by simp[eqD,toPy,PyData.eqv,PyData.depth]
theorem om (r:Row)(S:Sto):lJ [aF r] S=okO (.bl (match r with | .leaf _=>false | .ask _ _ _=>true)) S:=by
 refine az rfl ?_
 unfold we
 cases r<;>simp[aF,cm]
theorem idx_map (c:Nat):∀ o:List Nat,(o.map λ(c:Nat)=>(c:Int)).idxOf (c:Int)=o.idxOf c
 |[]=>rfl
 |a::o=>by
  rw[List.map_cons,List.idxOf_cons,List.idxOf_cons,idx_map c o]
  by_cases h:a=c
  ·simp[h]
  ·have h1:(a==c)=false:=by simpa using h
   have h2:((a:Int)==(c:Int))=false:=by
    rw[beq_eq_false_iff_ne];omega
   rw[h1,h2]
theorem intsO_map:∀ l:List Int,eN (l.map .int)=some l
 |[]=>rfl
 |a::l=>by rw[List.map_cons,eN,intsO_map l];rfl
theorem v6 (o:List Nat):eN (o.map λ(c:Nat)=>D.int c)=some (o.map λ(c:Nat)=>(c:Int)):=by
 rw[show (o.map λ(c:Nat)=>D.int c)=(o.map λ(c:Nat)=>(c:Int)).map D.int by rw[List.map_map];rfl,intsO_map]
theorem mM {o:List Nat}{c:Nat}(h:c∈o):gD (oD o) (.int c)=some (.int (o.idxOf c:Nat)):=by
 unfold gD oD
 simp only[v6,Option.bind_some]
 rw[if_pos (List.mem_map.mpr ⟨c,h,rfl⟩),idx_map]
theorem vz {i:Nat}{r:Row}(hi:G[i]?=some r)(w:RowIn o G i r)(S:Sto):h9 [aF r,oD o] S=okO (.int (K13.pl o G i:Nat)) S:=by
 have ea:=om r S
 unfold K13.pl
 rw[hi]
 refine az rfl ?_
 unfold li
 cases r with
 |leaf ss =>
  have:cm [oD o]=some (.int o.length):=by simp[cm]
  simp[ea,this]
 |ask c n y =>
  have e1:=mM w.1
  have e0:ixO (aF (.ask c n y)) (.int 0) S=some (.int c):=at0 _ _ S
  have et:dm (oD o)=true:=rfl
  simp[ea,e0,e1,et]
theorem wg (h:SR B S L o G C)(w:Wf o G)(nd:o.Nodup){c i j:Nat}(hc:c∈o)(hi:i<G.length)(hj:j<G.length) :
  ∃ f,f∈o/\o.idxOf f=min (o.idxOf c) (min (K13.pl o G i) (K13.pl o G j))/\bx [.loc L,.int c,.int i,.int j] S=okO (.int f) S:=by
 have hci:o.idxOf c<o.length:=List.idxOf_lt_length_iff.mpr hc
 have hp:min (o.idxOf c) (min (K13.pl o G i) (K13.pl o G j))<o.length:=by omega
 have one:∀ k:Nat,k<G.length->aP [some (.int k),some (.loc L)] S=okO (.int (K13.pl o G k:Nat)) S:=by
  intro k hk
  have e:G[k]?=some G[k]:=List.getElem?_eq_getElem hk
  have q:=vz e (w.row k _ e) S
  have er:=h.row e
  unfold aP
  simp[h.f_gat,h.f_order,er,q]
 have q:=jz (u:=aH 0) (fe:=aP) (λρ => ∃ y,ρ=[y,some (.loc L)]) (λd=>match d with | .int k => .int (K13.pl o G k.toNat:Nat) |_ => .non) S [.int i,.int j] (d4 1 [0] [some (.loc L),some (.int c),some (.int i),some (.int j),none]) ⟨none,rfl⟩ (by
  rintro d hd ρ ⟨y,rfl⟩
  refine⟨_,rfl,⟨_,rfl⟩,?_⟩
  simp only[List.mem_cons,List.not_mem_nil,or_false] at hd
  rcases hd with rfl |rfl
  ·have:=one i hi;simpa using this
  ·have:=one j hj;simpa using this)
 have e1:=mM hc
 have et:dm (oD o)=true:=rfl
 refine⟨o[min (o.idxOf c) (min (K13.pl o G i) (K13.pl o G j))],List.getElem_mem hp,nd.idxOf_getElem _ hp,az rfl ?_⟩
 have em:pp [.lst [.int (K13.pl o G i:Nat),.int (K13.pl o G j:Nat),.int (o.idxOf c:Nat)]]=some (.int ((min (o.idxOf c) (min (K13.pl o G i) (K13.pl o G j)):Nat):Int)):=by
  simp only[pp,eN,Option.map_some,Option.bind_some,zo,List.foldl]
  congr 2
  split<;>split<;>omega
 have eo:ixO (oD o) (.int ((min (o.idxOf c) (min (K13.pl o G i) (K13.pl o G j)):Nat):Int)) S=some (.int (o[min (o.idxOf c) (min (K13.pl o G i) (K13.pl o G j))]:Nat)):=by
  unfold ixO
  rw[if_neg (by simp[bN])]
  show atI (o.map λ(c:Nat)=>D.int c) _=_
  exact bL (by rw[List.getElem?_map,List.getElem?_eq_getElem hp];rfl)
 have z2:szO [.int i,.int j] (.tup [.int i,.int j])=some (.tup [.int i,.int j]):=ca (by simp)
 have z1:szO [.int (o.idxOf c:Nat)] (.lst [.int (o.idxOf c:Nat)])=some (.lst [.int (o.idxOf c:Nat)]):=ca (by simp)
 have ad:bw (.lst [.int (K13.pl o G i:Nat),.int (K13.pl o G j:Nat)]) (.lst [.int (o.idxOf c:Nat)])=some (.lst [.int (K13.pl o G i:Nat),.int (K13.pl o G j:Nat),.int (o.idxOf c:Nat)]):=by
  exact (jE _ _).trans (if_pos (show 3<=sizeLine by decide))
 unfold cn
 simp only[List.map_cons,List.map_nil,Int.toNat_natCast] at q
 generalize K13.pl o G i=a at *
 generalize K13.pl o G j=b at *
 generalize o.idxOf c=k at *
 simp[z2,eX,q,h.f_order,et,e1,z1,ad,em,eo]
def sd (G:List Row)(i c:Nat)(b:Bool):Nat:=match G[i]? with
 |some (.ask c' n y)=>if c'=c then (if b=true then y else n) else i
 |_=>i
theorem gj (h:SR B S L o G C){i:Nat}(hi:i<G.length)(c:Nat)(b:Bool):br [.loc L,.int i,.int c,.int (if b=true then 1 else 0)] S=okO (.int (sd G i c b:Nat)) S:=by
 have e:G[i]?=some G[i]:=List.getElem?_eq_getElem hi
 have er:=h.row e
 unfold sd
 rw[e]
 suffices ef:jG [.loc (L+1),.int i,.int c,.int (if b=true then 1 else 0)] S=okO (.int (match some G[i] with
  |some (.ask c' n y)=>if c'=c then (if b=true then y else n) else i
  |_=>i:Nat)) S by
  refine az rfl ?_
  unfold jV
  simp[h.f_gat,ef]
 refine az rfl ?_
 unfold mP
 cases hr:G[i] with
 |leaf ss =>
  rw[hr] at er
  have e0:ixO (aF (.leaf ss)) (.int 0) S=some (.str "names"):=at0 _ _ S
  simp[er,e0,eq_str_int,bN]
 |ask c' n y =>
  rw[hr] at er
  have e0:ixO (aF (.ask c' n y)) (.int 0) S=some (.int c'):=at0 _ _ S
  have e1:ixO (aF (.ask c' n y)) (.int 1) S=some (.int n):=at1 _ _ _ S
  have e2:ixO (aF (.ask c' n y)) (.int 2) S=some (.int y):=at2 _ _ _ _ S
  have hq:=rC c' c
  by_cases hc:c'=c
  ·subst hc
   rw[decide_eq_true rfl] at hq
   cases b<;>simp[er,e0,hq,e1,e2,bN]
  ·rw[decide_eq_false hc] at hq
   cases b<;>simp[er,e0,hq,hc,bN]
theorem gi (w:Wf o G){i c:Nat}(hi:i<G.length)(b:Bool)(hc:c∈o)(hp:o.idxOf c<=K13.pl o G i):sd G i c b<G.length/\o.idxOf c<K13.pl o G (sd G i c b)/\∀ th ss,th c=b->Ev G th i ss->Ev G th (sd G i c b) ss:=by
 have e:G[i]?=some G[i]:=List.getElem?_eq_getElem hi
 have hci:o.idxOf c<o.length:=List.idxOf_lt_length_iff.mpr hc
 have q:=w.row i _ e
 unfold sd
 rw[e]
 cases hr:G[i] with
 |leaf ss =>
  refine⟨hi,?_,λ_ _ _ k=>k⟩
  unfold K13.pl
  rw[e,hr];exact hci
 |ask c' n y =>
  rw[hr] at q e
  obtain⟨q1,q2,q3,q4,q5,_⟩:=q
  by_cases hcc:c'=c
  ·subst hcc
   simp only[if_true]
   cases b with
   |false =>
    refine⟨by simp;omega,by simpa using q4,λth ss ht k=>?_⟩
    cases k with
    |leaf h'=>rw[e] at h';cases h'
    |no h' _ k=>rw[e] at h';cases h';exact k
    |yes h' t k=>rw[e] at h';cases h';cases ht.symm.trans t
   |true =>
    refine⟨by simp;omega,by simpa using q5,λth ss ht k=>?_⟩
    cases k with
    |leaf h'=>rw[e] at h';cases h'
    |no h' t k=>rw[e] at h';cases h';cases ht.symm.trans t
    |yes h' _ k=>rw[e] at h';cases h';exact k
  ·simp only[if_neg hcc]
   refine⟨hi,?_,λ_ _ _ k=>k⟩
   unfold K13.pl at hp ⊢
   rw[e] at hp ⊢
   simp only at hp ⊢
   rcases Nat.lt_or_eq_of_le hp with h |h
   ·exact h
   ·exfalso
    apply hcc
    have a1:=List.getElem_idxOf (List.idxOf_lt_length_iff.mpr q1)
    have a2:=List.getElem_idxOf hci
    rw[← a1,← a2]
    congr 1
    exact h.symm
theorem mB (h:SR B S L o G C)(w:Wf o G){r:Row}(hr:RowIn o G G.length r)(hz:G.length<16000000) :
  ∃ S' E i,bq [.loc L,aF r] S=okO (.int (i:Nat)) S'/\SR B S' L o (G++E) C/\Wf o (G++E)/\(G++E)[i]?=some r/\E.length<=1:=by
 have ok:cy r:=by cases r with
  |leaf ss=>exact hr.1
  |ask c n y=>trivial
 have kk:=iA ok
 have gl:=gE ok G 0 w.ok
 have hzz:sizeLine=16777216:=rfl
 by_cases hm:r∈G
 ·rw[if_pos hm,Nat.zero_add] at gl
  have hl:G.idxOf r<G.length:=List.idxOf_lt_length_iff.mpr hm
  refine⟨S,[],G.idxOf r,az rfl ?_,by rw[List.append_nil];exact h,by rw[List.append_nil];exact w,?_,by simp⟩
  ·have en:kZ true (aF r) (.loc (L+2)) S=some (.bl false):=by
    unfold kZ;simp only[h.num,kk,cJ,if_true,gl];rfl
   have eg:fO (.loc (L+2)) (aF r) S=some (.int (G.idxOf r:Nat)):=by
    unfold fO;simp only[h.num,kk,cJ,if_true,gl]
   unfold cG
   simp[h.f_num,en,eg]
  ·rw[List.append_nil,List.getElem?_eq_getElem hl,List.getElem_idxOf hl]
 ·rw[if_neg hm] at gl
  have en:kZ true (aF r) (.loc (L+2)) S=some (.bl true):=by
   unfold kZ;simp only[h.num,kk,cJ,if_true,gl];rfl
  have ep:∀ ρ,iD (.loc (L+2)) (aF r) (.int (G.length:Nat)) ρ S=okO (.next ρ) (S.set (L+2) (.dictN (aS 0 (G++[r])))):=λρ=>by
   unfold iD;simp only[h.num,kk]
   rw[if_pos ⟨by rw[o6];omega,cJ r⟩,ua ok w.ok hm]
  generalize hS1:S.set (L+2) (.dictN (aS 0 (G++[r])))=S1 at ep
  have a1:S1[L]?=some (RO o L):=by rw[← hS1,cR (by omega)];exact h.obj
  have a2:S1[L+1]?=some (.lst (G.map aF)):=by rw[← hS1,cR (by omega)];exact h.gat
  have a3:S1[L+2]?=some (.dictN (aS 0 (G++[r]))):=by rw[← hS1];exact dH h.num
  have a4:S1[L+3]?=some (.dictN (hW C)):=by rw[← hS1,cR (by omega)];exact h.cho
  have b0:g9 "Rows" "gathered" (.loc L) S1=some (.loc (L+1)):=by unfold g9 rj;simp only[a1,if_true];simp[List.lookup,rq1]
  have b1:da (.loc (L+1)) S1=some (G.map aF):=by unfold da;simp only[a2]
  have b2:on (.loc (L+1)) (aF r) S1=okO .non (S1.set (L+1) (.lst ((G++[r]).map aF))):=by
   unfold on;simp only[a2]
   rw[if_pos (by rw[List.length_map];omega),List.map_append];rfl
  have sr:SR B (S1.set (L+1) (.lst ((G++[r]).map aF))) L o (G++[r]) C:=by
   refine⟨?_,dH a2,?_,?_,by rw[fJ _ _ (by omega),← hS1,fJ _ _ (by omega)];exact h.fr⟩
   ·rw[cR (by omega)];exact a1
   ·rw[cR (by omega)];exact a3
   ·rw[cR (by omega)];exact a4
  generalize hS2:S1.set (L+1) (.lst ((G++[r]).map aF))=S2 at b2 sr
  have w2:=w.snoc hm hr
  have gl2:=gE ok (G++[r]) 0 w2.ok
  rw[if_pos (by simp),Nat.zero_add,List.idxOf_append,if_neg hm] at gl2
  have ei:([r]:List Row).idxOf r+G.length=G.length:=by simp
  have ei':G.length+([r]:List Row).idxOf r=G.length:=by simp
  refine⟨S2,[r],G.length,az rfl ?_,sr,w2,by simp,by simp⟩
  have eg:fO (.loc (L+2)) (aF r) S2=some (.int (G.length:Nat)):=by
   unfold fO;simp only[sr.num,kk,cJ,if_true,gl2]
   first |rw[ei] |rw[ei']
  unfold cG
  simp[h.f_num,en,h.f_gat,h.lst,ep,b0,b1,b2,sr.f_num,eg]
end
section
variable {B S:Sto}{L:Nat}{o:List Nat}{G:List Row}{C:List (Row×Nat)}
theorem wG (h:SR B S L o G C)(w:Wf o G){c a b:Nat}(hc:c∈o)(ha:a<G.length)(hb:b<G.length)(pa:o.idxOf c<K13.pl o G a)(pb:o.idxOf c<K13.pl o G b)(hz:G.length<16000000) :
  ∃ S' E i,bf [.loc L,.int c,.int a,.int b] S=okO (.int (i:Nat)) S'/\SR B S' L o (G++E) C/\Wf o (G++E)/\i<(G++E).length/\o.idxOf c<=K13.pl o (G++E) i/\E.length<=1/\∀ th ss,Ev (G++E) th (sel th c a b) ss->Ev (G++E) th i ss:=by
 have hq:=rC a b
 by_cases e:a=b
 ·subst e
  rw[decide_eq_true rfl] at hq
  refine⟨S,[],a,az rfl ?_,by rw[List.append_nil];exact h,by rw[List.append_nil];exact w,by rw[List.append_nil];exact ha,by rw[List.append_nil];omega,by simp,λth ss k=>?_⟩
  ·unfold bH
   simp
  ·unfold sel at k
   simpa using k
 ·rw[decide_eq_false e] at hq
  obtain⟨S',E,i,e1,sr,w2,hi,hE⟩:=mB h w (r:=.ask c a b) ⟨hc,ha,hb,pa,pb,e⟩ hz
  have hil:=(List.getElem?_eq_some_iff.mp hi).1
  have hm:=h.has "number_of" (by decide +kernel)
  have z3:szO [.int c,.int a,.int b] (.tup [.int c,.int a,.int b])=some (.tup [.int c,.int a,.int b]):=ca (by simp)
  have e1:bq [.loc L,.tup [.int c,.int a,.int b]] S=okO (.int (i:Nat)) S':=e1
  have hne:¬ ((a:Int)=b):=by omega
  refine⟨S',E,i,az rfl ?_,sr,w2,hil,?_,hE,λth ss k=>?_⟩
  ·unfold bH
   simp[hne,hm,z3,e1]
  ·unfold K13.pl;rw[hi];exact Nat.le_refl _
  ·unfold sel at k
   cases ht:th c with
   |false=>rw[ht] at k;exact .no hi ht (by simpa using k)
   |true=>rw[ht] at k;exact .yes hi ht (by simpa using k)
def rS (B:Sto)(L:Nat)(o:List Nat)(G:List Row)(C:List (Row×Nat))(c i j N M:Nat)(out:Out D):Prop:=
 ∃ S' E C' r,out=okO (.int (r:Nat)) S'/\SR B S' L o (G++E) C'/\Wf o (G++E)/\(∀ p∈C',ChOk o (G++E) p.1 p.2)/\ChOk o (G++E) (.ask c i j) r/\E.length<=N/\C'.length<=C.length+M
theorem mr {r:Row}{v:Nat}(h:ChOk o G r v):cy r:=by
 cases r with
 |leaf _=>exact h.elim
 |ask _ _ _=>trivial
theorem SR.put (h:SR B S L o G C)(hC:∀ p∈C,ChOk o G p.1 p.2)(c i j v:Nat)(hz:C.length<16000000)(ρ:Rho) :
  ∃ S',iD (.loc (L+3)) (aF (.ask c i j)) (.int v) ρ S=okO (.next ρ) S'/\SR B S' L o G (jZ C (.ask c i j) v)/\fO (.loc (L+3)) (aF (.ask c i j)) S'=some (.int v):=by
 have kk:=iA (r:=.ask c i j) trivial
 have okC:∀ p∈C,cy p.1:=λp hp=>mr (hC p hp)
 have hs:S.set (L+3) (.dictN (putN (hW C) (aF (.ask c i j)) (.int v)))=S.set (L+3) (.dictN (hW (jZ C (.ask c i j) v))):=by rw[tw okC (r:=.ask c i j) trivial]
 refine⟨S.set (L+3) (.dictN (hW (jZ C (.ask c i j) v))),?_,⟨?_,?_,?_,dH h.cho,by rw[fJ _ _ (by omega)];exact h.fr⟩,?_⟩
 ·unfold iD
  simp only[h.cho,kk]
  rw[if_pos ⟨by unfold hW;rw[List.length_map];exact Nat.lt_of_lt_of_le hz (by decide),cJ _⟩,hs]
 ·rw[cR (by omega)];exact h.obj
 ·rw[cR (by omega)];exact h.gat
 ·rw[cR (by omega)];exact h.num
 ·have g:=dH (b:=.dictN (hW (jZ C (.ask c i j) v))) h.cho
  unfold fO
  simp only[g,kk,cJ,if_true]
  rw[← tw okC (r:=.ask c i j) trivial]
  exact uH (by rw[eC (a:=.ask c i j) (b:=.ask c i j) trivial trivial];simp)
theorem x_ (nd:o.Nodup){F:List D->Sto->Out D}{n:Nat}(IH:∀ {S:Sto}{G:List Row}{C:List (Row×Nat)}{c i j:Nat},SR B S L o G C->Wf o G->(∀ p∈C,ChOk o G p.1 p.2)->c∈o->i<G.length->j<G.length->o.idxOf c<n+min (o.idxOf c) (min (K13.pl o G i) (K13.pl o G j))->G.length+2 ^ n<=16000000->C.length+2 ^ n<=16000000->rS B L o G C c i j (2 ^ n-1) (2 ^ n-1) (F [.loc L,.int c,.int i,.int j] S))
  {c i j:Nat}(h:SR B S L o G C) (w:Wf o G) (hC:∀ p∈C,ChOk o G p.1 p.2) (hc:c∈o) (hi:i<G.length) (hj:j<G.length) (hp:o.idxOf c<n+1+min (o.idxOf c) (min (K13.pl o G i) (K13.pl o G j))) (hz:G.length+2 ^ (n+1)<=16000000) (hz2:C.length+2 ^ (n+1)<=16000000) :
  rS B L o G C c i j (2 ^ (n+1)-1) (2 ^ (n+1)-2) (bY F [.loc L,.int c,.int i,.int j] S):=by
 have p2 : 2 ^ (n+1)=2*2 ^ n:=by rw[Nat.pow_succ];omega
 have p1 : 1<=2 ^ n:=Nat.one_le_two_pow
 obtain⟨f,hf,ef,e1⟩:=wg h w nd hc hi hj
 have hq:=rC f c
 have hm1:=h.has "first_character" (by decide +kernel)
 have hm2:=h.has "number_of_ask" (by decide +kernel)
 have hm3:=h.has "side" (by decide +kernel)
 have hm4:=h.has "choose" (by decide +kernel)
 by_cases hfc:f=c
 ·subst hfc
  rw[decide_eq_true rfl] at hq
  have s1:=gj h hi f false
  have s2:=gj h hj f true
  obtain⟨a1,a2,a3⟩:=gi w hi false hc (by omega)
  obtain⟨b1,b2,b3⟩:=gi w hj true hc (by omega)
  obtain⟨S',E,v,q1,sr,w2,hv,pv,hE,sem⟩:=wG h w hc a1 b1 a2 b2 (by omega)
  refine⟨S',E,C,v,az rfl ?_,sr,w2,λp hp=>(hC p hp).app w,⟨by rw[List.length_append];omega,by rw[List.length_append];omega,hv,by omega,λth ss k=>?_⟩,by omega,by omega⟩
  ·unfold bW
   simp only[Bool.false_eq_true,if_false,if_true] at s1 s2
   simp[hm1,hm2,hm3,e1,s1,s2,q1]
  ·refine sem th ss ?_
   have hs:sel th f i j<G.length:=by unfold sel;split<;>assumption
   have k:=w.back hs k
   unfold sel at k ⊢
   cases ht:th f with
   |false=>rw[ht] at k;exact (a3 th ss ht (by simpa using k)).mono E
   |true=>rw[ht] at k;exact (b3 th ss ht (by simpa using k)).mono E
 ·rw[decide_eq_false hfc] at hq
  have hne:¬ ((f:Int)=c):=by omega
  have hlt:o.idxOf f<o.idxOf c:=by
   have hle:o.idxOf f<=o.idxOf c:=by omega
   rcases Nat.lt_or_eq_of_le hle with q |q
   ·exact q
   ·exfalso
    apply hfc
    have a1:=List.getElem_idxOf (List.idxOf_lt_length_iff.mpr hf)
    have a2:=List.getElem_idxOf (List.idxOf_lt_length_iff.mpr hc)
    rw[← a1,← a2]
    congr 1
  have s1:=gj h hi f false
  have s2:=gj h hj f false
  obtain⟨a1,a2,a3⟩:=gi w hi false hf (by omega)
  obtain⟨b1,b2,b3⟩:=gi w hj false hf (by omega)
  obtain⟨S1,E1,C1,a,q1,sr1,w1,hC1,ch1,l1,m1⟩:=IH h w hC hc a1 b1 (by omega) (by omega) (by omega)
  obtain⟨_,_,va,pa,sema⟩:=ch1
  have pi1:K13.pl o (G++E1) i=K13.pl o G i:=bQ hi
  have pj1:K13.pl o (G++E1) j=K13.pl o G j:=bQ hj
  have hi1:i<(G++E1).length:=by rw[List.length_append];omega
  have hj1:j<(G++E1).length:=by rw[List.length_append];omega
  have lG1:(G++E1).length=G.length+E1.length:=List.length_append
  have t1:=gj sr1 hi1 f true
  have t2:=gj sr1 hj1 f true
  obtain⟨c1,c2,c3⟩:=gi w1 hi1 true hf (by omega)
  obtain⟨d1,d2,d3⟩:=gi w1 hj1 true hf (by omega)
  have nm3:=sr1.has "side" (by decide +kernel)
  have nm4:=sr1.has "choose" (by decide +kernel)
  obtain⟨S2,E2,C2,b,q2,sr2,w2,hC2,ch2,l2,m2⟩:=IH sr1 w1 hC1 hc c1 d1 (by omega) (by omega) (by omega)
  obtain⟨_,_,vb,pb,semb⟩:=ch2
  have nm5:=sr2.has "number_of_ask" (by decide +kernel)
  have lG2:(G++E1++E2).length=G.length+E1.length+E2.length:=by rw[List.length_append,lG1]
  have pa0:K13.pl o (G++E1) (sd G i f false)=K13.pl o G (sd G i f false):=bQ a1
  have pb0:K13.pl o (G++E1) (sd G j f false)=K13.pl o G (sd G j f false):=bQ b1
  have pc0:K13.pl o (G++E1++E2) (sd (G++E1) i f true)=K13.pl o (G++E1) (sd (G++E1) i f true):=bQ c1
  have pd0:K13.pl o (G++E1++E2) (sd (G++E1) j f true)=K13.pl o (G++E1) (sd (G++E1) j f true):=bQ d1
  have pa2:K13.pl o (G++E1++E2) a=K13.pl o (G++E1) a:=bQ va
  obtain⟨S3,E3,v,q3,sr3,w3,hv,pv,l3,sem⟩:=wG sr2 w2 (c:=f) (a:=a) (b:=b) hf (by omega) vb (by omega) (by omega) (by omega)
  have eG:G++(E1++E2++E3)=G++E1++E2++E3:=by simp
  have lG3:(G++E1++E2++E3).length=G.length+E1.length+E2.length+E3.length:=by rw[List.length_append,lG2]
  refine⟨S3,E1++E2++E3,C2,v,az rfl ?_,by rw[eG];exact sr3,by rw[eG];exact w3,λp hp=>by rw[eG];exact (hC2 p hp).app w2,?_,by rw[List.length_append,List.length_append];omega,by omega⟩
  ·unfold bW
   simp only[Bool.false_eq_true,if_false,if_true] at s1 s2 t1 t2
   simp[hm1,hm3,hm4,e1,hne,s1,s2,q1,nm3,nm4,t1,t2,q2,nm5,q3]
  ·rw[eG]
   have px:K13.pl o (G++E1++E2++E3) i=K13.pl o G i:=by rw[bQ (by omega),bQ hi1,pi1]
   have py:K13.pl o (G++E1++E2++E3) j=K13.pl o G j:=by rw[bQ (by omega),bQ hj1,pj1]
   refine⟨by omega,by omega,hv,by rw[px,py];omega,λth ss k=>?_⟩
   refine sem th ss ?_
   have hs:sel th c i j<G.length:=by unfold sel;split<;>assumption
   have k:Ev G th (sel th c i j) ss:=w.back (E:=E1++E2++E3) hs (by rw[eG];exact k)
   cases ht:th f with
   |false =>
    have:Ev (G++E1) th (sel th c (sd G i f false) (sd G j f false)) ss:=by
     unfold sel at k ⊢
     by_cases hcc:th c=true
     ·rw[if_pos hcc] at k ⊢;exact (b3 th ss ht k).mono E1
     ·rw[if_neg hcc] at k ⊢;exact (a3 th ss ht k).mono E1
    have:=sema th ss this
    show Ev _ th (if th f=true then b else a) ss
    rw[ht]
    exact (this.mono E2).mono E3
   |true =>
    have k1:Ev (G++E1) th (sel th c i j) ss:=k.mono E1
    have:Ev (G++E1++E2) th (sel th c (sd (G++E1) i f true) (sd (G++E1) j f true)) ss:=by
     unfold sel at k1 ⊢
     by_cases hcc:th c=true
     ·rw[if_pos hcc] at k1 ⊢;exact (d3 th ss ht k1).mono E2
     ·rw[if_neg hcc] at k1 ⊢;exact (c3 th ss ht k1).mono E2
    have:=semb th ss this
    show Ev _ th (if th f=true then b else a) ss
    rw[ht]
    exact this.mono E3
theorem mZ (nd:o.Nodup):∀ (n:Nat) {S:Sto}{G:List Row}{C:List (Row×Nat)}{c i j:Nat},SR B S L o G C->Wf o G->(∀ p∈C,ChOk o G p.1 p.2)->c∈o->i<G.length->j<G.length->o.idxOf c<n+min (o.idxOf c) (min (K13.pl o G i) (K13.pl o G j))->G.length+2 ^ n<=16000000->C.length+2 ^ n<=16000000->rS B L o G C c i j (2 ^ n-1) (2 ^ n-1) (cM n [.loc L,.int c,.int i,.int j] S)
 | 0,S,G,C,c,i,j,h,w,hC,hc,hi,hj,hp,hz,hz2=>absurd hp (by omega)
 |n+1,S,G,C,c,i,j,h,w,hC,hc,hi,hj,hp,hz,hz2=>by
  have kk:=iA (r:=.ask c i j) trivial
  have okC:∀ p∈C,cy p.1:=λp hp=>mr (hC p hp)
  have gc:=xQ okC (r:=.ask c i j) trivial
  have z3:szO [.int c,.int i,.int j] (.tup [.int c,.int i,.int j])=some (.tup [.int c,.int i,.int j]):=ca (by simp)
  have p1 : 1<=2 ^ n:=Nat.one_le_two_pow
  have p2 : 2 ^ (n+1)=2*2 ^ n:=by rw[Nat.pow_succ];omega
  have rd:aF (.ask c i j) = .tup [.int c,.int i,.int j]:=rfl
  cases hf:C.find? (λp=>decide (p.1=Row.ask c i j)) with
  |some p =>
   rw[hf] at gc
   have hpm:=List.mem_of_find?_eq_some hf
   have hpe:p.1 = .ask c i j:=by simpa using List.find?_some hf
   have ch:=hC p hpm
   rw[hpe] at ch
   have en:kZ true (aF (.ask c i j)) (.loc (L+3)) S=some (.bl false):=by
    unfold kZ;simp only[h.cho,kk,cJ,if_true,gc];rfl
   have eg:fO (.loc (L+3)) (aF (.ask c i j)) S=some (.int (p.2:Nat)):=by
    unfold fO;simp only[h.cho,kk,cJ,if_true,gc];rfl
   rw[rd] at en eg
   refine⟨S,[],C,p.2,az rfl ?_,by rw[List.append_nil];exact h,by rw[List.append_nil];exact w,by rw[List.append_nil];exact hC,by rw[List.append_nil];exact ch,by simp,by omega⟩
   unfold cK
   simp[z3,h.f_cho,en,eg]
  |none =>
   rw[hf] at gc
   have en:kZ true (aF (.ask c i j)) (.loc (L+3)) S=some (.bl true):=by
    unfold kZ;simp only[h.cho,kk,cJ,if_true,gc];rfl
   rw[rd] at en
   have hm:=h.has "choose_anew" (by decide +kernel)
   by_cases hij:i=j
   ·subst hij
    have ch:ChOk o G (.ask c i i) i:=⟨hi,hi,hi,by omega,λth ss k=>by unfold sel at k;simpa using k⟩
    obtain⟨S',ep,sr,eg⟩:=h.put hC c i i i (by omega) [some (.loc L),some (.int c),some (.int i),some (.int i),some (.tup [.int c,.int i,.int i])]
    rw[rd] at ep eg
    have pl:=o0 C (.ask c i i) i
    refine⟨S',[],jZ C (.ask c i i) i,i,az rfl ?_,by rw[List.append_nil];exact sr,by rw[List.append_nil];exact w,by rw[List.append_nil];exact o5 hC ch,by rw[List.append_nil];exact ch,by simp,by omega⟩
    unfold cK
    simp[z3,h.f_cho,en,ep,sr.f_cho,eg]
   ·have hne:¬ ((i:Int)=j):=by omega
    obtain⟨S1,E,C1,v,q,sr1,w1,hC1,ch,lE,lC⟩:=x_ nd (λ{S G C c i j}=>mZ nd n (S:=S) (G:=G) (C:=C) (c:=c) (i:=i) (j:=j)) h w hC hc hi hj hp hz hz2
    obtain⟨S',ep,sr,eg⟩:=sr1.put hC1 c i j v (by omega) [some (.loc L),some (.int c),some (.int i),some (.int j),some (.tup [.int c,.int i,.int j])]
    rw[rd] at ep eg
    have pl:=o0 C1 (.ask c i j) v
    refine⟨S',E,jZ C1 (.ask c i j) v,v,az rfl ?_,sr,w1,o5 hC1 ch,ch,lE,by omega⟩
    unfold cK
    simp[z3,h.f_cho,en,hne,hm,q,sr1.f_cho,ep,sr.f_cho,eg]
end
inductive KQ (m:Nat):Nat->D->Prop
 |leaf {k:Nat}{ss:List Str}:(∀ x∈ss,cB x=true)->adj ss=true->KQ m k (aF (.leaf ss))
 |ask {k c:Nat}{x y:D}:c<m->KQ m k x->KQ m k y->KQ m (k+1) (.tup [.str "ask",.int c,x,y])
inductive Kv (th:Th):D->List Str->Prop
 |leaf {ss:List Str}:Kv th (aF (.leaf ss)) ss
 |no {c:Nat}{x y:D}{ss:List Str}:th c=false->Kv th x ss->Kv th (.tup [.str "ask",.int c,x,y]) ss
 |yes {c:Nat}{x y:D}{ss:List Str}:th c=true->Kv th y ss->Kv th (.tup [.str "ask",.int c,x,y]) ss
theorem eqs (w s:Str):eqD (.str w) (.str s)=some (.bl (decide (w=s))):=by rw[wj rfl];rfl
theorem tJ:¬ ("ask":Str)="names":=by decide +kernel
section
variable {B:Sto}{L:Nat}{o:List Nat}
theorem sH (nd:o.Nodup)(hl:o.length<=8){m:Nat}(ho:∀ c,c<m->c∈o){k:Nat}{d:D}(hd:KQ m k d):∀ (fuel:Nat) {S:Sto}{G:List Row}{C:List (Row×Nat)},k<fuel->SR B S L o G C->Wf o G->(∀ p∈C,ChOk o G p.1 p.2)->G.length+512*2 ^ (k+1)<=16000000->C.length+512*2 ^ (k+1)<=16000000 ->
  ∃ S' E C' r,bT fuel [.loc L,d] S=okO (.int (r:Nat)) S'/\SR B S' L o (G++E) C'/\Wf o (G++E)/\(∀ p∈C',ChOk o (G++E) p.1 p.2)/\r<(G++E).length/\E.length+512<=512*2 ^ (k+1)/\C'.length+512<=C.length+512*2 ^ (k+1)/\∀ th ss,Kv th d ss->Ev (G++E) th r ss:=by
 induction hd with
 | @leaf k ss h1 h2 =>
  intro fuel S G C hf h w hC hz hz2
  obtain⟨fuel,rfl⟩:∃ f,fuel=f+1:=⟨fuel-1,by omega⟩
  have p1 : 1<=2 ^ k:=Nat.one_le_two_pow
  have p2 : 2 ^ (k+1)=2*2 ^ k:=by rw[Nat.pow_succ];omega
  obtain⟨S',E,i,e1,sr,w2,hi,hE⟩:=mB h w (r:=.leaf ss) ⟨h1,h2⟩ (by omega)
  have hm:=h.has "number_of" (by decide +kernel)
  have e0:ixO (aF (.leaf ss)) (.int 0) S=some (.str "names"):=at0 _ _ S
  have en:=eqs "names" "names"
  rw[decide_eq_true rfl] at en
  refine⟨S',E,C,i,az rfl ?_,sr,w2,λp hp=>(hC p hp).app w,(List.getElem?_eq_some_iff.mp hi).1,by omega,by omega,λth ss' k=>?_⟩
  ·unfold cV
   simp[e0,en,hm,e1]
  ·generalize hD:aF (.leaf ss)=D0 at k
   cases k with
   |leaf =>
    have hs:ss=ss':=by
     simp only[aF,D.tup.injEq,List.cons.injEq,and_true,true_and] at hD
     exact (List.map_inj_right (λa b h=>by cases h;rfl)).mp hD
    subst hs
    exact .leaf hi
   |no=>simp[aF] at hD
   |yes=>simp[aF] at hD
 | @ask k c x y hc _ _ ix iy =>
  intro fuel S G C hf h w hC hz hz2
  obtain⟨fuel,rfl⟩:∃ f,fuel=f+1:=⟨fuel-1,by omega⟩
  have p1 : 1<=2 ^ (k+1):=Nat.one_le_two_pow
  have p2 : 2 ^ (k+1+1)=2*2 ^ (k+1):=by rw[Nat.pow_succ];omega
  obtain⟨S1,E1,C1,r1,e1,sr1,w1,hC1,v1,l1,m1,sem1⟩:=ix fuel (by omega) h w hC (by omega) (by omega)
  have lG1:(G++E1).length=G.length+E1.length:=List.length_append
  obtain⟨S2,E2,C2,r2,e2,sr2,w2,hC2,v2,l2,m2,sem2⟩:=iy fuel (by omega) sr1 w1 hC1 (by omega) (by omega)
  have lG2:(G++E1++E2).length=G.length+E1.length+E2.length:=by rw[List.length_append,lG1]
  have hco:=ho c hc
  have hci:o.idxOf c<o.length:=List.idxOf_lt_length_iff.mpr hco
  have hm:=h.has "choose" (by decide +kernel)
  obtain⟨S3,E3,C3,v,q3,sr3,w3,hC3,ch,l3,m3⟩:=mZ nd 9 sr2 w2 hC2 hco (i:=r1) (j:=r2) (by omega) v2 (by omega) (by show _+512<=_;omega) (by show _+512<=_;omega)
  obtain⟨_,_,vv,_,sem⟩:=ch
  have l3:E3.length<=511:=l3
  have m3:C3.length<=C2.length+511:=m3
  have eG:G++(E1++E2++E3)=G++E1++E2++E3:=by simp
  have a0:ixO (.tup [.str "ask",.int c,x,y]) (.int 0) S=some (.str "ask"):=at0 _ _ S
  have en:=eqs "ask" "names"
  rw[decide_eq_false tJ] at en
  refine⟨S3,E1++E2++E3,C3,v,az rfl ?_,by rw[eG];exact sr3,by rw[eG];exact w3,by rw[eG];exact hC3,by rw[eG];exact vv,by rw[List.length_append,List.length_append];omega,by omega,λth ss q=>?_⟩
  ·unfold cV
   simp[at0,at1,at2,at3,en,hm,e1,e2,q3]
  ·rw[eG]
   refine sem th ss ?_
   cases q with
   |no ht q =>
    have:Ev (G++E1++E2) th r1 ss:=(sem1 th ss q).mono E2
    have e:sel th c r1 r2=r1:=by unfold sel;rw[ht];rfl
    rw[e];exact this.mono E3
   |yes ht q =>
    have e:sel th c r1 r2=r2:=by unfold sel;rw[ht];rfl
    rw[e];exact (sem2 th ss q).mono E3
end
inductive Tr where
 |leaf (ss:List Str)
 |node (c:Nat) (n y:Tr)
 deriving DecidableEq
def tev:Tr->Th->List Str
 | .leaf ss,_=>ss
 | .node c n y,th=>if th c=true then tev y th else tev n th
def tp (o:List Nat):Tr->Nat
 | .leaf _=>o.length
 | .node c _ _=>o.idxOf c
def Ord (o:List Nat):Tr->Prop
 | .leaf _=>True
 | .node c n y=>c∈o/\Ord o n/\Ord o y/\o.idxOf c<tp o n/\o.idxOf c<tp o y/\n≠y
def tsz:Tr->Nat
 | .leaf _ => 1
 | .node _ n y=>tsz n+tsz y+1
theorem wV (t:Tr) : 1<=tsz t:=by cases t<;>simp[tsz]
noncomputable def upd (th:Th) (c:Nat) (b:Bool):Th:=λx=>if x=c then b else th x
theorem upd_same (th:Th)(c:Nat)(b:Bool):upd th c b c=b:=by simp[upd]
theorem gg {o:List Nat}{c:Nat}:∀ {t:Tr},Ord o t->o.idxOf c<tp o t->∀ (th:Th) (b:Bool),tev t (upd th c b)=tev t th
 | .leaf _,_,_,_,_=>rfl
 | .node c1 n y,h,hp,th,b=>by
  obtain⟨_,hn,hy,p1,p2,_⟩:=h
  have hp:o.idxOf c<o.idxOf c1:=hp
  have hne:¬ c1=c:=λe=>by rw[e] at hp;omega
  have e1:=gg hn (show o.idxOf c<tp o n by omega) th b
  have e2:=gg hy (show o.idxOf c<tp o y by omega) th b
  have e3:upd th c b c1=th c1:=by simp[upd,hne]
  show (if upd th c b c1=true then tev y (upd th c b) else tev n (upd th c b))=_
  rw[e1,e2,e3];rfl
theorem qD {o:List Nat}{c:Nat}{n y:Tr}(h:Ord o (.node c n y))(th:Th):tev (.node c n y) (upd th c false)=tev n th:=by
 show (if upd th c false c=true then _ else tev n (upd th c false))=_
 rw[upd_same,gg h.2.1 h.2.2.2.1];rfl
theorem nA {o:List Nat}{c:Nat}{n y:Tr}(h:Ord o (.node c n y))(th:Th):tev (.node c n y) (upd th c true)=tev y th:=by
 show (if upd th c true c=true then tev y (upd th c true) else _)=_
 rw[upd_same,gg h.2.2.1 h.2.2.2.2.1];rfl
theorem xJ {o:List Nat}{a b:Nat}(ha:a∈o)(hb:b∈o)(h:o.idxOf a=o.idxOf b):a=b:=by
 have a1:=List.getElem_idxOf (List.idxOf_lt_length_iff.mpr ha)
 have a2:=List.getElem_idxOf (List.idxOf_lt_length_iff.mpr hb)
 rw[← a1,← a2]
 congr 1
theorem canon {o:List Nat}:∀ (k:Nat) {t t':Tr},tsz t+tsz t'<=k->Ord o t->Ord o t'->(∀ th,tev t th=tev t' th)->t=t'
 | 0,t,t',hk,_,_,_=>absurd hk (by have:=wV t;omega)
 |k+1,t,t',hk,h,h',he=>by
  have apart:∀ {c:Nat}{n y s:Tr},tsz n+tsz y<=k->Ord o (.node c n y)->Ord o s->o.idxOf c<tp o s->(∀ th,tev (.node c n y) th=tev s th)->False:=by
   intro c n y s hs ho hos hp hev
   apply ho.2.2.2.2.2
   refine canon k hs ho.2.1 ho.2.2.1 λth=>?_
   have a:=hev (upd th c false)
   have b:=hev (upd th c true)
   rw[qD ho,gg hos hp] at a
   rw[nA ho,gg hos hp] at b
   rw[a,b]
  cases t with
  |leaf ss=>cases t' with
   |leaf ss'=>have:=he (λ_=>false);simp only[tev] at this;rw[this]
   |node c n y =>
    exact (apart (s:=.leaf ss) (by simp only[tsz] at hk;omega) h' h (List.idxOf_lt_length_iff.mpr h'.1) λth=>(he th).symm).elim
  |node c n y=>cases t' with
   |leaf ss =>
    exact (apart (s:=.leaf ss) (by simp only[tsz] at hk;omega) h h' (List.idxOf_lt_length_iff.mpr h.1) he).elim
   |node c' n' y' =>
    simp only[tsz] at hk
    rcases Nat.lt_trichotomy (o.idxOf c) (o.idxOf c') with q |q |q
    ·exact (apart (s:=.node c' n' y') (by omega) h h' q he).elim
    ·have ec:=xJ h.1 h'.1 q
     subst ec
     have e1:n=n':=canon k (by omega) h.2.1 h'.2.1 λth=>by
      have:=he (upd th c false)
      rwa [qD h,qD h'] at this
     have e2:y=y':=canon k (by omega) h.2.2.1 h'.2.2.1 λth=>by
      have:=he (upd th c true)
      rwa [nA h,nA h'] at this
     rw[e1,e2]
    ·exact (apart (s:=.node c n y) (by omega) h' h q λth=>(he th).symm).elim
inductive Un (G:List Row):Nat->Tr->Prop
 |leaf {i:Nat}{ss:List Str}:G[i]?=some (.leaf ss)->Un G i (.leaf ss)
 |node {i c n y:Nat}{s t:Tr}:G[i]?=some (.ask c n y)->Un G n s->Un G y t->Un G i (.node c s t)
theorem Un.det {G:List Row}{i:Nat}{s t:Tr}(h:Un G i s)(g:Un G i t):s=t:=by
 induction h generalizing t with
 |leaf h=>cases g with
  |leaf h'=>rw[h] at h';cases h';rfl
  |node h'=>rw[h] at h';cases h'
 |node h _ _ i1 i2=>cases g with
  |leaf h'=>rw[h] at h';cases h'
  |node h' a b=>rw[h] at h';cases h';rw[i1 a,i2 b]
theorem Un.ev {G:List Row}{i:Nat}{t:Tr}(h:Un G i t)(th:Th):Ev G th i (tev t th):=by
 induction h with
 |leaf h=>exact .leaf h
 | @node i c n y s t h _ _ i1 i2 =>
  cases ht:th c with
  |false=>exact .no h ht (by rw[tev,ht];exact i1)
  |true=>exact .yes h ht (by rw[tev,ht];exact i2)
theorem Wf.un {o:List Nat}{G:List Row}(w:Wf o G):∀ (i:Nat),i<G.length->∃ t,Un G i t:=by
 intro i
 induction i using Nat.strongRecOn with
 |_ i ih =>
  intro hi
  have e:G[i]?=some G[i]:=List.getElem?_eq_getElem hi
  have q:=w.row i _ e
  cases hr:G[i] with
  |leaf ss=>rw[hr] at e;exact⟨_,.leaf e⟩
  |ask c n y =>
   rw[hr] at e q
   obtain⟨_,hn,hy,_⟩:=q
   obtain⟨s,hs⟩:=ih n hn (by omega)
   obtain⟨t,ht⟩:=ih y hy (by omega)
   exact⟨_,.node e hs ht⟩
theorem Un.inj {G:List Row}(nd:G.Nodup){i:Nat}{t:Tr}(h:Un G i t):∀ {j:Nat},Un G j t->i=j:=by
 have key:∀ {a b:Nat}{r:Row},G[a]?=some r->G[b]?=some r->a=b:=by
  intro a b r ha hb
  have la:=(List.getElem?_eq_some_iff.mp ha).1
  have lb:=(List.getElem?_eq_some_iff.mp hb).1
  have ea:=(List.getElem?_eq_some_iff.mp ha).2
  have eb:=(List.getElem?_eq_some_iff.mp hb).2
  have i1:=nd.idxOf_getElem a la
  have i2:=nd.idxOf_getElem b lb
  rw[← i1,← i2,ea,eb]
 induction h with
 |leaf h=>intro j g;cases g with
  |leaf h'=>exact key h h'
 |node h _ _ i1 i2=>intro j g;cases g with
  |node h' a b =>
   have e1:=i1 a
   have e2:=i2 b
   subst e1 e2
   exact key h h'
theorem Un.pl {o:List Nat}{G:List Row}{i:Nat}{t:Tr}(h:Un G i t):K13.pl o G i=tp o t:=by
 unfold K13.pl
 cases h with
 |leaf h=>rw[h];rfl
 |node h _ _=>rw[h];rfl
def po:Tr->List Tr->List Tr
 | .leaf ss,acc=>if Tr.leaf ss∈acc then acc else acc++[.leaf ss]
 | .node c n y,acc=>if Tr.node c n y∈acc then acc else po y (po n acc)++[.node c n y]
def BM (P:List Tr):Tr->Row
 | .leaf ss => .leaf ss
 | .node c n y => .ask c (P.idxOf n) (P.idxOf y)
def enc (P:List Tr):List Row:=P.map (BM P)
open Classical in
noncomputable def uT (G:List Row) (i:Nat):Tr:=if h:∃ t,Un G i t then Classical.choose h else .leaf []
theorem Un.uT {G:List Row}{i:Nat}{t:Tr}(h:Un G i t):K13.uT G i=t:=by
 unfold K13.uT
 have e:∃ t,Un G i t:=⟨t,h⟩
 rw[dif_pos e]
 exact (Classical.choose_spec e).det h
theorem Wf.uT {o:List Nat}{G:List Row}(w:Wf o G){i:Nat}(hi:i<G.length):Un G i (K13.uT G i):=by
 obtain⟨t,h⟩:=w.un i hi
 rw[h.uT];exact h
theorem qv {o:List Nat}{G:List Row}(w:Wf o G){i j:Nat}(hi:i<G.length)(hj:j<G.length)(h:K13.uT G i=K13.uT G j):i=j:=
 Un.inj w.nd (w.uT hi) (h▸w.uT hj)
theorem uZ {o:List Nat}{G:List Row}(w:Wf o G){Ls:List Nat}(hl:∀ i∈Ls,i<G.length){j:Nat}(hj:j<G.length)(h:K13.uT G j∈Ls.map (K13.uT G)):j∈Ls:=by
 obtain⟨k,hk,e⟩:=List.mem_map.mp h
 rw[← qv w (hl k hk) hj e];exact hk
theorem dZ {t:Tr}{acc:List Tr}(h:t∈acc):po t acc=acc:=by
 cases t<;>(unfold po;rw[if_pos h])
theorem gu {ss:List Str}{acc:List Tr}(h:Tr.leaf ss∉acc):po (.leaf ss) acc=acc++[.leaf ss]:=by
 unfold po;rw[if_neg h]
theorem gq {c:Nat}{n y:Tr}{acc:List Tr}(h:Tr.node c n y∉acc):po (.node c n y) acc=po y (po n acc)++[.node c n y]:=by
 rw[po,if_neg h]
def lf (Ls:List Nat):List (D×D):=Ls.map λ(k:Nat)=>(D.int k,D.bl true)
theorem gm (a b:Nat):dh (.int a) (.int b)=decide (a=b):=by
 unfold dh
 by_cases h:a=b
 ·simp[h]
 ·rw[decide_eq_false h]
  have:¬ ((a:Int)=b):=by omega
  simp[dE,this]
theorem sK (k:Nat):∀ Ls:List Nat,((lf Ls).find? λp=>dh p.1 (.int k)).isSome=decide (k∈Ls)
 |[]=>by simp[lf]
 |a::Ls=>by
  have ih:=sK k Ls
  unfold lf at ih ⊢
  rw[List.map_cons,List.find?_cons]
  simp only[gm]
  by_cases h:a=k
  ·simp[h]
  ·rw[decide_eq_false h]
   simp only
   rw[ih]
   have:¬ k=a:=λe=>h e.symm
   simp[this]
theorem zr (k:Nat)(Ls:List Nat):((lf Ls).any λp=>dh p.1 (.int k))=decide (k∈Ls):=by
 induction Ls with
 |nil=>simp[lf]
 |cons a Ls ih =>
  unfold lf at ih ⊢
  rw[List.map_cons,List.any_cons,ih,gm]
  by_cases h:a=k
  ·simp[h]
  ·have:¬ k=a:=λe=>h e.symm
   simp[h,this]
theorem zp {k:Nat}{Ls:List Nat}(h:k∉Ls):putD (lf Ls) (.int k) (.bl true)=lf (Ls++[k]):=by
 unfold putD
 rw[zr,decide_eq_false h,if_neg (by decide)]
 unfold lf;rw[List.map_append];rfl
theorem AF {S:Sto}{l:Nat}{Ls:List Nat}(h:S[l]?=some (.dict (lf Ls)))(k:Nat):inO true (.int k) (.loc l) S=some (.bl (!decide (k∈Ls))):=by
 unfold inO
 rw[if_pos rfl]
 unfold xN
 simp only[h,dE]
 unfold getD
 rw[Option.isSome_map,sK];rfl
structure Cl (G:List Row) (Ls:List Nat):Prop where
 nd:Ls.Nodup
 lt:∀ i∈Ls,i<G.length
 dn:∀ (p i c n y:Nat),Ls[p]?=some i->G[i]?=some (.ask c n y)->n∈Ls.take p/\y∈Ls.take p
theorem Cl.snoc {G:List Row}{Ls:List Nat}(h:Cl G Ls){j:Nat}(hj:j<G.length)(hn:j∉Ls)(hc:∀ c n y,G[j]?=some (.ask c n y)->n∈Ls/\y∈Ls):Cl G (Ls++[j]):=by
 refine⟨List.nodup_append.mpr ⟨h.nd,by simp,λa ha b hb=>?_⟩,λi hi=>?_,λp i c n y hp hg=>?_⟩
 ·rw[List.mem_singleton.mp hb];rintro rfl;exact hn ha
 ·rcases List.mem_append.mp hi with hi |hi
  ·exact h.lt i hi
  ·rw[List.mem_singleton.mp hi];exact hj
 ·rcases Nat.lt_trichotomy p Ls.length with hl |hl |hl
  ·rw[List.getElem?_append_left hl] at hp
   rw[List.take_append_of_le_length (Nat.le_of_lt hl)]
   exact h.dn p i c n y hp hg
  ·subst hl
   have:i=j:=by simpa using hp.symm
   subst this
   rw[List.take_append_of_le_length (Nat.le_refl _),List.take_length]
   exact hc c n y hg
  ·rw[List.getElem?_append_right (by omega)] at hp
   have:([j]:List Nat)[p-Ls.length]?=none:=by rw[List.getElem?_eq_none_iff];simp;omega
   rw[this] at hp;cases hp
section
variable {L:Nat}{o:List Nat}{G:List Row}
theorem wF (r:Row)(S:Sto):cz [aF r] S=okO (.tup (match r with | .leaf _=>[] | .ask _ n y=>[.int n,.int y])) S:=by
 have ea:=om r S
 refine az rfl ?_
 unfold iL
 cases r with
 |leaf ss =>
  have z0:szO [] (.tup [])=some (.tup []):=ca (by simp)
  simp[ea,z0]
 |ask c n y =>
  have:slD (aF (.ask c n y)) (some 1) none=some (.tup [.int n,.int y]):=rfl
  simp[ea,rh,this]
def tN (F:List D->Sto->Out D)(w:Nat)(N:Nat)(G:List Row)(o:List Nat)(g:Nat):Prop:=
 ∀ (j:Nat) (Ls:List Nat) (S:Sto) (l:Nat),o.length+1<=w+K13.pl o G j->j<G.length->j∉Ls->S[g]?=some (.lst (G.map aF))->S[l]?=some (.dict (lf Ls))->g≠l->Cl G Ls->Ls.length+N<=10000 ->
  ∃ X,F [.loc g,.int j,.loc l] S=okO .non (S.set l (.dict (lf (Ls++X++[j]))))/\Cl G (Ls++X++[j])/\(∀ x∈X,x<j)/\X.length+1<=N/\(Ls++X++[j]).map (K13.uT G)=po (K13.uT G j) (Ls.map (K13.uT G))
theorem k7 {F:List D->Sto->Out D}{w N g:Nat}(IH:tN F w N G o g)(j k:Nat)(Ls:List Nat)(S:Sto)(l:Nat)(hw:o.length+1<=w+K13.pl o G k)(hk:k<G.length)(hg:S[g]?=some (.lst (G.map aF)))(hl:S[l]?=some (.dict (lf Ls)))(hgl:g≠l)(hc:Cl G Ls)(hN:Ls.length+N<=10000) :
  ∃ X,bB F [some (.loc g),some (.int j),some (.loc l),some (.int k)] S=okO (.next [some (.loc g),some (.int j),some (.loc l),some (.int k)]) (S.set l (.dict (lf (Ls++X))))/\Cl G (Ls++X)/\(∀ x∈X,x<=k)/\k∈Ls++X/\X.length<=N/\(Ls++X).map (K13.uT G)=po (K13.uT G k) (Ls.map (K13.uT G)):=by
 have e1:=AF hl k
 by_cases hm:k∈Ls
 ·rw[decide_eq_true hm] at e1
  have hs:S.set l (.dict (lf (Ls++[])))=S:=by
   rw[List.append_nil]
   apply List.ext_getElem?
   intro i
   by_cases hi:l=i
   ·subst hi;rw[dH hl,hl]
   ·rw[cR hi]
  refine⟨[],?_,by rw[List.append_nil];exact hc,(λx hx=>by cases hx),by rw[List.append_nil];exact hm,by simp,by rw[List.append_nil,dZ (List.mem_map_of_mem hm)]⟩
  rw[hs]
  unfold bB
  simp[e1]
 ·rw[decide_eq_false hm] at e1
  obtain⟨X,q,c2,lx,nx,px⟩:=IH k Ls S l hw hk hm hg hl hgl hc hN
  refine⟨X++[k],?_,by rw[← List.append_assoc];exact c2,λx hx=>?_,by simp,by simpa using nx,by rw[← List.append_assoc];exact px⟩
  ·unfold bB
   simp[e1,q]
  ·rcases List.mem_append.mp hx with hx |hx
   ·exact Nat.le_of_lt (lx x hx)
   ·rw[List.mem_singleton.mp hx];exact Nat.le_refl _
theorem pF (w:Wf o G)(g:Nat):∀ fuel:Nat,tN (aQ fuel) fuel (2 ^ fuel-1) G o g
 | 0,j,Ls,S,l,hw,_,_,_,_,_,_,_=>absurd hw (by have:=Av o G j;omega)
 |n+1,j,Ls,S,l,hw,hj,hnm,hg,hl,hgl,hc,hN=>by
  have IH:=pF w g n
  have p2 : 2 ^ (n+1)=2*2 ^ n:=by rw[Nat.pow_succ];omega
  have p1 : 1<=2 ^ n:=Nat.one_le_two_pow
  have e:G[j]?=some G[j]:=List.getElem?_eq_getElem hj
  have q:=w.row j _ e
  have eg:da (.loc g) S=some (G.map aF):=by unfold da;simp only[hg]
  have er:pJ (.loc g) (.int j) S=some (aF G[j]):=by
   show ((da (.loc g) S).bind λxs=>atI xs (j:Int))=_
   rw[eg,Option.bind_some]
   exact bL (by rw[List.getElem?_map,e];rfl)
  have eb:=wF G[j] S
  have il:bN (.loc g)=true:=rfl
  have kd:∀ k:Nat,dE (.int k)=some (.inl (k:Int)):=λk=>rfl
  have finish:∀ (Ls':List Nat) (S':Sto) (z:Option D),S'=S.set l (.dict (lf Ls'))->j∉Ls'->Ls'.length<=20000->rK (af 2) (af 1) (aD (.bl true)) [some (.loc g),some (.int j),some (.loc l),z] S'=okO (.next [some (.loc g),some (.int j),some (.loc l),z]) (S.set l (.dict (lf (Ls'++[j])))):=by
   intro Ls' S' z hS hn hlen
   have h1:S'[l]?=some (.dict (lf Ls')):=by rw[hS];exact dH hl
   have hz:(lf Ls').length<sizeLine:=by
    unfold lf;rw[List.length_map];exact Nat.lt_of_le_of_lt hlen (by decide)
   have:oZ (.loc l) (.int j) (.bl true) [some (.loc g),some (.int j),some (.loc l),z] S'=okO (.next [some (.loc g),some (.int j),some (.loc l),z]) (S.set l (.dict (lf (Ls'++[j])))):=by
    unfold oZ
    simp only[h1,kd]
    rw[if_pos hz,zp hn,hS,List.set_set]
   simp[this]
  cases hr:G[j] with
  |leaf ss =>
   rw[hr] at eb er
   have fin:=finish Ls S none (by
    apply List.ext_getElem?
    intro i
    by_cases hi:l=i
    ·subst hi;rw[dH hl,hl]
    ·rw[cR hi]) hnm (by omega)
   have ut:K13.uT G j = .leaf ss:=(Un.leaf (by rw[e,hr])).uT
   have hnu:Tr.leaf ss∉Ls.map (K13.uT G):=λh=>hnm (uZ w hc.lt hj (by rw[ut];exact h))
   refine⟨[],?_,?_,(λx hx=>by cases hx),by simp;omega,by rw[List.append_nil,ut,gu hnu,List.map_append,List.map_cons,List.map_nil,ut]⟩
   ·rw[List.append_nil]
    unfold aQ bh
    rw[if_pos (show ([.loc g,.int j,.loc l]:List D).length=3 from rfl)]
    have:cP (aQ n) ([.loc g,.int j,.loc l].map some++List.replicate 1 none) S=okO (.next [some (.loc g),some (.int j),some (.loc l),none]) (S.set l (.dict (lf (Ls++[j])))):=by
     unfold cP
     show aN _ _ [some (.loc g),some (.int j),some (.loc l),none] S=_
     rw[wl]
     have:fX (cY (bi cz (ah (uR (af 0) (af 1)) aC))) (aH 3) (bB (aQ n)) [some (.loc g),some (.int j),some (.loc l),none] S=okO (.next [some (.loc g),some (.int j),some (.loc l),none]) S:=by
      simp[il,er,eb,eX,dL]
     rw[this]
     exact fin
    rw[this];rfl
   ·rw[List.append_nil]
    exact hc.snoc hj hnm λc n y h=>by rw[e,hr] at h;cases h
  |ask c k1 k2 =>
   rw[hr] at eb er q
   obtain⟨_,b1,b2,b3,b4,_⟩:=q
   have pj:K13.pl o G j=o.idxOf c:=by unfold K13.pl;rw[e,hr]
   obtain⟨X1,q1,c1,lx1,m1,n1,t1⟩:=k7 IH j k1 Ls S l (by omega) (by omega) hg hl hgl hc (by omega)
   have hg1:(S.set l (.dict (lf (Ls++X1))))[g]?=some (.lst (G.map aF)):=by rw[cR (Ne.symm hgl)];exact hg
   have hl1:(S.set l (.dict (lf (Ls++X1))))[l]?=some (.dict (lf (Ls++X1))):=dH hl
   obtain⟨X2,q2,c2,lx2,m2,n2,t2⟩:=k7 IH j k2 (Ls++X1) _ l (by omega) (by omega) hg1 hl1 hgl c1 (by rw[List.length_append];omega)
   rw[List.set_set] at q2
   have hn2:j∉Ls++X1++X2:=by
    intro hm
    rcases List.mem_append.mp hm with hm |hm
    ·rcases List.mem_append.mp hm with hm |hm
     ·exact hnm hm
     ·have:=lx1 j hm;omega
    ·have:=lx2 j hm;omega
   have fin:=finish (Ls++X1++X2) _ (some (.int k2)) rfl hn2 (by rw[List.length_append,List.length_append];omega)
   have ut:K13.uT G j = .node c (K13.uT G k1) (K13.uT G k2):=(Un.node (by rw[e,hr]) (w.uT (by omega)) (w.uT (by omega))).uT
   have hnu:Tr.node c (K13.uT G k1) (K13.uT G k2)∉Ls.map (K13.uT G):=λh=>hnm (uZ w hc.lt hj (by rw[ut];exact h))
   refine⟨X1++X2,?_,?_,λx hx=>?_,by rw[List.length_append];omega,by rw[← List.append_assoc,List.map_append,t2,t1,ut,gq hnu,List.map_cons,List.map_nil,ut]⟩
   ·unfold aQ bh
    rw[if_pos (show ([.loc g,.int j,.loc l]:List D).length=3 from rfl)]
    have:cP (aQ n) ([.loc g,.int j,.loc l].map some++List.replicate 1 none) S=okO (.next [some (.loc g),some (.int j),some (.loc l),some (.int k2)]) (S.set l (.dict (lf (Ls++(X1++X2)++[j])))):=by
     unfold cP
     show aN _ _ [some (.loc g),some (.int j),some (.loc l),none] S=_
     rw[wl]
     have:fX (cY (bi cz (ah (uR (af 0) (af 1)) aC))) (aH 3) (bB (aQ n)) [some (.loc g),some (.int j),some (.loc l),none] S=okO (.next [some (.loc g),some (.int j),some (.loc l),some (.int k2)]) (S.set l (.dict (lf (Ls++X1++X2)))):=by
      simp[il,er,eb,eX,dL,q1,q2]
     rw[this]
     simp only[cu]
     rw[← List.append_assoc Ls X1 X2]
     exact fin
    rw[this];rfl
   ·rw[← List.append_assoc]
    refine c2.snoc hj hn2 λc' n y h=>?_
    rw[e,hr] at h
    cases h
    exact⟨List.mem_append_left _ m1,m2⟩
   ·rcases List.mem_append.mp hx with hx |hx
    ·have:=lx1 x hx;omega
    ·have:=lx2 x hx;omega
end
def aM (p:Nat):List Nat->List (D×D)
 |[]=>[]
 |k::r=>(.int k,.int p)::aM (p+1) r
theorem vJ:∀ (l:List Nat) (p:Nat),(aM p l).length=l.length
 |[],_=>rfl
 |k::r,p=>by rw[aM,List.length_cons,List.length_cons,vJ r]
theorem vL (k:Nat):∀ (l:List Nat) (p:Nat),((aM p l).any λq=>dh q.1 (.int k))=decide (k∈l)
 |[],_=>by simp[aM]
 |a::l,p=>by
  rw[aM,List.any_cons,vL k l,gm]
  by_cases h:a=k
  ·simp[h]
  ·have:¬ k=a:=λe=>h e.symm
   simp[h,this]
theorem vK (k:Nat):∀ (l:List Nat) (p:Nat),getD (aM p l) (.int k)=if k∈l then some (.int ((p+l.idxOf k:Nat):Int)) else none
 |[],_=>rfl
 |a::l,p=>by
  have ih:=vK k l (p+1)
  unfold L2.getD at ih ⊢
  rw[aM,List.find?_cons]
  simp only[gm]
  by_cases h:a=k
  ·subst h;simp
  ·rw[decide_eq_false h]
   simp only
   rw[ih]
   have h':¬ k=a:=λe=>h e.symm
   have eb:(a==k)=false:=by simpa using h
   by_cases hm:k∈l
   ·rw[if_pos hm,if_pos (List.mem_cons_of_mem _ hm),List.idxOf_cons,eb]
    simp only[cond_false]
    congr 2
    omega
   ·rw[if_neg hm,if_neg (by rw[List.mem_cons];exact λq=>q.elim h' hm)]
theorem sG:∀ (l:List Nat) (p k:Nat),aM p (l++[k])=aM p l++[(.int k,.int ((p+l.length:Nat):Int))]
 |[],p,k=>rfl
 |a::l,p,k=>by
  rw[List.cons_append,aM,sG l (p+1) k,aM,List.cons_append,List.length_cons,show p+1+l.length=p+(l.length+1) by omega]
theorem zn {k:Nat}{l:List Nat}(h:k∉l):putD (aM 0 l) (.int k) (.int l.length)=aM 0 (l++[k]):=by
 unfold putD
 rw[vL,decide_eq_false h,if_neg (by decide),sG,Nat.zero_add]
def ren (Ls:List Nat):Row->Row
 | .leaf ss => .leaf ss
 | .ask c n y => .ask c (Ls.idxOf n) (Ls.idxOf y)
def FR (Ls:List Nat)(G:List Row):List Row:=Ls.map λk=>ren Ls ((G[k]?).getD (.leaf []))
def Wr (o:List Nat)(G:List Row):Prop:=∀ (i:Nat) (r:Row),G[i]?=some r->RowIn o G i r
section
variable {B:Sto}{L:Nat}{o:List Nat}{G:List Row}
theorem lK {Ls:List Nat}(h:Cl G Ls){p k:Nat}(hp:Ls[p]?=some k):∃ r,G[k]?=some r/\(FR Ls G)[p]?=some (ren Ls r):=by
 have hk:=h.lt k (List.mem_of_getElem? hp)
 refine⟨G[k],List.getElem?_eq_getElem hk,?_⟩
 unfold FR
 rw[List.getElem?_map,hp,Option.map_some,List.getElem?_eq_getElem hk];rfl
theorem db {Ls:List Nat}{k:Nat}(h:k∈Ls):Ls[Ls.idxOf k]?=some k:=by
 have hl:=List.idxOf_lt_length_iff.mpr h
 rw[List.getElem?_eq_getElem hl,List.getElem_idxOf hl]
theorem yu {Ls:List Nat}(h:Cl G Ls){k:Nat}(hk:k∈Ls):K13.pl o (FR Ls G) (Ls.idxOf k)=K13.pl o G k:=by
 obtain⟨r,e1,e2⟩:=lK h (db hk)
 unfold K13.pl
 rw[e1,e2]
 cases r<;>rfl
theorem rm {Ls:List Nat}{k p:Nat}(h:k∈Ls.take p):Ls.idxOf k<p:=by
 have h1:(Ls.take p).idxOf k<(Ls.take p).length:=List.idxOf_lt_length_iff.mpr h
 have h2:(Ls.take p).length<=p:=List.length_take_le ..
 have e:Ls.idxOf k=(Ls.take p).idxOf k:=by
  conv=>lhs;rw[← List.take_append_drop p Ls]
  rw[List.idxOf_append,if_pos h]
 omega
theorem yt {Ls:List Nat}(w:Wf o G)(h:Cl G Ls):Wr o (FR Ls G):=by
 intro p r hp
 have hpl:p<Ls.length:=by
  have:=(List.getElem?_eq_some_iff.mp hp).1
  simpa [FR] using this
 obtain⟨r0,e1,e2⟩:=lK h (List.getElem?_eq_getElem hpl)
 rw[e2] at hp
 cases hp
 have q:=w.row _ _ e1
 cases r0 with
 |leaf ss=>exact q
 |ask c n y =>
  obtain⟨a1,a2,a3,a4,a5,a6⟩:=q
  obtain⟨d1,d2⟩:=h.dn p _ c n y (List.getElem?_eq_getElem hpl) e1
  have m1:=List.mem_of_mem_take d1
  have m2:=List.mem_of_mem_take d2
  refine⟨a1,rm d1,rm d2,by rw[yu h m1];exact a4,by rw[yu h m2];exact a5,λe=>a6 ?_⟩
  have g1:=db m1
  have g2:=db m2
  rw[e,g2] at g1
  exact (Option.some.inj g1).symm
theorem yv {Ls:List Nat}(h:Cl G Ls){th:Th}{i:Nat}{ss:List Str}(e:Ev G th i ss):i∈Ls->Ev (FR Ls G) th (Ls.idxOf i) ss:=by
 induction e with
 | @leaf i ss hg =>
  intro hi
  obtain⟨r,e1,e2⟩:=lK h (db hi)
  rw[hg] at e1
  cases e1
  exact .leaf e2
 | @no i c n y ss hg ht _ ih =>
  intro hi
  obtain⟨r,e1,e2⟩:=lK h (db hi)
  rw[hg] at e1
  cases e1
  obtain⟨d1,d2⟩:=h.dn _ _ c n y (db hi) hg
  exact .no e2 ht (ih (List.mem_of_mem_take d1))
 | @yes i c n y ss hg ht _ ih =>
  intro hi
  obtain⟨r,e1,e2⟩:=lK h (db hi)
  rw[hg] at e1
  cases e1
  obtain⟨d1,d2⟩:=h.dn _ _ c n y (db hi) hg
  exact .yes e2 ht (ih (List.mem_of_mem_take d2))
theorem uA (w:Wf o G)(ho:o.length<=8){S:Sto}{g i:Nat}(hg:S[g]?=some (.lst (G.map aF)))(hi:i<G.length):∃ X,dB [.loc g,.int i] S=okO (.lst ((X++[i]).map λ(k:Nat)=>D.int k)) (S++[.dict (lf (X++[i]))])/\Cl G (X++[i])/\X.length<=1022/\(X++[i]).map (K13.uT G)=po (K13.uT G i) []:=by
 have hgl:g<S.length:=(List.getElem?_eq_some_iff.mp hg).1
 have hg1:(S++[MO.dict (lf [])])[g]?=some (.lst (G.map aF)):=by rw[List.getElem?_append_left hgl];exact hg
 have hl1:(S++[MO.dict (lf [])])[S.length]?=some (.dict (lf [])):=by simp
 obtain⟨X,q,c,_,n,px⟩:=pF w g 10 i [] (S++[.dict (lf [])]) S.length (by omega) hi (by simp) hg1 hl1 (by omega) ⟨List.nodup_nil,(λi h=>by cases h),(λp i c n y h=>by simp at h)⟩ (by decide)
 rw[List.nil_append] at q c px
 have es:(S++[MO.dict (lf [])]).set S.length (.dict (lf (X++[i])))=S++[.dict (lf (X++[i]))]:=by simp
 rw[es] at q
 have n:X.length<=1022:=by
  have:X.length+1<=1023:=n
  omega
 have q:aQ 10 [.loc g,.int i,.loc S.length] (S++[.dict []])=okO .non (S++[.dict (lf (X++[i]))]):=q
 have hz:(lf (X++[i])).length<=sizeLine:=by
  unfold lf;rw[List.length_map,List.length_append]
  exact Nat.le_trans (show X.length+1<=2000 by omega) (by decide)
 have el:eL (.loc S.length) (S++[.dict (lf (X++[i]))])=some (.lst ((X++[i]).map λ(k:Nat)=>D.int k)):=by
  unfold eL
  simp only[List.getElem?_concat_length]
  rw[if_pos hz]
  unfold lf;rw[List.map_map];rfl
 refine⟨X,az rfl ?_,c,n,px⟩
 unfold fT
 simp[q,el,-List.map_append]
theorem wS {S:Sto}{l:Nat}{Ls:List Nat}(hl:S[l]?=some (.dict (aM 0 Ls)))(r:Row)(hr:∀ c n y,r = .ask c n y->n∈Ls/\y∈Ls):dA [aF r,.loc l] S=okO (aF (ren Ls r)) S:=by
 have ea:=om r S
 refine az rfl ?_
 unfold fS
 cases r with
 |leaf ss=>simp[ea,ren]
 |ask c n y =>
  obtain⟨h1,h2⟩:=hr c n y rfl
  have e0:ixO (aF (.ask c n y)) (.int 0) S=some (.int c):=at0 _ _ S
  have e1:ixO (aF (.ask c n y)) (.int 1) S=some (.int n):=at1 _ _ _ S
  have e2:ixO (aF (.ask c n y)) (.int 2) S=some (.int y):=at2 _ _ _ _ S
  have gt:∀ k,k∈Ls->ixO (.loc l) (.int (k:Nat)) S=some (.int (Ls.idxOf k:Nat)):=λk hk=>by
   have:=vK k Ls 0
   rw[if_pos hk,Nat.zero_add] at this
   unfold ixO;rw[if_pos (show bN (.loc l)=true from rfl)]
   unfold tj
   simp only[hl,dE]
   exact this
  have z3:szO [.int c,.int (Ls.idxOf n:Nat),.int (Ls.idxOf y:Nat)] (.tup [.int c,.int (Ls.idxOf n:Nat),.int (Ls.idxOf y:Nat)])=some (aF (ren Ls (.ask c n y))):=ca (by simp)
  simp[ea,e0,e1,e2,gt n h1,gt y h2,z3]
  rfl
theorem fold_eq {S:Sto}{C:List (Row×Nat)}(h:SR B S L o G C)(w:Wf o G)(ho:o.length<=8){i:Nat}(hi:i<G.length):∃ Ls S',cH [.loc L,.int i] S=okO (.tup ((FR (Ls++[i]) G).map aF)) S'/\Cl G (Ls++[i])/\Ls.length<=1022/\(Ls++[i]).map (K13.uT G)=po (K13.uT G i) []/\S'.take L=B:=by
 obtain⟨X,q,c,nX,px⟩:=uA w ho h.gat hi
 generalize hLs:X++[i]=Ls at *
 have lLs:Ls.length<=1023:=by rw[← hLs,List.length_append];simp;omega
 generalize hS1:S++[MO.dict (lf Ls)]=S1 at *
 have sr1:SR B S1 L o G C:=by
  have hlt:L+3<S.length:=(List.getElem?_eq_some_iff.mp h.cho).1
  refine⟨?_,?_,?_,?_,by rw[← hS1,List.take_append_of_le_length (by omega)];exact h.fr⟩<;>rw[← hS1,List.getElem?_append_left (by omega)]
  ·exact h.obj
  ·exact h.gat
  ·exact h.num
  ·exact h.cho
 have hlt1:L+3<S1.length:=(List.getElem?_eq_some_iff.mp sr1.cho).1
 have kd:∀ k:Nat,dE (.int k)=some (.inl (k:Int)):=λk=>rfl
 obtain⟨ρ',S',el,hI⟩:=ck (u:=kC 2 (aU (aH 4) (aU (aH 5) gN))) (body:=bX)
  (λp ρ S'=>p<=Ls.length/\S'=S1++[.dict (aM 0 (Ls.take p))]/\∃ a b,ρ=[some (.loc L),some (.int i),some (.lst (Ls.map λ(k:Nat)=>D.int k)),some (.loc S1.length),a,b])
  (b7 0 (Ls.map λ(k:Nat)=>D.int k)) 0 [some (.loc L),some (.int i),some (.lst (Ls.map λ(k:Nat)=>D.int k)),some (.loc S1.length),none,none] (S1++[.dict []]) ⟨by omega,rfl,none,none,rfl⟩ (by
   rintro p dd ρ S' hp ⟨hpl,rfl,a,b,rfl⟩
   rw[eQ] at hp
   obtain⟨x,hx,rfl⟩:=Option.map_eq_some_iff.mp hp
   rw[List.getElem?_map] at hx
   obtain⟨k,hk,rfl⟩:=Option.map_eq_some_iff.mp hx
   have hpl2:p<Ls.length:=(List.getElem?_eq_some_iff.mp hk).1
   simp only[Nat.zero_add] at *
   have hkn:k∉Ls.take p:=by
    intro hm
    have h1:=rm hm
    have h2:Ls.idxOf k=p:=by
     have:=(List.getElem?_eq_some_iff.mp hk).2
     rw[← this];exact c.nd.idxOf_getElem p hpl2
    omega
   have lt:(Ls.take p).length=p:=by rw[List.length_take];omega
   have tk:Ls.take (p+1)=Ls.take p++[k]:=by
    rw[List.take_succ,hk];rfl
   have hz:(aM 0 (Ls.take p)).length<sizeLine:=by rw[vJ,lt];exact Nat.lt_of_lt_of_le (show p<2000 by omega) (by decide)
   have hg:(S1++[MO.dict (aM 0 (Ls.take p))])[S1.length]?=some (.dict (aM 0 (Ls.take p))):=by simp
   have np:=zn hkn
   rw[lt] at np
   have ep:∀ ρ,oZ (.loc S1.length) (.int k) (.int p) ρ (S1++[.dict (aM 0 (Ls.take p))])=okO (.next ρ) (S1++[.dict (aM 0 (Ls.take (p+1)))]):=λρ=>by
    unfold oZ
    simp only[hg,kd]
    rw[if_pos hz,np,tk]
    simp
   refine⟨[some (.loc L),some (.int i),some (.lst (Ls.map λ(k:Nat)=>D.int k)),some (.loc S1.length),some (.int p),some (.int k)],rfl,[some (.loc L),some (.int i),some (.lst (Ls.map λ(k:Nat)=>D.int k)),some (.loc S1.length),some (.int p),some (.int k)],S1++[.dict (aM 0 (Ls.take (p+1)))],?_,by omega,rfl,some (.int p),some (.int k),rfl⟩
   unfold bX
   simp[ep])
 simp only[Nat.zero_add,ba,List.length_map,List.take_length] at hI
 obtain⟨_,rfl,a,b,rfl⟩:=hI
 have sr2:SR B (S1++[.dict (aM 0 Ls)]) L o G C:=by
  refine⟨?_,?_,?_,?_,by rw[List.take_append_of_le_length (by omega)];exact sr1.fr⟩<;>rw[List.getElem?_append_left (by omega)]
  ·exact sr1.obj
  ·exact sr1.gat
  ·exact sr1.num
  ·exact sr1.cho
 have hnl:(S1++[MO.dict (aM 0 Ls)])[S1.length]?=some (.dict (aM 0 Ls)):=by simp
 have cq:=jz (u:=aH 0) (fe:=bv) (λρ => ∃ y,ρ=[y,some (.loc S1.length),some (.loc L)]) (λd=>match d with | .int k=>aF (ren Ls ((G[k.toNat]?).getD (.leaf []))) |_ => .non) (S1++[.dict (aM 0 Ls)]) (Ls.map λ(k:Nat)=>D.int k)
  (d4 1 [3,0] [some (.loc L),some (.int i),some (.lst (Ls.map λ(k:Nat)=>D.int k)),some (.loc S1.length),a,b]) ⟨none,rfl⟩ (by
   rintro d hd ρ ⟨y,rfl⟩
   obtain⟨k,hk,rfl⟩:=List.mem_map.mp hd
   refine⟨_,rfl,⟨_,rfl⟩,?_⟩
   have hkl:=c.lt k hk
   have e:G[k]?=some G[k]:=List.getElem?_eq_getElem hkl
   have er:=sr2.row e
   have ew:=wS hnl G[k] λc' n y hr=>by
    obtain⟨d1,d2⟩:=c.dn _ k c' n y (db hk) (by rw[e,hr])
    exact⟨List.mem_of_mem_take d1,List.mem_of_mem_take d2⟩
   have eR:(G[(k:Int).toNat]?).getD (.leaf [])=G[k]:=by rw[Int.toNat_natCast,e];rfl
   show bv [some (.int k),some (.loc S1.length),some (.loc L)] (S1++[.dict (aM 0 Ls)])=okO (aF (ren Ls ((G[(k:Int).toNat]?).getD (.leaf [])))) (S1++[.dict (aM 0 Ls)])
   rw[eR]
   unfold bv
   simp[sr2.f_gat,er,ew])
 have em:(Ls.map λ(k:Nat)=>D.int k).map (λd=>match d with | .int k=>aF (ren Ls ((G[k.toNat]?).getD (.leaf []))) |_ => .non)=(FR Ls G).map aF:=by
  unfold FR
  rw[List.map_map,List.map_map]
  refine List.map_congr_left λk _=>?_
  simp
 rw[em] at cq
 refine⟨X,S1++[.dict (aM 0 Ls)],?_,by rw[hLs];exact c,nX,by rw[hLs];exact px,sr2.fr⟩
 rw[hLs]
 refine az rfl ?_
 have ee:n6 [.lst (Ls.map λ(k:Nat)=>D.int k)]=some (b7 0 (Ls.map λ(k:Nat)=>D.int k)):=rfl
 unfold eO
 simp[h.f_gat,q,ee,el,eX,cq,lT,-List.map_map]
end
theorem iz (S r:Sto)(fs:List (Str×D))(f:Str)(v:D)(ρ:Rho)(h:fs.length<1000):kK "Rows" f (.loc S.length) v ρ (S++MO.ins "Rows" fs::r)=okO (.next ρ) (S++MO.ins "Rows" (jO f v fs)::r):=by
 have e:(S++MO.ins "Rows" fs::r)[S.length]?=some (.ins "Rows" fs):=by simp
 unfold kK
 simp only[e]
 rw[if_pos ⟨trivial,h⟩]
 simp
theorem rn1:¬ ("order":Str)="gathered":=by decide +kernel
theorem rn2:¬ ("order":Str)="numbers":=by decide +kernel
theorem rn3:¬ ("gathered":Str)="numbers":=by decide +kernel
theorem rn4:¬ ("order":Str)="choices":=by decide +kernel
theorem rn5:¬ ("gathered":Str)="choices":=by decide +kernel
theorem rn6:¬ ("numbers":Str)="choices":=by decide +kernel
theorem oW (S:Sto)(o:List Nat):aW [.loc S.length,oD o] (S++[.ins "Rows" []])=okO .non (S++[RO o S.length,.lst [],.dictN [],.dictN []]):=by
 have s1:=λρ=>iz S [] [] "order" (oD o) ρ (by decide)
 have s2:=λρ=>iz S [.lst []] [("order",oD o)] "gathered" (.loc (S.length+1)) ρ (by simp)
 have s3:=λρ=>iz S [.lst [],.dictN []] [("order",oD o),("gathered",.loc (S.length+1))] "numbers" (.loc (S.length+2)) ρ (by simp)
 have s4:=λρ=>iz S [.lst [],.dictN [],.dictN []] [("order",oD o),("gathered",.loc (S.length+1)),("numbers",.loc (S.length+2))] "choices" (.loc (S.length+3)) ρ (by simp)
 simp only[jO,rn1,rn2,rn3,rn4,rn5,rn6,if_false] at s1 s2 s3 s4
 unfold aW bh
 rw[if_pos (show ([.loc S.length,oD o]:List D).length=2 from rfl)]
 have:cW ([.loc S.length,oD o].map some++List.replicate 0 none) (S++[.ins "Rows" []])=okO (.next [some (.loc S.length),some (oD o)]) (S++[RO o S.length,.lst [],.dictN [],.dictN []]):=by
  unfold cW
  simp[s1,s2,s3,s4]
 rw[this];rfl
theorem z9 {o:List Nat}(nd:o.Nodup)(hl:o.length<=8){m:Nat}(ho:∀ c,c<m->c∈o){k:Nat}(hk:k<=12){d:D}(hd:KQ m k d)(S:Sto) :
  ∃ R S',eU [d,oD o] S=okO (.tup (R.map aF)) S'/\R≠[]/\Wr o R/\∀ th ss,Kv th d ss->Ev R th (R.length-1) ss:=by
 have ei:=oW S o
 have sr0:SR S (S++[RO o S.length,.lst [],.dictN [],.dictN []]) S.length o [] []:=by
  refine⟨by simp,?_,?_,?_,by simp⟩
  ·rw[List.getElem?_append_right (by omega)];simp
  ·rw[List.getElem?_append_right (by omega)];simp;rfl
  ·rw[List.getElem?_append_right (by omega)];simp;rfl
 generalize (S++[RO o S.length,.lst [],.dictN [],.dictN []])=S0 at *
 have w0:Wf o ([]:List Row):=⟨List.nodup_nil,λi r h=>by simp at h⟩
 have p12 : 2 ^ (k+1)<=2 ^ 13:=Nat.pow_le_pow_right (by decide) (by omega)
 have e13 : 2 ^ 13=8192:=rfl
 obtain⟨S1,E,C1,r,q1,sr1,w1,_,v1,_,_,sem⟩:=sH nd hl ho hd 15 (by omega) sr0 w0 (λp hp=>by cases hp) (by simp;omega) (by simp;omega)
 rw[List.nil_append] at sr1 w1 v1 sem
 obtain⟨X,S2,q2,c,_,px⟩:=fold_eq sr1 w1 hl v1
 have hm:=sr0.has "fold_from" (by decide +kernel)
 refine⟨FR (X++[r]) E,S2,az rfl ?_,by simp[FR],yt w1 c,λth ss kv=>?_⟩
 ·have em:m9 "Rows" aW (ah (af 1) aC) [some d,some (oD o),none] S=okO (.loc S.length) S0:=by
   unfold m9
   simp only[wm,yr,cu]
   have:af 1 [some d,some (oD o),none] S=okO (oD o) S:=rfl
   rw[this]
   simp only[cu]
   rw[ei];rfl
  unfold lj
  simp[em,hm,q1,q2]
 ·have e:=yv c (sem th ss kv) (by simp)
  have hr:r∉X:=by
   have:=(List.nodup_append.mp c.nd).2.2
   intro hm
   exact this r hm r (by simp) rfl
  have ix:(X++[r]).idxOf r=(FR (X++[r]) E).length-1:=by
   rw[List.idxOf_append,if_neg hr]
   simp[FR]
  rw[ix] at e;exact e
def f_ (m:Nat)(ts:List Int):Prop:=ts.length=m/\∀ x∈ts,x=0∨x=1
def tv (ts:List Int):Th:=λc=>decide (ts.getD c 0=1)
abbrev thD (ts:List Int):D:=.tup (ts.map .int)
theorem Ab {m:Nat}{ts:List Int}(h:f_ m ts){c:Nat}(hc:c<m)(S:Sto):ixO (thD ts) (.int c) S=some (.int (if tv ts c=true then 1 else 0)):=by
 have hl:c<ts.length:=by rw[h.1];exact hc
 have e:ts[c]?=some ts[c]:=List.getElem?_eq_getElem hl
 unfold ixO
 rw[if_neg (by simp[bN])]
 show atI (ts.map D.int) (c:Int)=_
 rw[bL (v:=.int ts[c]) (by rw[List.getElem?_map,e];rfl)]
 have hv:tv ts c=decide (ts[c]=1):=by unfold tv;rw[List.getD,e];rfl
 rw[hv]
 rcases h.2 ts[c] (List.getElem_mem hl) with q |q<;>simp[q]
theorem xH {th:Th}{ss ss':List Str}(h:Kv th (aF (.leaf ss)) ss'):ss'=ss:=by
 generalize hD:aF (.leaf ss)=D0 at h
 cases h with
 |leaf =>
  simp only[aF,D.tup.injEq,List.cons.injEq,and_true,true_and] at hD
  exact ((List.map_inj_right (λa b h=>by cases h;rfl)).mp hD).symm
 |no=>simp[aF] at hD
 |yes=>simp[aF] at hD
theorem KQ.total {m k:Nat}{d:D}(h:KQ m k d)(th:Th):∃ ss,Kv th d ss:=by
 induction h with
 |leaf _ _=>exact⟨_,.leaf⟩
 | @ask k c x y _ _ _ ix iy =>
  obtain⟨a,ha⟩:=ix
  obtain⟨b,hb⟩:=iy
  cases ht:th c with
  |false=>exact⟨a,.no ht ha⟩
  |true=>exact⟨b,.yes ht hb⟩
section
variable {m:Nat}{ts:List Int}
theorem qh (ht:f_ m ts)(S:Sto){k:Nat}{d:D}(h:KQ m k d):∀ {ss:List Str}{fuel:Nat},Kv (tv ts) d ss->k<fuel->dC fuel [d,thD ts] S=okO (.tup (ss.map .str)) S:=by
 induction h with
 | @leaf k ss0 _ _ =>
  intro ss fuel kv hf
  rw[xH kv]
  obtain⟨fuel,rfl⟩:∃ f,fuel=f+1:=⟨fuel-1,by omega⟩
  have e0:ixO (aF (.leaf ss0)) (.int 0) S=some (.str "names"):=at0 _ _ S
  have e1:ixO (aF (.leaf ss0)) (.int 1) S=some (.tup (ss0.map .str)):=at1 _ _ _ S
  have en:=eqs "names" "names"
  rw[decide_eq_true rfl] at en
  refine az rfl ?_
  unfold g7
  simp[e0,e1,en]
 | @ask k c x y hc _ _ ix iy =>
  intro ss fuel kv hf
  obtain⟨fuel,rfl⟩:∃ f,fuel=f+1:=⟨fuel-1,by omega⟩
  have en:=eqs "ask" "names"
  rw[decide_eq_false tJ] at en
  have ea:=Ab ht hc S
  refine az rfl ?_
  unfold g7
  cases kv with
  |no hv kv =>
   rw[hv] at ea
   have r:=ix (fuel:=fuel) kv (by omega)
   simp[at0,at1,at2,en,ea,r]
  |yes hv kv =>
   rw[hv] at ea
   have r:=iy (fuel:=fuel) kv (by omega)
   simp[at0,at1,at3,en,ea,r]
variable {o:List Nat}{R:List Row}
end
theorem g6 {α β:Type}[DecidableEq α][DecidableEq β](f : α->β)(x : α):∀ (l:List α),(∀ a∈l,f a=f x->a=x)->(l.map f).idxOf (f x)=l.idxOf x
 |[],_=>rfl
 |a::l,h=>by
  have ih:=g6 f x l λb hb=>h b (List.mem_cons_of_mem _ hb)
  rw[List.map_cons,List.idxOf_cons,List.idxOf_cons,ih]
  by_cases e:a=x
  ·subst e;simp
  ·have e2:¬ f a=f x:=λq=>e (h a (List.mem_cons_self ..) q)
   have b1:(a==x)=false:=by simpa using e
   have b2:(f a==f x)=false:=by simpa using e2
   rw[b1,b2]
theorem z6 {o:List Nat}{G:List Row}(w:Wf o G){Ls:List Nat}(c:Cl G Ls):FR Ls G=enc (Ls.map (K13.uT G)):=by
 unfold FR enc
 rw[List.map_map]
 refine List.map_congr_left λk hk=>?_
 have hkl:=c.lt k hk
 have e:G[k]?=some G[k]:=List.getElem?_eq_getElem hkl
 have q:=w.row k _ e
 simp only[Function.comp,e,Option.getD_some]
 cases hr:G[k] with
 |leaf ss =>
  have ut:K13.uT G k = .leaf ss:=(Un.leaf (by rw[e,hr])).uT
  rw[ut];rfl
 |ask a n y =>
  rw[hr] at q
  obtain⟨_,hn,hy,_⟩:=q
  have ut:K13.uT G k = .node a (K13.uT G n) (K13.uT G y):=(Un.node (by rw[e,hr]) (w.uT (by omega)) (w.uT (by omega))).uT
  rw[ut]
  show Row.ask a (Ls.idxOf n) (Ls.idxOf y)=Row.ask a ((Ls.map (K13.uT G)).idxOf (K13.uT G n)) ((Ls.map (K13.uT G)).idxOf (K13.uT G y))
  rw[g6 (K13.uT G) n Ls λb hb=>qv w (c.lt b hb) (by omega),g6 (K13.uT G) y Ls λb hb=>qv w (c.lt b hb) (by omega)]
def qm:Tr->Prop
 | .leaf ss=>(∀ x∈ss,cB x=true)/\adj ss=true
 | .node _ n y=>qm n/\qm y
theorem Un.ord {o:List Nat}{G:List Row}(w:Wf o G){i:Nat}{t:Tr}(h:Un G i t):Ord o t/\qm t:=by
 induction h with
 |leaf h=>exact⟨trivial,w.row _ _ h⟩
 | @node i c n y s t h hs ht i1 i2 =>
  obtain⟨a1,a2,a3,a4,a5,a6⟩:=w.row _ _ h
  refine⟨⟨a1,i1.1,i2.1,by rw[← hs.pl];exact a4,by rw[← ht.pl];exact a5,λe=>a6 ?_⟩,i1.2,i2.2⟩
  subst e
  exact Un.inj w.nd hs ht
theorem mU {o:List Nat}(nd:o.Nodup)(hl:o.length<=8){m:Nat}(ho:∀ c,c<m->c∈o){k:Nat}(hk:k<=12){d:D}(hd:KQ m k d)(S:Sto) :
  ∃ t S',eU [d,oD o] S=okO (.tup ((enc (po t [])).map aF)) S'/\Ord o t/\qm t/\Wr o (enc (po t []))/\(∀ th,Ev (enc (po t [])) th ((enc (po t [])).length-1) (tev t th))/\(∀ th ss,Kv th d ss->tev t th=ss)/\(po t []).length<=1023/\S'.take S.length=S:=by
 have ei:=oW S o
 have sr0:SR S (S++[RO o S.length,.lst [],.dictN [],.dictN []]) S.length o [] []:=by
  refine⟨by simp,?_,?_,?_,by simp⟩
  ·rw[List.getElem?_append_right (by omega)];simp
  ·rw[List.getElem?_append_right (by omega)];simp;rfl
  ·rw[List.getElem?_append_right (by omega)];simp;rfl
 generalize (S++[RO o S.length,.lst [],.dictN [],.dictN []])=S0 at *
 have w0:Wf o ([]:List Row):=⟨List.nodup_nil,λi r h=>by simp at h⟩
 have p12 : 2 ^ (k+1)<=2 ^ 13:=Nat.pow_le_pow_right (by decide) (by omega)
 have e13 : 2 ^ 13=8192:=rfl
 obtain⟨S1,E,C1,r,q1,sr1,w1,_,v1,_,_,sem⟩:=sH nd hl ho hd 15 (by omega) sr0 w0 (λp hp=>by cases hp) (by simp;omega) (by simp;omega)
 rw[List.nil_append] at sr1 w1 v1 sem
 obtain⟨X,S2,q2,c,lX,px,fr⟩:=fold_eq sr1 w1 hl v1
 have hm:=sr0.has "fold_from" (by decide +kernel)
 have un:=w1.uT v1
 have eF:FR (X++[r]) E=enc (po (K13.uT E r) []):=by rw[z6 w1 c,px]
 have wr:=yt w1 c
 rw[eF] at q2 wr
 refine⟨K13.uT E r,S2,az rfl ?_,(un.ord w1).1,(un.ord w1).2,wr,λth=>?_,λth ss kv=>?_,?_,fr⟩
 ·have em:m9 "Rows" aW (ah (af 1) aC) [some d,some (oD o),none] S=okO (.loc S.length) S0:=by
   unfold m9
   simp only[wm,yr,cu]
   have:af 1 [some d,some (oD o),none] S=okO (oD o) S:=rfl
   rw[this]
   simp only[cu]
   rw[ei];rfl
  unfold lj
  simp[em,hm,q1,q2,-List.map_map]
 ·have e:=yv c (un.ev th) (by simp)
  have hr:r∉X:=by
   have:=(List.nodup_append.mp c.nd).2.2
   intro hm
   exact this r hm r (by simp) rfl
  have ix:(X++[r]).idxOf r=(FR (X++[r]) E).length-1:=by
   rw[List.idxOf_append,if_neg hr]
   simp[FR]
  rw[ix,eF] at e;exact e
 ·exact Ev.det (un.ev th) (sem th ss kv)
 ·rw[← px,List.length_map,List.length_append];simp;omega
inductive Sub:Tr->Tr->Prop
 |refl (t:Tr):Sub t t
 |no {s:Tr}{c:Nat}{n y:Tr}:Sub s n->Sub s (.node c n y)
 |yes {s:Tr}{c:Nat}{n y:Tr}:Sub s y->Sub s (.node c n y)
def ClT (acc:List Tr):Prop:=∀ c n y,Tr.node c n y∈acc->n∈acc/\y∈acc
theorem ClT.sub {acc:List Tr}(h:ClT acc){s t:Tr}(q:Sub s t):t∈acc->s∈acc:=by
 induction q with
 |refl=>exact id
 |no _ ih=>exact λm=>ih (h _ _ _ m).1
 |yes _ ih=>exact λm=>ih (h _ _ _ m).2
theorem qP:∀ (t:Tr) (acc:List Tr),∃ X,po t acc=acc++X
 | .leaf ss,acc=>by
  by_cases h:Tr.leaf ss∈acc
  ·exact⟨[],by rw[dZ h,List.append_nil]⟩
  ·exact⟨[.leaf ss],gu h⟩
 | .node c n y,acc=>by
  by_cases h:Tr.node c n y∈acc
  ·exact⟨[],by rw[dZ h,List.append_nil]⟩
  ·obtain⟨X,e1⟩:=qP n acc
   obtain⟨Y,e2⟩:=qP y (po n acc)
   exact⟨X++Y++[.node c n y],by rw[gq h,e2,e1];simp⟩
theorem nQ (t:Tr)(acc:List Tr):t∈po t acc:=by
 by_cases h:t∈acc
 ·rw[dZ h];exact h
 ·cases t with
  |leaf ss=>rw[gu h];simp
  |node c n y=>rw[gq h];simp
theorem Au {t s:Tr}{acc:List Tr}(h:s∈acc):s∈po t acc:=by
 obtain⟨X,e⟩:=qP t acc
 rw[e];exact List.mem_append_left _ h
theorem iE:∀ (t:Tr) (acc:List Tr) (s:Tr),s∈po t acc->s∈acc∨Sub s t
 | .leaf ss,acc,s,h=>by
  by_cases hm:Tr.leaf ss∈acc
  ·rw[dZ hm] at h;exact .inl h
  ·rw[gu hm] at h
   rcases List.mem_append.mp h with h |h
   ·exact .inl h
   ·rw[List.mem_singleton.mp h];exact .inr (.refl _)
 | .node c n y,acc,s,h=>by
  by_cases hm:Tr.node c n y∈acc
  ·rw[dZ hm] at h;exact .inl h
  ·rw[gq hm] at h
   rcases List.mem_append.mp h with h |h
   ·rcases iE y _ s h with h |h
    ·rcases iE n _ s h with h |h
     ·exact .inl h
     ·exact .inr (.no h)
    ·exact .inr (.yes h)
   ·rw[List.mem_singleton.mp h];exact .inr (.refl _)
theorem jl:∀ (t:Tr) {acc:List Tr},ClT acc->ClT (po t acc)
 | .leaf ss,acc,h=>by
  by_cases hm:Tr.leaf ss∈acc
  ·rw[dZ hm];exact h
  ·rw[gu hm]
   intro c n y q
   rcases List.mem_append.mp q with q |q
   ·exact⟨List.mem_append_left _ (h c n y q).1,List.mem_append_left _ (h c n y q).2⟩
   ·cases List.mem_singleton.mp q
 | .node c n y,acc,h=>by
  by_cases hm:Tr.node c n y∈acc
  ·rw[dZ hm];exact h
  ·rw[gq hm]
   have h2:=jl y (jl n h)
   intro c' n' y' q
   rcases List.mem_append.mp q with q |q
   ·exact⟨List.mem_append_left _ (h2 c' n' y' q).1,List.mem_append_left _ (h2 c' n' y' q).2⟩
   ·cases List.mem_singleton.mp q
    exact⟨List.mem_append_left _ (Au (nQ n acc)),List.mem_append_left _ (nQ y _)⟩
theorem oP {s t:Tr}(h:Sub s t):tsz s<=tsz t:=by
 induction h with
 |refl=>exact Nat.le_refl _
 |no _ ih=>simp only[tsz];omega
 |yes _ ih=>simp only[tsz];omega
theorem kW:∀ (t:Tr) {acc:List Tr},acc.Nodup->(po t acc).Nodup
 | .leaf ss,acc,h=>by
  by_cases hm:Tr.leaf ss∈acc
  ·rw[dZ hm];exact h
  ·rw[gu hm]
   refine List.nodup_append.mpr ⟨h,by simp,λa ha b hb=>?_⟩
   rw[List.mem_singleton.mp hb];rintro rfl;exact hm ha
 | .node c n y,acc,h=>by
  by_cases hm:Tr.node c n y∈acc
  ·rw[dZ hm];exact h
  ·rw[gq hm]
   refine List.nodup_append.mpr ⟨kW y (kW n h),by simp,λa ha b hb=>?_⟩
   rw[List.mem_singleton.mp hb]
   rintro rfl
   rcases iE y _ _ ha with q |q
   ·rcases iE n _ _ q with q |q
    ·exact hm q
    ·have:=oP q;simp only[tsz] at this;omega
   ·have:=oP q;simp only[tsz] at this;omega
theorem xP:ClT []:=λc n y h=>by cases h
theorem wp {α:Type}(xs:List α)(p:Nat):fq xs none (some (p:Int))=xs.take p:=by
 unfold fq
 rw[HT.sIx_none,HT.sIx_nat,List.drop_zero,Nat.sub_zero]
 rcases Nat.le_total p xs.length with h |h
 ·rw[Nat.min_eq_left h]
 ·rw[Nat.min_eq_right h,List.take_of_length_le (Nat.le_refl _),List.take_of_length_le h]
theorem wt {α:Type}(xs:List α)(q:Nat):fq xs (some (q:Int)) none=xs.drop q:=by
 unfold fq
 rw[HT.sIx_nat,HT.sIx_none]
 rcases Nat.le_total q xs.length with h |h
 ·rw[Nat.min_eq_left h,List.take_of_length_le (by rw[List.length_drop];exact Nat.le_refl _)]
 ·rw[Nat.min_eq_right h,List.drop_length,List.drop_of_length_le h,List.take_nil]
abbrev nD (l:List Nat):List D:=l.map λ(k:Nat)=>D.int k
theorem vX (a b:List D)(h:a.length+b.length<=1000):bw (.lst a) (.lst b)=some (.lst (a++b)):=by
 rw[jE,if_pos (Nat.le_trans h (by decide))]
theorem qS (num:Int)(m:D)(k:Nat)(hk:k<=20)(l:List Nat)(hl:l.length=k)(z:Option D)(S:Sto):∃ a:Nat,a<=k/\dU [some (.int num),some m,some (.lst (nD l)),some (.int k),z] S=okO (.next [some (.int num),some m,some (.lst (nD (l.take a++[k]++l.drop a))),some (.int k),some (.int a)]) S:=by
 have e0:=iP num k S
 have el:cm [.lst (nD l)]=some (.int (k:Nat)):=by simp[cm,hl]
 have em:bS (.int (drw num k)) (.int ((k:Int)+1))=some (.int (drw num k % ((k:Int)+1))):=aX (by omega)
 have bm:=nR (drw num k) (show (0:Int)<(k:Int)+1 by omega)
 obtain⟨a,ha⟩:∃ a:Nat,drw num k % ((k:Int)+1)=a:=⟨(drw num k % ((k:Int)+1)).toNat,by omega⟩
 rw[ha] at em bm
 have c1:slD (.lst (nD l)) none (some (a:Int))=some (.lst (nD (l.take a))):=by
  show some (D.lst (fq (nD l) none (some (a:Int))))=_
  rw[wp];unfold nD;rw[List.map_take]
 have c2:slD (.lst (nD l)) (some (a:Int)) none=some (.lst (nD (l.drop a))):=by
  show some (D.lst (fq (nD l) (some (a:Int)) none))=_
  rw[wt];unfold nD;rw[List.map_drop]
 have t1:(nD (l.take a)).length<=20:=by rw[List.length_map,List.length_take];omega
 have t2:(nD (l.drop a)).length<=20:=by rw[List.length_map,List.length_drop];omega
 have a1:=vX (nD (l.take a)) [.int k] (by simp at t1 ⊢;omega)
 have a2:=vX (nD (l.take a)++[.int k]) (nD (l.drop a)) (by rw[List.length_append];simp at t1 t2 ⊢;omega)
 have z1:szO [.int k] (.lst [.int k])=some (.lst [.int k]):=ca (by simp)
 have er:nD (l.take a++[k]++l.drop a)=nD (l.take a)++[.int k]++nD (l.drop a):=by simp
 refine⟨a,by omega,?_⟩
 rw[er]
 unfold dU
 simp[e0,el,em,c1,c2,z1,a1,a2,rh,-List.map_map,-List.map_append,-List.map_take,-List.map_drop,-List.append_assoc]
theorem uk (num:Int){m:Nat}(hm:m<=10)(S:Sto):∃ o:List Nat,jH [.int num,.int m] S=okO (oD o) S/\o.Perm (List.range m):=by
 have e1:dI [.int m]=some ((List.range m).map λ(k:Nat)=>D.int k):=by
  have:=vo m (by omega) (by omega);simpa using this
 obtain⟨ρ',S',el,hI⟩:=ck (u:=aH 3) (body:=dU) (λi ρ S1=>S1=S/\i<=m/\∃ (l:List Nat) (a b:Option D),l.Perm (List.range i)/\ρ=[some (.int num),some (.int m),some (.lst (nD l)),a,b])
  ((List.range m).map λ(k:Nat)=>D.int k) 0 [some (.int num),some (.int m),some (.lst []),none,none] S ⟨rfl,by omega,[],none,none,.refl _,rfl⟩ (by
   rintro j dd ρ S1 hj ⟨rfl,hi,l,a,b,hp,rfl⟩
   obtain⟨rfl,hlt⟩:=eD hj
   simp only[Nat.zero_add] at hp hi ⊢
   have hl:l.length=j:=by rw[hp.length_eq,List.length_range]
   obtain⟨q,hq,eb⟩:=qS num (.int m) j (by omega) l hl b S1
   refine⟨_,rfl,_,_,eb,rfl,by omega,_,_,_,?_,rfl⟩
   rw[List.range_succ]
   have p1:(l.take q++[j]++l.drop q).Perm (j::l):=by
    have:=List.perm_middle (a:=j) (l₁:=l.take q) (l₂:=l.drop q)
    rw[List.take_append_drop] at this
    rw[List.append_assoc];exact this
   exact p1.trans ((List.Perm.cons j hp).trans (List.perm_append_singleton j (List.range j)).symm))
 simp only[Nat.zero_add,List.length_map,List.length_range] at hI
 obtain⟨rfl,_,l,a,b,hp,rfl⟩:=hI
 refine⟨l,az rfl ?_,hp⟩
 have z0:szO [] (.lst [])=some (.lst []):=ca (by simp)
 unfold mQ
 simp[z0,e1,el,lT]
theorem rB (ss:List Str)(hl:ss.length<=6)(hw:∀ x∈ss,cB x=true)(hp:ss.Pairwise λa b=>ltS a b=true)(m:Nat)(h1 : 1<=m)(hm:m<=10)(S:Sto):∀ (fuel deep:Nat) (num:Int),deep<fuel->0<=num->∃ d,i4 fuel [.int num,.tup (ss.map .str),.int m,.int deep] S=okO d S/\KQ m deep d
 | 0,deep,num,h,_=>absurd h (by omega)
 |fuel+1,deep,num,h,h0=>by
  have m7:bS (.int num) (.int 7)=some (.int (num % 7)):=aX (by decide)
  have d7:du (.int num) (.int 7)=some (.int (num / 7)):=eP (by decide) (by decide)
  have mm:bS (.int (num / 7)) (.int m)=some (.int (num / 7 % m)):=aX (by omega)
  have bm:=nR (num / 7) (show (0:Int)<m by omega)
  obtain⟨sn,en,hsub⟩:=pc (num / 7) (ss:=ss) (by omega) S
  have leaf:(deep=0∨num % 7=0)->∃ d,i4 (fuel+1) [.int num,.tup (ss.map .str),.int m,.int deep] S=okO d S/\KQ m deep d:=λhc=>by
   refine⟨.tup [.str "names",.tup (sn.map .str)],az rfl ?_,.leaf (λx hx=>hw x (hsub.subset hx)) (iG (hp.sublist hsub))⟩
   unfold n4
   by_cases hd0:deep=0
   ·subst hd0
    simp[d7,en]
   ·have h7:num % 7=0:=hc.resolve_left hd0
    simp[hd0,m7,h7,d7,en]
  by_cases hd0:deep=0
  ·exact leaf (.inl hd0)
  ·by_cases h7:num % 7=0
   ·exact leaf (.inr h7)
   ·have e1:=iP num 1 S
    have e2:=iP num 2 S
    obtain⟨dp,rfl⟩:∃ dp,deep=dp+1:=⟨deep-1,by omega⟩
    obtain⟨x,ex,kx⟩:=rB ss hl hw hp m h1 hm S fuel dp (drw num 1) (by omega) (g_ _ _)
    obtain⟨y,ey,ky⟩:=rB ss hl hw hp m h1 hm S fuel dp (drw num 2) (by omega) (g_ _ _)
    have hne:¬ ((dp:Int)+1=0):=by omega
    obtain⟨c,hc⟩:∃ c:Nat,num / 7 % m=c:=⟨(num / 7 % m).toNat,by omega⟩
    rw[hc] at mm bm
    refine⟨.tup [.str "ask",.int c,x,y],az rfl ?_,.ask (by omega) kx ky⟩
    unfold n4
    simp[hne,m7,h7,e1,e2,ex,ey,d7,mm,oQ]
abbrev tsD (tss:List (List Int)):List D:=tss.map thD
theorem u4 (a b:List D)(h:a.length+b.length<=1000):bw (.tup a) (.tup b)=some (.tup (a++b)):=by
 rw[uS,if_pos (Nat.le_trans h (by decide))]
theorem jM (e:Rho->Sto->Out D)(v:Int)(he:e=aG bw (af 0) (aD (.tup [.int v])))(tss:List (List Int))(h:∀ ts∈tss,ts.length<=20)(ρ:Rho)(S:Sto):dO (aH 0) iX e (tsD tss) (d4 1 [] ρ) S=some (tsD (tss.map λts=>ts++[v]),S):=by
 have q:=jz (u:=aH 0) (fe:=e) (λρ => ∃ y,ρ=[y]) (λd=>match d with | .tup xs => .tup (xs++[.int v]) |_ => .non) S (tsD tss) (d4 1 [] ρ) ⟨none,rfl⟩ (by
  rintro d hd ρ ⟨y,rfl⟩
  obtain⟨ts,hts,rfl⟩:=List.mem_map.mp hd
  refine⟨_,rfl,⟨_,rfl⟩,?_⟩
  have ea:=u4 (ts.map D.int) [.int v] (by have:=h ts hts;simp;omega)
  subst he
  simp[ea])
 rw[q]
 congr 2
 unfold tsD
 rw[List.map_map,List.map_map]
 refine List.map_congr_left λts _=>?_
 simp[thD]
theorem oN (m:D)(k:Nat)(tss:List (List Int))(hl:tss.length<=2000)(h:∀ ts∈tss,ts.length<=20)(z:Option D)(S:Sto):dc [some m,some (.lst (tsD tss)),z] S=okO (.next [some m,some (.lst (tsD ((tss.map λts=>ts++[0])++(tss.map λts=>ts++[1])))),z]) S:=by
 have c1:=jM iO 0 rfl tss h [some m,some (.lst (tsD tss)),z] S
 have c2:=jM iN 1 rfl tss h [some m,some (.lst (tsD tss)),z] S
 have ad:bw (.lst (tsD (tss.map λts=>ts++[0]))) (.lst (tsD (tss.map λts=>ts++[1])))=some (.lst (tsD ((tss.map λts=>ts++[0])++(tss.map λts=>ts++[1])))):=by
  rw[jE,if_pos (by simp only[tsD,List.length_map];exact Nat.le_trans (show _<=4000 by omega) (by decide))]
  unfold tsD;rw[← List.map_append]
 unfold dc
 simp[eX,c1,c2,ad,-List.map_map,-List.map_append]
theorem qi:∀ (tss:List (List Int)),(∀ ts∈tss,ts≠[])->rO tupI (tsD tss)=some tss
 |[],_=>rfl
 |ts::tss,h=>by
  have ih:=qi tss λt ht=>h t (List.mem_cons_of_mem _ ht)
  have e:tupI (thD ts)=some ts:=by
   unfold tupI thD
   simp only[intsO_map]
   cases ts with
   |nil=>exact absurd rfl (h [] (List.mem_cons_self ..))
   |cons a r=>rfl
  show rO tupI (thD ts::tsD tss)=_
  rw[rO,e,Option.bind_some,ih];rfl
theorem u6 {j:Nat}{tss:List (List Int)}(hall:∀ ts,f_ j ts->ts∈tss){ts:List Int}(h:f_ (j+1) ts):ts∈(tss.map λts=>ts++[0])++(tss.map λts=>ts++[1]):=by
 obtain⟨h1,h2⟩:=h
 have hne:ts≠[]:=by intro z;rw[z] at h1;simp at h1
 have e:=List.dropLast_concat_getLast hne
 have ok:f_ j ts.dropLast:=⟨by rw[List.length_dropLast,h1];rfl,λx hx=>h2 x (List.dropLast_subset _ hx)⟩
 have hm:=hall _ ok
 rw[List.mem_append]
 rcases h2 _ (List.getLast_mem hne) with h0 |h0
 ·exact .inl (List.mem_map.mpr ⟨_,hm,by rw[← h0];exact e⟩)
 ·exact .inr (List.mem_map.mpr ⟨_,hm,by rw[← h0];exact e⟩)
theorem KQ.mono {m k:Nat}{d:D}(h:KQ m k d):∀ j,k<=j->KQ m j d:=by
 induction h with
 |leaf h1 h2=>exact λj _ => .leaf h1 h2
 |ask h0 _ _ ix iy =>
  intro j hj
  obtain⟨j,rfl⟩:∃ i,j=i+1:=⟨j-1,by omega⟩
  exact .ask h0 (ix j (by omega)) (iy j (by omega))
theorem xE (ns:List Int)(b:Nat)(hb : 1<=b)(hb2:b<=10)(S:Sto):∃ (m:Nat) (ss:List Str) (kvs:List (D×D)) (d:D) (o:List Nat),1<=m/\m<=b/\ss.length<=6/\(∀ x∈ss,cB x=true)/\(ss.Pairwise λa b=>ltS a b=true)/\KQ m 5 d/\o.Perm (List.range m) /\
  i0 [.lst (ns.map .int),.int b] S=okO (.tup [.int m,.tup (ss.map .str),d,oD o]) (S++[.dict kvs]):=by
 have x0:∀ S,aV [.lst (ns.map .int),.int 0] S=okO (.int (mix ns 0)) S:=fP ns 0
 have x1:∀ S,aV [.lst (ns.map .int),.int 1] S=okO (.int (mix ns 1)) S:=fP ns 1
 have x2:∀ S,aV [.lst (ns.map .int),.int 2] S=okO (.int (mix ns 2)) S:=fP ns 2
 have x3:∀ S,aV [.lst (ns.map .int),.int 3] S=okO (.int (mix ns 3)) S:=fP ns 3
 have x4:∀ S,aV [.lst (ns.map .int),.int 4] S=okO (.int (mix ns 4)) S:=fP ns 4
 have bm:=nR (mix ns 0) (show (0:Int)<b by omega)
 have mb:bS (.int (mix ns 0)) (.int b)=some (.int (mix ns 0 % b)):=aX (by omega)
 obtain⟨m,hm⟩:∃ m:Nat,1+mix ns 0 % b=m:=⟨(1+mix ns 0 % b).toNat,by omega⟩
 obtain⟨ss,kvs,ew,hl6,hw,hpw⟩:=tQ (mix ns 1) S
 have a5:bS (.int (mix ns 3)) (.int 5)=some (.int (mix ns 3 % 5)):=aX (by decide)
 have b5:=nR (mix ns 3) (show (0:Int)<5 by decide)
 obtain⟨dp,hdp⟩:∃ dp:Nat,1+mix ns 3 % 5=dp:=⟨(1+mix ns 3 % 5).toNat,by omega⟩
 obtain⟨d,ed,kq⟩:=rB ss hl6 hw hpw m (by omega) (by omega) (S++[.dict kvs]) 8 dp (mix ns 2) (by omega) (qY _ _)
 obtain⟨o,eo,po⟩:=uk (mix ns 4) (m:=m) (by omega) (S++[.dict kvs])
 have z4:szO [.int m,.tup (ss.map .str),d,oD o] (.tup [.int m,.tup (ss.map .str),d,oD o])=some (.tup [.int m,.tup (ss.map .str),d,oD o]):=ca (by simp)
 refine⟨m,ss,kvs,d,o,by omega,by omega,hl6,hw,hpw,kq.mono 5 (by omega),po,az rfl ?_⟩
 unfold pO
 simp[x0,x1,x2,x3,x4,mb,hm,ew,a5,hdp,ed,eo,z4,-List.map_map]
abbrev rsD (R:List Row):D:=.tup (R.map aF)
abbrev wf (t:Tr):D:=rsD (enc (po t []))
def hgt:Tr->Nat
 | .leaf _ => 0
 | .node _ n y=>max (hgt n) (hgt y)+1
theorem v8 {o:List Nat}:∀ {t:Tr},Ord o t->hgt t+tp o t<=o.length
 | .leaf _,_=>by simp[hgt,tp]
 | .node c n y,h=>by
  obtain⟨h1,h2,h3,h4,h5,_⟩:=h
  have a:=v8 h2
  have b:=v8 h3
  have e:tp o (.node c n y)=o.idxOf c:=rfl
  have e2:hgt (.node c n y)=max (hgt n) (hgt y)+1:=rfl
  rw[e,e2]
  omega
theorem jc {o:List Nat}{a b:Th}(h:∀ c∈o,a c=b c):∀ {t:Tr},Ord o t->tev t a=tev t b
 | .leaf _,_=>rfl
 | .node c n y,ot=>by
  obtain⟨h1,h2,h3,_,_,_⟩:=ot
  show (if a c=true then tev y a else tev n a)=(if b c=true then tev y b else tev n b)
  rw[h c h1,jc h h2,jc h h3]
theorem pE:∀ a b:List Int,iI (λx y=>decide (x<y)) a b=decide (a<b)
 |[],[]=>by simp[iI]
 |[],_::_=>by simp[iI]
 |_::_,[]=>by simp[iI]
 |a::as,b::bs=>by
  rw[iI,pE as bs]
  by_cases h:a<b
  ·have h':¬ b<a:=by omega
   simp[h,h',List.cons_lt_cons_iff]
  ·by_cases h2:b<a
   ·have:¬ a=b:=by omega
    simp[h,h2,List.cons_lt_cons_iff,this]
   ·have:a=b:=by omega
    subst this
    simp[List.cons_lt_cons_iff]
theorem fQ (a b:List Int):lV a b=decide (¬ b<a):=by
 unfold lV
 rw[pE]
 by_cases h:b<a<;>simp[h]
def ths:Nat->List (List Int)
 | 0=>[[]]
 |k+1=>(ths k).map (λts => 0::ts)++(ths k).map λts => 1::ts
theorem eW:∀ k,(ths k).length=2 ^ k
 | 0=>rfl
 |k+1=>by rw[ths,List.length_append,List.length_map,List.length_map,eW k,Nat.pow_succ];omega
theorem cI:∀ (k:Nat) (ts:List Int),ts∈ths k↔f_ k ts
 | 0,ts=>by
  rw[ths,List.mem_singleton]
  constructor
  ·rintro rfl;exact⟨rfl,λx hx=>by cases hx⟩
  ·rintro⟨h,_⟩;exact List.length_eq_zero_iff.mp h
 |k+1,ts=>by
  rw[ths,List.mem_append,List.mem_map,List.mem_map]
  constructor
  ·rintro (⟨u,hu,rfl⟩ |⟨u,hu,rfl⟩)
   ·obtain⟨h1,h2⟩:=(cI k u).mp hu
    exact⟨by rw[List.length_cons,h1],λx hx=>(List.mem_cons.mp hx).elim .inl (h2 x)⟩
   ·obtain⟨h1,h2⟩:=(cI k u).mp hu
    exact⟨by rw[List.length_cons,h1],λx hx=>(List.mem_cons.mp hx).elim .inr (h2 x)⟩
  ·rintro⟨h1,h2⟩
   cases ts with
   |nil=>cases h1
   |cons a r =>
    have hr:=(cI k r).mpr ⟨by simpa using h1,λx hx=>h2 x (List.mem_cons_of_mem _ hx)⟩
    rcases h2 a (List.mem_cons_self ..) with rfl |rfl
    ·exact .inl ⟨r,hr,rfl⟩
    ·exact .inr ⟨r,hr,rfl⟩
theorem eV:∀ k,(ths k).Pairwise (· < ·)
 | 0=>by simp[ths]
 |k+1=>by
  rw[ths,List.pairwise_append,List.pairwise_map,List.pairwise_map]
  refine⟨(eV k).imp λh=>List.cons_lt_cons_iff.mpr (.inr ⟨rfl,h⟩),(eV k).imp λh=>List.cons_lt_cons_iff.mpr (.inr ⟨rfl,h⟩),λa ha b hb=>?_⟩
  obtain⟨u,_,rfl⟩:=List.mem_map.mp ha
  obtain⟨v,_,rfl⟩:=List.mem_map.mp hb
  exact List.cons_lt_cons_iff.mpr (.inl (by decide))
theorem qC {k:Nat}{l:List (List Int)}(hp:l.Perm (ths k)):l.mergeSort lV=ths k:=by
 have asym:∀ {a b:List Int},a<b->¬ b<a:=λh g=>List.lt_irrefl _ (List.lt_trans h g)
 refine List.Perm.eq_of_pairwise (le:=λa b=>lV a b=true) (λa b _ _ h g=>?_) (List.pairwise_mergeSort (λa b c h g=>?_) (λa b=>?_) l) ((eV k).imp λh=>?_) ((List.mergeSort_perm l lV).trans hp)
 ·rw[fQ,decide_eq_true_iff] at h g
  exact List.le_antisymm (List.not_lt.mp h) (List.not_lt.mp g)
 ·rw[fQ,decide_eq_true_iff] at h g ⊢
  exact List.not_lt.mpr (List.le_trans (List.not_lt.mp h) (List.not_lt.mp g))
 ·rw[fQ,fQ,Bool.or_eq_true,decide_eq_true_iff,decide_eq_true_iff]
  by_cases h:b<a
  ·exact .inr (asym h)
  ·exact .inl h
 ·rw[fQ,decide_eq_true_iff]
  exact asym h
def raw:Nat->List (List Int)
 | 0=>[[]]
 |k+1=>((raw k).map λts=>ts++[0])++((raw k).map λts=>ts++[1])
theorem kU:∀ (k:Nat),(raw k).length=2 ^ k/\(∀ ts,ts∈raw k↔f_ k ts)/\(raw k).Nodup
 | 0=>⟨rfl,cI 0,by simp[raw]⟩
 |k+1=>by
  obtain⟨h1,h2,h3⟩:=kU k
  have inj:∀ v:Int,((raw k).map λts=>ts++[v]).Nodup:=λv=>by
   unfold List.Nodup
   rw[List.pairwise_map]
   exact h3.imp λh e=>h (List.append_cancel_right e)
  refine⟨by rw[raw,List.length_append,List.length_map,List.length_map,h1,Nat.pow_succ];omega,λts=>⟨λh=>?_,λh=>u6 (λu hu=>(h2 u).mpr hu) h⟩,?_⟩
  ·rw[raw,List.mem_append,List.mem_map,List.mem_map] at h
   rcases h with ⟨u,hu,rfl⟩ |⟨u,hu,rfl⟩
   ·obtain⟨a,b⟩:=(h2 u).mp hu
    exact⟨by rw[List.length_append,a];rfl,λx hx=>(List.mem_append.mp hx).elim (b x) λq => .inl (List.mem_singleton.mp q)⟩
   ·obtain⟨a,b⟩:=(h2 u).mp hu
    exact⟨by rw[List.length_append,a];rfl,λx hx=>(List.mem_append.mp hx).elim (b x) λq => .inr (List.mem_singleton.mp q)⟩
  ·rw[raw,List.nodup_append]
   refine⟨inj 0,inj 1,λa ha b hb e=>?_⟩
   obtain⟨u,_,rfl⟩:=List.mem_map.mp ha
   obtain⟨v,_,rfl⟩:=List.mem_map.mp hb
   have:=congrArg List.getLast? e
   simp at this
theorem vp (k:Nat):(raw k).Perm (ths k):=by
 refine (List.perm_ext_iff_of_nodup (kU k).2.2 ?_).mpr λts=>by rw[(kU k).2.1,cI]
 exact (eV k).imp λh e=>by subst e;exact List.lt_irrefl _ h
theorem me {m:Nat}(hm:m<=10)(S:Sto):fz [.int m] S=okO (.lst (tsD (ths m))) S:=by
 have e1:dI [.int m]=some ((List.range m).map λ(k:Nat)=>D.int k):=by
  have:=vo m (by omega) (by omega);simpa using this
 obtain⟨ρ',S',el,hI⟩:=ck (u:=aH 2) (body:=dc) (λi ρ S1=>S1=S/\i<=m/\∃ (b:Option D),ρ=[some (.int m),some (.lst (tsD (raw i))),b])
  ((List.range m).map λ(k:Nat)=>D.int k) 0 [some (.int m),some (.lst [.tup []]),none] S ⟨rfl,by omega,none,rfl⟩ (by
   rintro j dd ρ S1 hj ⟨rfl,hi,b,rfl⟩
   obtain⟨rfl,hlt⟩:=eD hj
   simp only[Nat.zero_add] at hi ⊢
   have p10 : 2 ^ j<=2 ^ 10:=Nat.pow_le_pow_right (by decide) (by omega)
   have e10 : 2 ^ 10=1024:=rfl
   obtain⟨h1,h2,_⟩:=kU j
   have eb:=oN (.int m) j (raw j) (by omega) (λts hts=>by have:=((h2 ts).mp hts).1;omega) (some (.int j)) S1
   exact⟨_,rfl,_,_,eb,rfl,by omega,_,rfl⟩)
 simp only[Nat.zero_add,List.length_map,List.length_range] at hI
 obtain⟨rfl,_,b,rfl⟩:=hI
 have p10 : 2 ^ m<=2 ^ 10:=Nat.pow_le_pow_right (by decide) hm
 have e10 : 2 ^ 10=1024:=rfl
 obtain⟨h1,h2,_⟩:=kU m
 have es:dG (tsD (raw m))=some (tsD (ths m)):=by
  unfold dG
  rw[if_pos (by simp only[tsD,List.length_map];exact Nat.le_trans (show _<=2000 by omega) (by decide))]
  rcases Nat.eq_zero_or_pos m with rfl |hpos
  ·rfl
  ·rw[qi (raw m) λts hts h=>by have:=((h2 ts).mp hts).1;rw[h] at this;simp at this;omega]
   have e:=qC (vp m)
   cases hr:raw m with
   |nil=>rw[hr] at h1;have:=Nat.two_pow_pos m;rw[List.length_nil] at h1;omega
   |cons t r =>
    rw[hr] at e
    show some (tsD ((t::r).mergeSort lV))=_
    rw[e]
 refine az rfl ?_
 unfold lg
 simp[e1,el,iu,es,-List.map_map]
def Kp (S S':Sto):Prop:=∀ (i:Nat) (mo:MO),S[i]?=some mo->S'[i]?=some mo
theorem Kp.push (S:Sto)(x:Sto):Kp S (S++x):=λi mo e=>by
 rw[List.getElem?_append_left (List.getElem?_eq_some_iff.mp e).1];exact e
theorem tI (S:Sto)(x:MO):(S++[x])[S.length]?=some x:=by
 rw[List.getElem?_append_right (Nat.le_refl _)];simp
theorem oj {S:Sto}{l:Nat}{y:MO}(h:S[l]?=some y)(x:MO):(S.set l x)[l]?=some x:=by
 rw[List.getElem?_set_self (List.getElem?_eq_some_iff.mp h).1]
theorem nT {S:Sto}{l:Nat}{xs:List D}(h:S[l]?=some (.lst xs)):da (.loc l) S=some xs:=by
 unfold da;simp only[h]
def KpE (l:Nat)(S S':Sto):Prop:=∀ (i:Nat) (mo:MO),i≠l->S[i]?=some mo->S'[i]?=some mo
section
variable {f g h:Rho->Sto->Out D}{fs:Rho->Sto->Out (List D)}{ρ:Rho}{S:Sto}
@[simp] theorem Bj:rL fs ρ S=ae (fs ρ S) λds S1=>if ds.length<=sizeLine then okO (.loc S1.length) (S1++[.lst ds]) else none:=rfl
@[simp] theorem BY:tF f g h ρ S=ae (h ρ S) λv S1=>ae (f ρ S1) λx S2=>ae (g ρ S2) λk S3=>mF x k v ρ S3:=rfl
@[simp] theorem BR:wy f g ρ S=ae (f ρ S) λd S1=>ae (g ρ S1) λn S2=>t9 d n S2:=rfl
@[simp] theorem BZ:tu f ρ S=ae (f ρ S) λd S1=>aE (mG d S1) S1:=rfl
@[simp] theorem BN:iR f ρ S=ae (f ρ S) λd S1=>aE ((da d S1).bind λxs=>if xs.length<=sizeLine then some (.tup xs) else none) S1:=rfl
end
def bP:List Nat->List Int->List Int->List Int
 |c::o,v::vs,ts=>bP o vs (ts.set c v)
 |_,_,ts=>ts
theorem kM:∀ (o:List Nat) (vs ts:List Int),(bP o vs ts).length=ts.length
 |[],_,_=>rfl
 |_::_,[],_=>rfl
 |c::o,v::vs,ts=>by rw[bP,kM o vs,List.length_set]
theorem kL:∀ (o:List Nat) (vs ts:List Int) (c:Nat),c∉o->(bP o vs ts)[c]?=ts[c]?
 |[],_,_,_,_=>rfl
 |_::_,[],_,_,_=>rfl
 |d::o,v::vs,ts,c,h=>by
  rw[bP,kL o vs _ c λq=>h (List.mem_cons_of_mem _ q),List.getElem?_set_ne (by rintro rfl;exact h (List.mem_cons_self ..))]
theorem kN:∀ (o:List Nat) (vs ts:List Int),o.Nodup->o.length=vs.length->(∀ c∈o,c<ts.length)->∀ c∈o,(bP o vs ts)[c]?=vs[o.idxOf c]?
 |[],_,_,_,_,_,c,h=>by cases h
 |_::_,[],_,_,hl,_,_,_=>by cases hl
 |d::o,v::vs,ts,nd,hl,hlt,c,h=>by
  obtain⟨n1,n2⟩:=List.nodup_cons.mp nd
  rw[bP]
  by_cases hc:c=d
  ·subst hc
   rw[kL o vs _ c n1,List.getElem?_set_self (hlt c (List.mem_cons_self ..)),List.idxOf_cons_self];rfl
  ·have hm:c∈o:=(List.mem_cons.mp h).resolve_left hc
   rw[kN o vs _ n2 (by simpa using hl) (λx hx=>by rw[List.length_set];exact hlt x (List.mem_cons_of_mem _ hx)) c hm]
   have hb:(d==c)=false:=by simp;exact λq=>hc q.symm
   rw[List.idxOf_cons,hb];rfl
theorem oA (d od hd tl:D)(lf l:Nat):∀ (o:List Nat) (vs ts:List Int) (x y:Option D) (S:Sto),o.length=vs.length->(∀ c∈o,c<ts.length)->S[l]?=some (.lst (ts.map .int)) ->
  ∃ x' y' S',dL (kC 2 (aU (aH 6) (aU (aH 7) gN))) cw (i_ (o.map λ(c:Nat)=>D.int c) (vs.map .int)) [some d,some od,some hd,some (.loc lf),some tl,some (.loc l),x,y] S=okO (.next [some d,some od,some hd,some (.loc lf),some tl,some (.loc l),x',y']) S' /\
   S'[l]?=some (.lst ((bP o vs ts).map .int))/\KpE l S S'
 |[],_,ts,x,y,S,_,_,hs=>⟨x,y,S,rfl,hs,λi mo _ e=>e⟩
 |_::_,[],_,_,_,_,hl,_,_=>by cases hl
 |c::o,v::vs,ts,x,y,S,hl,hlt,hs=>by
  have hc:=hlt c (List.mem_cons_self ..)
  have es:=oj hs (.lst ((ts.set c v).map .int))
  have lo:mF (.loc l) (.int c) (.int v) [some d,some od,some hd,some (.loc lf),some tl,some (.loc l),some (.int c),some (.int v)] S=okO (.next [some d,some od,some hd,some (.loc lf),some tl,some (.loc l),some (.int c),some (.int v)]) (S.set l (.lst ((ts.set c v).map .int))):=by
   unfold mF
   simp only[hs]
   have:ixN (ts.map D.int).length (c:Int)=some c:=by
    unfold ixN
    rw[List.length_map,if_pos (by omega),if_pos (by omega)]
    simp
   rw[this]
   simp only[List.map_set]
  obtain⟨x',y',S',el,h1,h2⟩:=oA d od hd tl lf l o vs (ts.set c v) (some (.int c)) (some (.int v)) (S.set l (.lst ((ts.set c v).map .int))) (by simpa using hl) (λz hz=>by rw[List.length_set];exact hlt z (List.mem_cons_of_mem _ hz)) es
  refine⟨x',y',S',?_,h1,λi mo hi e=>h2 i mo hi (by rw[List.getElem?_set_ne (Ne.symm hi)];exact e)⟩
  have u:kC 2 (aU (aH 6) (aU (aH 7) gN)) (.tup [.int c,.int v]) [some d,some od,some hd,some (.loc lf),some tl,some (.loc l),x,y]=some [some d,some od,some hd,some (.loc lf),some tl,some (.loc l),some (.int c),some (.int v)]:=rfl
  have b:cw [some d,some od,some hd,some (.loc lf),some tl,some (.loc l),some (.int c),some (.int v)] S=okO (.next [some d,some od,some hd,some (.loc lf),some tl,some (.loc l),some (.int c),some (.int v)]) (S.set l (.lst ((ts.set c v).map .int))):=by
   unfold cw
   generalize S.set l (.lst ((ts.set c v).map .int))=S2 at *
   simp[lo]
  rw[List.map_cons,List.map_cons,i_,dL,u]
  simp only
  rw[b]
  exact el
def thv (o:List Nat)(vs:List Int):Th:=λc=>decide (vs.getD (o.idxOf c) 0=1)
theorem u5 {o:List Nat}{m:Nat}(pm:o.Perm (List.range m)){vs:List Int}(hv:f_ m vs):f_ m (bP o vs (List.replicate m 0))/\∀ c∈o,tv (bP o vs (List.replicate m 0)) c=thv o vs c:=by
 have nd:o.Nodup:=pm.nodup_iff.mpr List.nodup_range
 have hol:o.length=m:=by rw[pm.length_eq,List.length_range]
 have hom:∀ c∈o,c<m:=λc hc=>List.mem_range.mp (pm.mem_iff.mp hc)
 have g:=kN o vs (List.replicate m 0) nd (by rw[hol,hv.1]) (λc hc=>by rw[List.length_replicate];exact hom c hc)
 have hlen:(bP o vs (List.replicate m 0)).length=m:=by rw[kM,List.length_replicate]
 refine⟨⟨hlen,λx hx=>?_⟩,λc hc=>?_⟩
 ·obtain⟨i,hi,e⟩:=List.getElem_of_mem hx
  have hm:i∈o:=pm.mem_iff.mpr (List.mem_range.mpr (by omega))
  have q:=g i hm
  rw[List.getElem?_eq_getElem hi,e] at q
  exact hv.2 x (List.mem_of_getElem? q.symm)
 ·have e:(bP o vs (List.replicate m 0)).getD c 0=vs.getD (o.idxOf c) 0:=by simp only[List.getD,g c hc]
  unfold tv thv
  rw[e]
abbrev jD (ss:List Str):D:=.tup (ss.map .str)
abbrev b_ (T:List (List Str)):D:=.tup (T.map jD)
theorem rz {m:Nat}(hm:m<=10){o:List Nat}(pm:o.Perm (List.range m)){k:Nat}(hk:k<15){d:D}(kq:KQ m k d){t:Tr}(ot:Ord o t)(tk:∀ th ss,Kv th d ss->tev t th=ss){hd tl:List Int}(hv:f_ m (hd++tl))
  {S:Sto}{lf:Nat}{ws:List D}(hf:S[lf]?=some (.lst ws)) (hws:ws.length<=2000) (a b c:Option D) :
  ∃ a' b' c' S',cv [some d,some (oD o),some (thD hd),some (.loc lf),some (thD tl),a,b,c] S=okO (.next [some d,some (oD o),some (thD hd),some (.loc lf),some (thD tl),a',b',c']) S'/\S'[lf]?=some (.lst (ws++[jD (tev t (thv o (hd++tl)))]))/\KpE lf S S':=by
 have hol:o.length=m:=by rw[pm.length_eq,List.length_range]
 have hom:∀ c∈o,c<m:=λc hc=>List.mem_range.mp (pm.mem_iff.mp hc)
 have hlf:=(List.getElem?_eq_some_iff.mp hf).1
 have ln:cm [oD o]=some (.int m):=by simp[cm,hol]
 have rp:t9 (.loc S.length) (.int m) (S++[.lst [.int 0]])=okO (.loc (S.length+1)) (S++[.lst [.int 0]]++[.lst ((List.replicate m 0).map .int)]):=by
  unfold t9
  simp only[tI]
  rw[if_pos ⟨by omega,by omega,by simp;exact Nat.le_trans (show _<=10 by omega) (by decide)⟩]
  have e:(List.replicate (m:Int).toNat ([.int 0]:List D)).flatten=(List.replicate m 0).map D.int:=by simp
  rw[e]
  simp
 have ad:bw (thD hd) (thD tl)=some (thD (hd++tl)):=by
  have:=hv.1
  rw[List.length_append] at this
  have q:=u4 (hd.map D.int) (tl.map D.int) (by simp;omega)
  rw[← List.map_append] at q
  exact q
 have zd:wP [oD o,thD (hd++tl)]=some (i_ (o.map λ(c:Nat)=>D.int c) ((hd++tl).map .int)):=rfl
 have hs2:(S++[.lst [.int 0]]++[.lst ((List.replicate m 0).map .int)]:Sto)[S.length+1]?=some (.lst ((List.replicate m 0).map .int)):=by
  rw[List.getElem?_append_right (by simp)];simp
 obtain⟨x',y',S2,el,hs3,kp⟩:=oA d (oD o) (thD hd) (thD tl) lf (S.length+1) o (hd++tl) (List.replicate m 0) b c _ (by rw[hol,hv.1]) (λc hc=>by rw[List.length_replicate];exact hom c hc) hs2
 obtain⟨tok,tag⟩:=u5 pm hv
 have hkp:∀ i mo,S[i]?=some mo->S2[i]?=some mo:=λi mo e=>by
  have hi:=(List.getElem?_eq_some_iff.mp e).1
  refine kp i mo (by omega) ?_
  rw[List.append_assoc,List.getElem?_append_left hi];exact e
 have l2:=nT hs3
 have hf2:=hkp _ _ hf
 have lf2:=nT hf2
 have tl2:((bP o (hd++tl) (List.replicate m 0)).map D.int).length<=sizeLine:=by rw[List.length_map,tok.1];exact Nat.le_trans hm (by decide)
 obtain⟨ss,kv⟩:=kq.total (tv (bP o (hd++tl) (List.replicate m 0)))
 have ea:=qh tok S2 kq (fuel:=15) kv hk
 have et:ss=tev t (thv o (hd++tl)):=by
  rw[← tk _ ss kv]
  exact jc tag ot
 subst et
 have ea:dC 15 [d,.tup ((bP o (hd++tl) (List.replicate m 0)).map .int)] S2=okO (jD (tev t (thv o (hd++tl)))) S2:=ea
 have ap:on (.loc lf) (jD (tev t (thv o (hd++tl)))) S2=okO .non (S2.set lf (.lst (ws++[jD (tev t (thv o (hd++tl)))]))):=by
  unfold on
  simp only[hf2]
  rw[if_pos (Nat.lt_of_le_of_lt hws (by decide))]
 refine⟨some (.loc (S.length+1)),x',y',S2.set lf (.lst (ws++[jD (tev t (thv o (hd++tl)))])),?_,oj hf2 _,λi mo hi e=>?_⟩
 ·have sl:(1:Nat)<=sizeLine:=by decide
  unfold cv
  generalize jD (tev t (thv o (hd++tl)))=nd at *
  generalize S2.set lf (.lst (ws++[nd]))=S3 at *
  generalize (bP o (hd++tl) (List.replicate m 0)).map D.int=il at *
  generalize i_ (o.map λ(c:Nat)=>D.int c) ((hd++tl).map .int)=zl at *
  generalize thD (hd++tl)=tht at *
  generalize thD hd=thh at *
  generalize thD tl=thl at *
  generalize oD o=od at *
  generalize hS1:(S++[.lst [.int 0]]:Sto)=S1 at *
  generalize (S1++[.lst ((List.replicate m 0).map .int)]:Sto)=S1b at *
  simp[sl,ln,hS1,rp,ad,zd,el,lf2,l2,tl2,ea,ap]
 ·rw[List.getElem?_set_ne (Ne.symm hi)]
  exact hkp i mo e
theorem v_ {m:Nat}(hm:m<=10){o:List Nat}(pm:o.Perm (List.range m)){k:Nat}(hk:k<15){d:D}(kq:KQ m k d){t:Tr}(ot:Ord o t)(tk:∀ th ss,Kv th d ss->tev t th=ss){hd:List Int}{i:Nat}(hi:i<=m)(hh:f_ i hd)(S:Sto) :
  ∃ S',fA [d,oD o,thD hd] S=okO (b_ ((ths (m-i)).map λtl=>tev t (thv o (hd++tl)))) S'/\Kp S S':=by
 have hol:o.length=m:=by rw[pm.length_eq,List.length_range]
 have th:=me (m:=m-i) (by omega) (S++[.lst []])
 have ln:cm [oD o]=some (.int m):=by simp[cm,hol]
 have lh:cm [thD hd]=some (.int i):=by simp[cm,thD,hh.1]
 have sb:oQ (.int m) (.int i)=some (.int ((m-i:Nat):Int)):=by
  show some (D.int ((m:Int)-i))=_
  rw[show (m:Int)-i=((m-i:Nat):Int) by omega]
 have p10 : 2 ^ (m-i)<=2 ^ 10:=Nat.pow_le_pow_right (by decide) (by omega)
 have e10 : 2 ^ 10=1024:=rfl
 have lt:=eW (m-i)
 obtain⟨ρ',S',el,hs,kp,a,b,c,e,rfl⟩:=ck (u:=aH 4) (body:=cv) (λj ρ S'=>S'[S.length]?=some (.lst (((ths (m-i)).take j).map λtl=>jD (tev t (thv o (hd++tl)))))/\KpE S.length (S++[.lst []]) S'/\∃ a b c e,ρ=[some d,some (oD o),some (thD hd),some (.loc S.length),e,a,b,c])
  (tsD (ths (m-i))) 0 [some d,some (oD o),some (thD hd),some (.loc S.length),none,none,none,none] (S++[.lst []]) ⟨tI S _,λ_ _ _ e=>e,none,none,none,none,rfl⟩ (by
   rintro j dd ρ S1 hj ⟨hs,kp,a,b,c,e,rfl⟩
   rw[List.getElem?_map] at hj
   obtain⟨tl,hj',rfl⟩:=Option.map_eq_some_iff.mp hj
   have htl:=(cI _ _).mp (List.mem_of_getElem? hj')
   have hjl:=(List.getElem?_eq_some_iff.mp hj').1
   simp only[Nat.zero_add] at hs ⊢
   have hv:f_ m (hd++tl):=⟨by rw[List.length_append,hh.1,htl.1];omega,λx hx=>(List.mem_append.mp hx).elim (hh.2 x) (htl.2 x)⟩
   obtain⟨a',b',c',S2,eb,h1,h2⟩:=rz hm pm hk kq ot tk hv hs (by rw[List.length_map,List.length_take];omega) a b c
   refine⟨[some d,some (oD o),some (thD hd),some (.loc S.length),some (thD tl),a,b,c],rfl,_,S2,eb,?_,λi' mo hi' e'=>h2 i' mo hi' (kp i' mo hi' e'),_,_,_,_,rfl⟩
   rw[h1,List.take_add_one,hj']
   simp)
 simp only[Nat.zero_add,List.length_map] at hs
 rw[List.take_length] at hs
 have l2:=nT hs
 have tl2:((ths (m-i)).map λtl=>jD (tev t (thv o (hd++tl)))).length<=sizeLine:=by rw[List.length_map,lt];exact Nat.le_trans (show _<=1024 by omega) (by decide)
 refine⟨S',az rfl ?_,λi' mo e'=>?_⟩
 ·have q:b_ ((ths (m-i)).map λtl=>tev t (thv o (hd++tl))) = .tup ((ths (m-i)).map λtl=>jD (tev t (thv o (hd++tl)))):=by
   unfold b_;rw[List.map_map];rfl
  rw[q]
  unfold iM
  have si:eX (.lst (tsD (ths (m-i))))=some (tsD (ths (m-i))):=rfl
  generalize (ths (m-i)).map (λtl=>jD (tev t (thv o (hd++tl))))=rs at *
  generalize tsD (ths (m-i))=tss at *
  generalize thD hd=thh at *
  generalize oD o=od at *
  simp only[wl,AU,zG,cu]
  simp[ln,lh,sb,th,si,el,l2,tl2]
 ·have hi':=(List.getElem?_eq_some_iff.mp e').1
  exact kp i' mo (by omega) (Kp.push S _ _ _ e')
theorem d_ {o:List Nat}{k:Nat}{a b:Th}(h:∀ c∈o,k<=o.idxOf c->a c=b c):∀ {s:Tr},Ord o s->k<=tp o s->tev s a=tev s b
 | .leaf _,_,_=>rfl
 | .node c n y,⟨h1,h2,h3,h4,h5,_⟩,hk=>by
  have hk:k<=o.idxOf c:=hk
  show (if a c=true then tev y a else tev n a)=(if b c=true then tev y b else tev n b)
  rw[h c h1 hk,d_ h h2 (by omega),d_ h h3 (by omega)]
def rsd (o:List Nat)(vs:List Int):Tr->Tr
 | .leaf ss => .leaf ss
 | .node c n y=>if o.idxOf c<vs.length then (if vs.getD (o.idxOf c) 0=1 then rsd o vs y else rsd o vs n) else .node c n y
def thI (o:List Nat)(i:Nat)(tl:List Int):Th:=λc=>decide (tl.getD (o.idxOf c-i) 0=1)
theorem pN {a b:List Int}(i:Nat):(a++b).getD i 0=if i<a.length then a.getD i 0 else b.getD (i-a.length) 0:=by
 simp only[List.getD]
 split
 ·rw[List.getElem?_append_left (by assumption)]
 ·rw[List.getElem?_append_right (by omega)]
theorem de {o:List Nat}{vs:List Int}(hl:vs.length<=o.length):∀ {t:Tr},Ord o t->Ord o (rsd o vs t)/\vs.length<=tp o (rsd o vs t)/\Sub (rsd o vs t) t/\∀ tl,tev t (thv o (vs++tl))=tev (rsd o vs t) (thI o vs.length tl)
 | .leaf ss,_=>⟨trivial,hl,.refl _,λ_=>rfl⟩
 | .node c n y,ot=>by
  obtain⟨h1,h2,h3,h4,h5,h6⟩:=id ot
  unfold rsd
  by_cases hc:o.idxOf c<vs.length
  ·rw[if_pos hc]
   have key:∀ tl,thv o (vs++tl) c=decide (vs.getD (o.idxOf c) 0=1):=λtl=>by
    unfold thv;rw[pN,if_pos hc]
   by_cases hv:vs.getD (o.idxOf c) 0=1
   ·rw[if_pos hv]
    obtain⟨a,b,e,f⟩:=de hl h3
    refine⟨a,b,.yes e,λtl=>?_⟩
    show (if thv o (vs++tl) c=true then tev y _ else tev n _)=_
    rw[key tl,decide_eq_true hv,if_pos rfl];exact f tl
   ·rw[if_neg hv]
    obtain⟨a,b,e,f⟩:=de hl h2
    refine⟨a,b,.no e,λtl=>?_⟩
    show (if thv o (vs++tl) c=true then tev y _ else tev n _)=_
    rw[key tl,decide_eq_false hv,if_neg (by decide)];exact f tl
  ·rw[if_neg hc]
   refine⟨ot,by show vs.length<=o.idxOf c;omega,.refl _,λtl=>d_ (k:=vs.length) (λd hd hk=>?_) ot (by show vs.length<=o.idxOf c;omega)⟩
   unfold thv thI
   rw[pN,if_neg (by omega)]
theorem gp {o:List Nat}{k:Nat}{vs vs':List Int}(hl:vs.length=vs'.length)(h:∀ i,k<=i->vs.getD i 0=vs'.getD i 0):∀ {t:Tr},Ord o t->k<=tp o t->rsd o vs t=rsd o vs' t
 | .leaf _,_,_=>rfl
 | .node c n y,⟨h1,h2,h3,h4,h5,_⟩,hk=>by
  have hk:k<=o.idxOf c:=hk
  unfold rsd
  rw[hl,h _ hk,gp hl h h2 (by omega),gp hl h h3 (by omega)]
theorem iK (vs:List Int)(i j:Nat)(v:Int)(hi:i<vs.length):(vs.set i v).getD j 0=if j=i then v else vs.getD j 0:=by
 simp only[List.getD]
 by_cases h:j=i
 ·subst h;rw[List.getElem?_set_self hi,if_pos rfl];rfl
 ·rw[List.getElem?_set_ne (Ne.symm h),if_neg h]
theorem ve {k:Nat}{vs:List Int}(h:f_ k vs)(i:Nat){v:Int}(hv:v=0∨v=1):f_ k (vs.set i v):=
 ⟨by rw[List.length_set];exact h.1,λx hx=>(List.mem_or_eq_of_mem_set hx).elim (h.2 x) λe=>by rw[e];exact hv⟩
theorem mn {o:List Nat}{s t:Tr}(h:Sub s t):Ord o t->∃ vs,f_ (tp o s) vs/\rsd o vs t=s/\tp o t<=tp o s/\tp o s<=o.length:=by
 induction h with
 |refl =>
  intro ot
  have hle:tp o s<=o.length:=by
   cases s with
   |leaf _=>exact Nat.le_refl _
   |node c n y=>exact List.idxOf_le_length
  refine⟨List.replicate (tp o s) 0,⟨by simp,λx hx => .inl (List.eq_of_mem_replicate hx)⟩,?_,Nat.le_refl _,hle⟩
  cases s with
  |leaf _=>rfl
  |node c n y =>
   have q:¬ o.idxOf c<(List.replicate (tp o (.node c n y)) (0:Int)).length:=by rw[List.length_replicate];exact Nat.lt_irrefl _
   unfold rsd
   rw[if_neg q]
 | @no c n y _ ih =>
  intro ot
  obtain⟨h1,h2,h3,h4,h5,_⟩:=ot
  obtain⟨vs,ok,e,l1,l2⟩:=ih h2
  have hc:o.idxOf c<vs.length:=by rw[ok.1];omega
  refine⟨vs.set (o.idxOf c) 0,ve ok _ (.inl rfl),?_,by show o.idxOf c<=_;omega,l2⟩
  unfold rsd
  rw[if_pos (by rw[List.length_set];exact hc),iK _ _ _ _ hc,if_pos rfl,if_neg (by decide),← e]
  exact gp (k:=o.idxOf c+1) (by rw[List.length_set]) (λi hi=>by rw[iK _ _ _ _ hc,if_neg (by omega)]) h2 (by omega)
 | @yes c n y _ ih =>
  intro ot
  obtain⟨h1,h2,h3,h4,h5,_⟩:=ot
  obtain⟨vs,ok,e,l1,l2⟩:=ih h3
  have hc:o.idxOf c<vs.length:=by rw[ok.1];omega
  refine⟨vs.set (o.idxOf c) 1,ve ok _ (.inr rfl),?_,by show o.idxOf c<=_;omega,l2⟩
  unfold rsd
  rw[if_pos (by rw[List.length_set];exact hc),iK _ _ _ _ hc,if_pos rfl,if_pos rfl,← e]
  exact gp (k:=o.idxOf c+1) (by rw[List.length_set]) (λi hi=>by rw[iK _ _ _ _ hc,if_neg (by omega)]) h3 (by omega)
def Tb (o:List Nat)(i:Nat)(s:Tr):List (List Str):=(ths (o.length-i)).map λtl=>tev s (thI o i tl)
theorem wJ {o:List Nat}{i:Nat}(hi:i<=o.length){s s':Tr}(os:Ord o s)(os':Ord o s')(h:i<=tp o s)(h':i<=tp o s')(e:Tb o i s=Tb o i s'):s=s':=by
 unfold Tb at e
 have e:=List.map_inj_left.mp e
 refine canon _ (Nat.le_refl _) os os' λth=>?_
 let tl:List Int:=(List.range (o.length-i)).map λj=>if th (o.getD (i+j) 0)=true then 1 else 0
 have hm:tl∈ths (o.length-i):=(cI _ _).mpr ⟨by simp[tl],λx hx=>by
  obtain⟨j,_,rfl⟩:=List.mem_map.mp hx
  split
  ·exact .inr rfl
  ·exact .inl rfl⟩
 have ag:∀ c∈o,i<=o.idxOf c->th c=thI o i tl c:=λc hc hk=>by
  have hlt:=List.idxOf_lt_length_of_mem hc
  have q:tl.getD (o.idxOf c-i) 0=if th c=true then 1 else 0:=by
   simp only[tl,List.getD,List.getElem?_map]
   rw[List.getElem?_range (by omega)]
   have:o[i+(o.idxOf c-i)]?=some c:=by
    rw[show i+(o.idxOf c-i)=o.idxOf c by omega,List.getElem?_eq_getElem hlt];simp
   simp[this]
  unfold thI
  rw[q]
  cases th c<;>simp
 rw[d_ ag os h,d_ ag os' h']
 exact e tl hm
theorem yb {o:List Nat}{i:Nat}(hi:i<o.length){s:Tr}(os:Ord o s)(h:i<=tp o s) :
  (Tb o i s).length=2*2 ^ (o.length-i-1)/\((Tb o i s).take (2 ^ (o.length-i-1))=(Tb o i s).drop (2 ^ (o.length-i-1))↔tp o s≠i):=by
 have ek:o.length-i=(o.length-i-1)+1:=by omega
 have eT:Tb o i s=(ths (o.length-i-1)).map (λtl=>tev s (thI o i (0::tl)))++(ths (o.length-i-1)).map λtl=>tev s (thI o i (1::tl)):=by
  unfold Tb
  rw[ek,ths,List.map_append,List.map_map,List.map_map]
  rfl
 have l1:=eW (o.length-i-1)
 have cons_at:∀ (v:Int) (tl:List Int) (c:Nat),i+1<=o.idxOf c->thI o i (v::tl) c=thI o (i+1) tl c:=λv tl c hc=>by
  unfold thI
  rw[show o.idxOf c-i=(o.idxOf c-(i+1))+1 by omega]
  rfl
 have go:∀ (v:Int) (u:Tr),Ord o u->i+1<=tp o u->∀ tl,tev u (thI o i (v::tl))=tev u (thI o (i+1) tl):=λv u ou hu tl=>d_ (k:=i+1) (λc _ hc=>cons_at v tl c hc) ou hu
 rw[eT]
 refine⟨by rw[List.length_append,List.length_map,List.length_map,l1];omega,?_⟩
 rw[List.take_append_of_le_length (by rw[List.length_map,l1];exact Nat.le_refl _),List.take_of_length_le (by rw[List.length_map,l1];exact Nat.le_refl _),List.drop_append_of_le_length (by rw[List.length_map,l1];exact Nat.le_refl _),List.drop_of_length_le (by rw[List.length_map,l1];exact Nat.le_refl _),List.nil_append]
 constructor
 ·intro e hti
  cases s with
  |leaf ss=>have:o.length=i:=hti;omega
  |node c n y =>
   have hti:o.idxOf c=i:=hti
   obtain⟨h1,h2,h3,h4,h5,h6⟩:=os
   refine h6 (wJ (i:=i+1) (by omega) h2 h3 (by omega) (by omega) ?_)
   unfold Tb
   rw[show o.length-(i+1)=o.length-i-1 by omega]
   have e:=List.map_inj_left.mp e
   refine List.map_congr_left λtl htl=>?_
   have q:=e tl htl
   have v0:thI o i (0::tl) c=false:=by unfold thI;rw[hti,Nat.sub_self];rfl
   have v1:thI o i (1::tl) c=true:=by unfold thI;rw[hti,Nat.sub_self];rfl
   have q0:tev (.node c n y) (thI o i (0::tl))=tev n (thI o i (0::tl)):=by show (if _=true then _ else _)=_;rw[v0];rfl
   have q1:tev (.node c n y) (thI o i (1::tl))=tev y (thI o i (1::tl)):=by show (if _=true then _ else _)=_;rw[v1];rfl
   rw[q0,q1,go 0 n h2 (by omega),go 1 y h3 (by omega)] at q
   exact q
 ·intro hti
  refine List.map_congr_left λtl _=>?_
  rw[go 0 s os (by omega),go 1 s os (by omega)]
def oO (T:List (List Str)):PyData:=.tuple (T.map λss => .tuple (ss.map .str))
def TOk (T:List (List Str)):Prop:=∀ ss∈T,∀ x∈ss,cB x=true
theorem qE:∀ T:List (List Str),cZ (T.map jD)=some (T.map λss => .tuple (ss.map .str))
 |[]=>rfl
 |ss::T=>by
  rw[List.map_cons,cZ,qE T]
  have:toPy (jD ss)=some (.tuple (ss.map .str)):=by rw[toPy,gS];rfl
  rw[this];rfl
theorem nB {T:List (List Str)}(h:TOk T):dD (b_ T)=some (oO T):=by
 have e:toPy (b_ T)=some (oO T):=by rw[toPy,qE];rfl
 have k:keyOk 8 (oO T)=true:=by
  show (T.map λss=>PyData.tuple (ss.map .str)).all (keyOk 7)=true
  rw[List.all_eq_true]
  intro p hp
  obtain⟨ss,hs,rfl⟩:=List.mem_map.mp hp
  show (ss.map PyData.str).all (keyOk 6)=true
  rw[List.all_eq_true]
  intro q hq
  obtain⟨x,hx,rfl⟩:=List.mem_map.mp hq
  exact sI (h ss hs x hx)
 unfold dD
 rw[e,Option.bind_some,if_pos k]
theorem kG:∀ a b:List (List Str),PyData.eqvAll (a.map λss => .tuple (ss.map .str)) (b.map λss => .tuple (ss.map .str))=decide (a=b)
 |[],[]=>rfl
 |[],_::_=>by simp[PyData.eqvAll]
 |_::_,[]=>by simp[PyData.eqvAll]
 |x::a,y::b=>by
  rw[List.map_cons,List.map_cons,PyData.eqvAll,kG a b,PyData.eqv,lp]
  by_cases h:x=y<;>by_cases h2:a=b<;>simp[h,h2]
theorem u7 {a b:List (List Str)}(ha:TOk a)(hb:TOk b):cA (b_ a) (b_ b)=decide (a=b):=by
 unfold cA
 rw[nB ha,nB hb]
 show PyData.eqv (oO a) (oO b)=_
 unfold oO
 rw[PyData.eqv,kG]
def dkN (U:List (List (List Str))):List (D×D):=U.map λT=>(b_ T,.bl true)
theorem zI {U:List (List (List Str))}(hU:∀ T∈U,TOk T){T:List (List Str)}(hT:TOk T):putN (dkN U) (b_ T) (.bl true)=dkN (jw U T):=by
 have ea:((dkN U).any λp=>cA p.1 (b_ T))=decide (T∈U):=by
  unfold dkN
  rw[List.any_map]
  induction U with
  |nil=>rfl
  |cons V U ih =>
   rw[List.any_cons,ih λx hx=>hU x (List.mem_cons_of_mem _ hx)]
   simp only[Function.comp,u7 (hU V (List.mem_cons_self ..)) hT]
   by_cases h:V=T
   ·subst h;simp
   ·have h':¬ T=V:=λq=>h q.symm
    simp[h,h']
 unfold putN jw
 rw[ea]
 by_cases h:T∈U
 ·rw[if_pos (decide_eq_true h),if_pos h]
  unfold dkN
  rw[List.map_map]
  refine List.map_congr_left λV hV=>?_
  simp only[Function.comp]
  split<;>rfl
 ·rw[if_neg (by rw[decide_eq_false h];decide),if_neg h]
  unfold dkN
  rw[List.map_append];rfl
theorem yB (a b:List (List Str)):neD (b_ a) (b_ b)=some (.bl (!decide (a=b))):=by
 have e:∀ T,toPy (b_ T)=some (oO T):=λT=>by rw[toPy,qE];rfl
 have hd:∀ T:List (List Str),PyData.depthAll (T.map λss=>PyData.tuple (ss.map .str))<=1:=λT=>by
  induction T with
  |nil=>simp[PyData.depthAll]
  |cons x T ih=>rw[List.map_cons,PyData.depthAll,PyData.depth,lq];omega
 have h1:=hd a
 unfold neD
 rw[e a,e b]
 simp only[oO,PyData.eqv,kG]
 rw[if_pos (by simp only[PyData.depth];omega)]
theorem jb {o:List Nat}:∀ {t:Tr},qm t->∀ th,∀ x∈tev t th,cB x=true
 | .leaf ss,h,_,x,hx=>h.1 x hx
 | .node c n y,h,th,x,hx=>by
  have hx:x∈(if th c=true then tev y th else tev n th):=hx
  split at hx
  ·exact jb (o:=o) h.2 th x hx
  ·exact jb (o:=o) h.1 th x hx
def stp (o:List Nat)(t:Tr)(i:Nat)(U:List (List (List Str)))(hd:List Int):List (List (List Str)):=if tp o (rsd o hd t)=i then jw U (Tb o i (rsd o hd t)) else U
theorem AL {K:Type}[DecidableEq K](U:List K)(V:K):(U.Nodup->(jw U V).Nodup)/\∀ T,T∈jw U V↔T∈U∨T=V:=by
 unfold jw
 by_cases h:V∈U
 ·rw[if_pos h]
  exact⟨id,λT=>⟨.inl,λq=>q.elim id λe=>by rw[e];exact h⟩⟩
 ·rw[if_neg h]
  refine⟨λnd=>List.nodup_append.mpr ⟨nd,by simp,λa ha b hb e=>h ?_⟩,λT=>by simp⟩
  rw[List.mem_singleton.mp hb] at e;rw[← e];exact ha
theorem sW (o:List Nat)(t:Tr)(i:Nat):∀ (hs:List (List Int)) (U:List (List (List Str))),(U.Nodup->(hs.foldl (stp o t i) U).Nodup)/\∀ T,T∈hs.foldl (stp o t i) U↔T∈U∨∃ hd∈hs,tp o (rsd o hd t)=i/\T=Tb o i (rsd o hd t)
 |[],U=>⟨id,λT=>⟨.inl,λq=>q.elim id λ⟨_,h,_⟩=>by cases h⟩⟩
 |hd::hs,U=>by
  obtain⟨a,b⟩:=sW o t i hs (stp o t i U hd)
  obtain⟨c,d⟩:=AL U (Tb o i (rsd o hd t))
  rw[List.foldl_cons]
  refine⟨λnd=>a ?_,λT=>?_⟩
  ·unfold stp;split
   ·exact c nd
   ·exact nd
  ·rw[b T]
   constructor
   ·rintro (h |⟨x,hx,q⟩)
    ·unfold stp at h
     split at h
     ·rename_i e
      rcases (d T).mp h with h |h
      ·exact .inl h
      ·exact .inr ⟨hd,List.mem_cons_self ..,e,h⟩
     ·exact .inl h
    ·exact .inr ⟨x,List.mem_cons_of_mem _ hx,q⟩
   ·rintro (h |⟨x,hx,q1,q2⟩)
    ·left;unfold stp;split
     ·exact (d T).mpr (.inl h)
     ·exact h
    ·rcases List.mem_cons.mp hx with rfl |hx
     ·left;unfold stp;rw[if_pos q1];exact (d T).mpr (.inr q2)
     ·exact .inr ⟨x,hx,q1,q2⟩
def fx (o:List Nat)(t:Tr)(k:Nat):List (List (List Str)):=(List.range k).foldl (λU i=>(ths i).foldl (stp o t i) U) []
theorem tM (o:List Nat)(t:Tr):∀ k,(fx o t k).Nodup/\∀ T,T∈fx o t k↔∃ i,i<k/\∃ hd∈ths i,tp o (rsd o hd t)=i/\T=Tb o i (rsd o hd t)
 | 0=>by
  refine⟨List.nodup_nil,λT=>⟨λh=>?_,λh=>?_⟩⟩
  ·have h:T∈([]:List (List (List Str))):=h
   cases h
  ·obtain⟨i,hi,_⟩:=h
   omega
 |k+1=>by
  obtain⟨a,b⟩:=tM o t k
  have e:fx o t (k+1)=(ths k).foldl (stp o t k) (fx o t k):=by unfold fx;rw[List.range_succ,List.foldl_append];rfl
  obtain⟨c,d⟩:=sW o t k (ths k) (fx o t k)
  rw[e]
  refine⟨c a,λT=>?_⟩
  rw[d T,b T]
  constructor
  ·rintro (⟨i,hi,q⟩ |q)
   ·exact⟨i,by omega,q⟩
   ·exact⟨k,by omega,q⟩
  ·rintro⟨i,hi,q⟩
   rcases Nat.lt_or_ge i k with h |h
   ·exact .inl ⟨i,h,q⟩
   ·have:i=k:=by omega
    subst this;exact .inr q
theorem wH {o:List Nat}{t:Tr}(ot:Ord o t):(fx o t (o.length+1)).length=(po t []).length:=by
 obtain⟨nd,hm⟩:=tM o t (o.length+1)
 have sub:∀ s∈po t [],Sub s t:=λs hs=>(iE t [] s hs).elim (λh=>by cases h) id
 have fact:∀ s∈po t [],Ord o s/\tp o s<=o.length:=λs hs=>by
  obtain⟨vs,ok,e,_,l⟩:=mn (sub s hs) ot
  exact⟨by rw[← e];exact (de (by rw[ok.1];exact l) ot).1,l⟩
 have pm:(fx o t (o.length+1)).Perm ((po t []).map λs=>Tb o (tp o s) s):=by
  refine (List.perm_ext_iff_of_nodup nd ?_).mpr λT=>?_
  ·unfold List.Nodup
   rw[List.pairwise_map]
   refine List.Pairwise.imp_of_mem ?_ (kW t List.nodup_nil)
   intro a b ha hb hne e
   obtain⟨oa,la⟩:=fact a ha
   obtain⟨ob,lb⟩:=fact b hb
   have hl:=congrArg List.length e
   unfold Tb at hl
   rw[List.length_map,List.length_map,eW,eW] at hl
   have hk:o.length-tp o a=o.length-tp o b:=(Nat.pow_right_inj (by decide)).mp hl
   have hab:tp o a=tp o b:=by omega
   rw[hab] at e
   exact hne (wJ lb oa ob (by omega) (Nat.le_refl _) e)
  ·rw[hm T,List.mem_map]
   constructor
   ·rintro⟨i,hi,hd,hh,e1,e2⟩
    have ok:=(cI i hd).mp hh
    obtain⟨_,_,sb,_⟩:=de (o:=o) (vs:=hd) (by rw[ok.1];omega) ot
    exact⟨rsd o hd t,(jl t xP).sub sb (nQ t []),by rw[e1,e2]⟩
   ·rintro⟨s,hs,rfl⟩
    obtain⟨vs,ok,e,_,l⟩:=mn (sub s hs) ot
    exact⟨tp o s,by omega,vs,(cI _ _).mpr ok,by rw[e],by rw[e]⟩
 rw[pm.length_eq,List.length_map]
theorem u9 {o:List Nat}{t:Tr}(tok:qm t)(ot:Ord o t){i:Nat}(hi:i<=o.length){hd:List Int}(hh:f_ i hd){U:List (List (List Str))}(hU:∀ T∈U,TOk T):TOk (Tb o i (rsd o hd t))/\∀ T∈stp o t i U hd,TOk T:=by
 have q:TOk (Tb o i (rsd o hd t)):=by
  intro ss hs x hx
  obtain⟨tl,_,rfl⟩:=List.mem_map.mp hs
  have f:=(de (o:=o) (vs:=hd) (by rw[hh.1];exact hi) ot).2.2.2 tl
  rw[hh.1] at f
  rw[← f] at hx
  exact jb (o:=o) tok _ x hx
 refine⟨q,λT hT=>?_⟩
 unfold stp at hT
 split at hT
 ·rcases ((AL U _).2 T).mp hT with h |h
  ·exact hU T h
  ·rw[h];exact q
 ·exact hU T hT
theorem zQ (s wd:D){m:Nat}(hm:m<=10){o:List Nat}(pm:o.Perm (List.range m)){k:Nat}(hk:k<15){d:D}(kq:KQ m k d){t:Tr}(ot:Ord o t)(tok:qm t)(tk:∀ th ss,Kv th d ss->tev t th=ss){i:Nat}(hi:i<=m){hd:List Int}(hh:f_ i hd)
  {S:Sto}{ld:Nat}{U:List (List (List Str))}(hs:S[ld]?=some (.dictN (dkN U))) (hU:∀ T∈U,TOk T) (hl:U.length<=5000) (a b:Option D) :
  ∃ a' b' S',gG [some s,some (.int m),some wd,some d,some (oD o),some (.loc ld),some (.int i),some (thD hd),a,b] S=okO (.next [some s,some (.int m),some wd,some d,some (oD o),some (.loc ld),some (.int i),some (thD hd),a',b']) S'/\S'[ld]?=some (.dictN (dkN (stp o t i U hd))):=by
 have hol:o.length=m:=by rw[pm.length_eq,List.length_range]
 obtain⟨S1,eg,kp⟩:=v_ hm pm hk kq ot tk hi hh S
 obtain⟨ros,rle,_,rte⟩:=de (o:=o) (vs:=hd) (t:=t) (by rw[hh.1,hol];exact hi) ot
 have eT:(ths (m-i)).map (λtl=>tev t (thv o (hd++tl)))=Tb o i (rsd o hd t):=by
  unfold Tb
  rw[hol]
  refine List.map_congr_left λtl _=>?_
  rw[rte tl,hh.1]
 rw[eT] at eg
 rw[hh.1] at rle
 obtain⟨qT,_⟩:=u9 tok ot (by rw[hol];exact hi) hh hU
 have hs1:=kp _ _ hs
 have key:=nB qT
 have ep:∀ ρ,iD (.loc ld) (b_ (Tb o i (rsd o hd t))) (.bl true) ρ S1=okO (.next ρ) (S1.set ld (.dictN (dkN (jw U (Tb o i (rsd o hd t)))))):=λρ=>by
  unfold iD
  simp only[hs1,key]
  rw[if_pos ⟨by unfold dkN;rw[List.length_map];exact Nat.lt_of_le_of_lt hl (by decide),rfl⟩,zI hU qT]
 have lt:cm [b_ (Tb o i (rsd o hd t))]=some (.int (Tb o i (rsd o hd t)).length):=by simp[cm]
 have fd:du (.int (Tb o i (rsd o hd t)).length) (.int 2)=some (.int (((Tb o i (rsd o hd t)).length:Int) / 2)):=eP (by decide) (by decide)
 rcases Nat.lt_or_ge i m with hlt |hge
 ·have hne:¬ (i:Int)=m:=by omega
  obtain⟨l2,hf⟩:=yb (o:=o) (i:=i) (by omega) ros rle
  have e2:((Tb o i (rsd o hd t)).length:Int) / 2=((2 ^ (o.length-i-1):Nat):Int):=by rw[l2];omega
  rw[e2] at fd
  have s1:slD (b_ (Tb o i (rsd o hd t))) none (some ((2 ^ (o.length-i-1):Nat):Int))=some (b_ ((Tb o i (rsd o hd t)).take (2 ^ (o.length-i-1)))):=by
   simp only[slD];rw[wp,← List.map_take]
  have s2:slD (b_ (Tb o i (rsd o hd t))) (some ((2 ^ (o.length-i-1):Nat):Int)) none=some (b_ ((Tb o i (rsd o hd t)).drop (2 ^ (o.length-i-1)))):=by
   simp only[slD];rw[wt,← List.map_drop]
  have ne:=yB ((Tb o i (rsd o hd t)).take (2 ^ (o.length-i-1))) ((Tb o i (rsd o hd t)).drop (2 ^ (o.length-i-1)))
  generalize hn:((2 ^ (o.length-i-1):Nat):Int)=hv at *
  by_cases htp:tp o (rsd o hd t)=i
  ·rw[decide_eq_false (λz=>(hf.mp z) htp)] at ne
   refine⟨some (b_ (Tb o i (rsd o hd t))),some (.int hv),S1.set ld (.dictN (dkN (jw U (Tb o i (rsd o hd t))))),?_,by unfold stp;rw[if_pos htp];exact oj hs1 _⟩
   unfold gG
   generalize S1.set ld (.dictN (dkN (jw U (Tb o i (rsd o hd t)))))=S2 at *
   generalize b_ ((Tb o i (rsd o hd t)).take (2 ^ (o.length-i-1)))=t1 at *
   generalize b_ ((Tb o i (rsd o hd t)).drop (2 ^ (o.length-i-1)))=t2 at *
   generalize b_ (Tb o i (rsd o hd t))=tt at *
   generalize (Tb o i (rsd o hd t)).length=ll at *
   generalize thD hd=thh at *
   generalize oD o=od at *
   simp[eg,lt,fd,hne,rh,s1,s2,ne,ep]
  ·rw[decide_eq_true (hf.mpr htp)] at ne
   refine⟨some (b_ (Tb o i (rsd o hd t))),some (.int hv),S1,?_,by unfold stp;rw[if_neg htp];exact hs1⟩
   unfold gG
   generalize b_ ((Tb o i (rsd o hd t)).take (2 ^ (o.length-i-1)))=t1 at *
   generalize b_ ((Tb o i (rsd o hd t)).drop (2 ^ (o.length-i-1)))=t2 at *
   generalize b_ (Tb o i (rsd o hd t))=tt at *
   generalize (Tb o i (rsd o hd t)).length=ll at *
   generalize thD hd=thh at *
   generalize oD o=od at *
   simp[eg,lt,fd,hne,rh,s1,s2,ne]
 ·have him:i=m:=by omega
  have htp:tp o (rsd o hd t)=i:=by
   have:tp o (rsd o hd t)<=o.length:=by
    cases rsd o hd t with
    |leaf _=>exact Nat.le_refl _
    |node c n y=>exact List.idxOf_le_length
   omega
  have he:(i:Int)=m:=by omega
  refine⟨some (b_ (Tb o i (rsd o hd t))),some (.int (((Tb o i (rsd o hd t)).length:Int) / 2)),S1.set ld (.dictN (dkN (jw U (Tb o i (rsd o hd t))))),?_,by unfold stp;rw[if_pos htp];exact oj hs1 _⟩
  unfold gG
  generalize S1.set ld (.dictN (dkN (jw U (Tb o i (rsd o hd t)))))=S2 at *
  generalize b_ (Tb o i (rsd o hd t))=tt at *
  generalize (Tb o i (rsd o hd t)).length=ll at *
  generalize thD hd=thh at *
  generalize oD o=od at *
  simp[eg,lt,fd,he,ep]
theorem jx (o:List Nat)(t:Tr)(i:Nat):∀ (hs:List (List Int)) (U:List (List (List Str))),(hs.foldl (stp o t i) U).length<=U.length+hs.length
 |[],U=>Nat.le_refl _
 |hd::hs,U=>by
  rw[List.foldl_cons]
  have a:=jx o t i hs (stp o t i U hd)
  have b:(stp o t i U hd).length<=U.length+1:=by
   unfold stp jw
   split
   ·split
    ·omega
    ·rw[List.length_append];simp
   ·omega
  rw[List.length_cons];omega
theorem xK (s wd:D){m:Nat}(hm:m<=10){o:List Nat}(pm:o.Perm (List.range m)){k:Nat}(hk:k<15){d:D}(kq:KQ m k d){t:Tr}(ot:Ord o t)(tok:qm t)(tk:∀ th ss,Kv th d ss->tev t th=ss){i:Nat}(hi:i<=m)
  {S:Sto}{ld:Nat}{U:List (List (List Str))}(hs:S[ld]?=some (.dictN (dkN U))) (hU:∀ T∈U,TOk T) (hl:U.length<=3000) (z a b:Option D) :
  ∃ z' a' b' S',gF [some s,some (.int m),some wd,some d,some (oD o),some (.loc ld),some (.int i),z,a,b] S=okO (.next [some s,some (.int m),some wd,some d,some (oD o),some (.loc ld),some (.int i),z',a',b']) S'/\S'[ld]?=some (.dictN (dkN ((ths i).foldl (stp o t i) U)))/\∀ T∈(ths i).foldl (stp o t i) U,TOk T:=by
 have hol:o.length=m:=by rw[pm.length_eq,List.length_range]
 have th:=me (m:=i) (by omega) S
 have p10 : 2 ^ i<=2 ^ 10:=Nat.pow_le_pow_right (by decide) (by omega)
 have e10 : 2 ^ 10=1024:=rfl
 have lt:=eW i
 obtain⟨ρ',S',el,hs',hU',z',a',b',rfl⟩:=ck (u:=aH 7) (body:=gG) (λj ρ S'=>S'[ld]?=some (.dictN (dkN (((ths i).take j).foldl (stp o t i) U)))/\(∀ T∈((ths i).take j).foldl (stp o t i) U,TOk T)/\∃ z a b,ρ=[some s,some (.int m),some wd,some d,some (oD o),some (.loc ld),some (.int i),z,a,b])
  (tsD (ths i)) 0 [some s,some (.int m),some wd,some d,some (oD o),some (.loc ld),some (.int i),z,a,b] S ⟨hs,hU,z,a,b,rfl⟩ (by
   rintro j dd ρ S1 hj ⟨hs,hU,z,a,b,rfl⟩
   rw[List.getElem?_map] at hj
   obtain⟨hd,hj',rfl⟩:=Option.map_eq_some_iff.mp hj
   have hh:=(cI _ _).mp (List.mem_of_getElem? hj')
   simp only[Nat.zero_add] at hs hU ⊢
   have e:(ths i).take (j+1)=(ths i).take j++[hd]:=by rw[List.take_add_one,hj'];rfl
   have fl:=jx o t i ((ths i).take j) U
   rw[List.length_take] at fl
   obtain⟨a',b',S2,eb,h1⟩:=zQ s wd hm pm hk kq ot tok tk hi hh hs hU (by omega) a b
   refine⟨[some s,some (.int m),some wd,some d,some (oD o),some (.loc ld),some (.int i),some (thD hd),a,b],rfl,_,S2,eb,?_,?_,_,_,_,rfl⟩
   ·rw[e,List.foldl_append];exact h1
   ·rw[e,List.foldl_append];exact (u9 tok ot (by rw[hol];exact hi) hh hU).2)
 simp only[Nat.zero_add,List.length_map,List.take_length] at hs' hU'
 refine⟨z',a',b',S',?_,hs',hU'⟩
 unfold gF
 have si:eX (.lst (tsD (ths i)))=some (tsD (ths i)):=rfl
 generalize tsD (ths i)=tss at *
 generalize oD o=od at *
 simp[th,si,el]
theorem zu (ns:List Int)(_:ns.length<=63):∃ S',wL [.lst (ns.map .int)] []=some (.ok (.bl true),S'):=by
 obtain⟨m,ss,kvs,d,o,h1,hm,hl6,hw,hpw,kq,pm,em⟩:=xE ns 6 (by decide) (by decide) []
 rw[List.nil_append] at em
 have em:i0 [.lst (ns.map .int),.int 6] []=okO (.tup [.int m,.tup (ss.map .str),d,oD o]) [.dict kvs]:=em
 have eu:kC 4 (aU (aH 1) (aU (aH 2) (aU (aH 3) (aU (aH 4) gN)))) (.tup [.int m,.tup (ss.map .str),d,oD o]) [some (.lst (ns.map .int)),none,none,none,none,none,none,none,none,none]=some [some (.lst (ns.map .int)),some (.int m),some (.tup (ss.map .str)),some d,some (oD o),none,none,none,none,none]:=rfl
 have nd:o.Nodup:=pm.nodup_iff.mpr List.nodup_range
 have hol:o.length=m:=by rw[pm.length_eq,List.length_range]
 have ho:∀ c,c<m->c∈o:=λc hc=>pm.mem_iff.mpr (List.mem_range.mpr hc)
 obtain⟨t,_,_,ot,tok,_,_,tk,_⟩:=mU nd (by omega) ho (by decide) kq []
 have r1:dI [.int ((m:Int)+1)]=some ((List.range (m+1)).map λ(k:Nat)=>D.int k):=by
  have e:(m:Int)+1=((m+1:Nat):Int):=by omega
  rw[e,vo _ (by omega) (by omega),Int.toNat_natCast]
 have lens:∀ j,(fx o t j).length<=2 ^ j:=by
  intro j
  induction j with
  |zero=>exact Nat.zero_le _
  |succ j ih =>
   have e:fx o t (j+1)=(ths j).foldl (stp o t j) (fx o t j):=by unfold fx;rw[List.range_succ,List.foldl_append];rfl
   have:=jx o t j (ths j) (fx o t j)
   rw[e]
   rw[eW] at this
   rw[Nat.pow_succ];omega
 obtain⟨ρ',S',el,hs,hU,_,z,a,b,e,rfl⟩:=ck (u:=aH 6) (body:=gF) (λj ρ S'=>S'[1]?=some (.dictN (dkN (fx o t j)))/\(∀ T∈fx o t j,TOk T)/\j<=m+1/\∃ z a b e,ρ=[some (.lst (ns.map .int)),some (.int m),some (.tup (ss.map .str)),some d,some (oD o),some (.loc 1),e,z,a,b])
  ((List.range (m+1)).map λ(k:Nat)=>D.int k) 0 [some (.lst (ns.map .int)),some (.int m),some (.tup (ss.map .str)),some d,some (oD o),some (.loc 1),none,none,none,none] [.dict kvs,.dictN []] ⟨rfl,(λT (hT:T∈([]:List (List (List Str))))=>by cases hT),by omega,none,none,none,none,rfl⟩ (by
   rintro j dd ρ S1 hj ⟨hs,hU,hj1,z,a,b,e,rfl⟩
   obtain⟨rfl,hlt⟩:=eD hj
   simp only[Nat.zero_add] at hs hU hj1 ⊢
   have p10 : 2 ^ j<=2 ^ 10:=Nat.pow_le_pow_right (by decide) (by omega)
   have e10 : 2 ^ 10=1024:=rfl
   have:=lens j
   obtain⟨z',a',b',S2,eb,h1',h2'⟩:=xK (.lst (ns.map .int)) (.tup (ss.map .str)) (show m<=10 by omega) pm (by decide) kq ot tok tk (show j<=m by omega) hs hU (by omega) z a b
   have e':fx o t (j+1)=(ths j).foldl (stp o t j) (fx o t j):=by unfold fx;rw[List.range_succ,List.foldl_append];rfl
   refine⟨[some (.lst (ns.map .int)),some (.int m),some (.tup (ss.map .str)),some d,some (oD o),some (.loc 1),some (.int j),z,a,b],rfl,_,S2,eb,?_,?_,by omega,_,_,_,_,rfl⟩
   ·rw[e'];exact h1'
   ·rw[e'];exact h2')
 simp only[Nat.zero_add,List.length_map,List.length_range] at hs
 obtain⟨t',S2,ef,ot',_,_,_,tk',_,fr⟩:=mU nd (by omega) ho (by decide) kq S'
 have htt:t'=t:=by
  refine canon _ (Nat.le_refl _) ot' ot λth=>?_
  obtain⟨ss,kv⟩:=kq.total th
  rw[tk th ss kv,tk' th ss kv]
 subst htt
 have len1:=wH ot
 rw[hol] at len1
 have hs2:S2[1]?=some (.dictN (dkN (fx o t' (m+1)))):=by
  rw[← fr,List.getElem?_take] at hs
  split at hs
  ·exact hs
  ·cases hs
 have ln:cm [wf t']=some (.int (po t' []).length):=by simp[cm,enc]
 have ld:mG (.loc 1) S2=some (.int (po t' []).length):=by
  unfold mG
  simp only[hs2]
  unfold dkN
  rw[List.length_map,len1]
 have ef:eU [d,oD o] S'=okO (wf t') S2:=ef
 have tail:∀ kk:Rho->Sto->Out Fl,kk=(aN (fX (gL dI (ah (aG bw (af 1) (aD (.int 1))) aC)) (aH 6) gF)
  (bJ (aG eqD (bO cm (ah (bi eU (ah (af 3) (ah (af 4) aC))) aC)) (tu (af 5)))))->kk [some (.lst (ns.map .int)),some (.int m),some (.tup (ss.map .str)),some d,some (oD o),some (.loc 1),none,none,none,none] [.dict kvs,.dictN []]=okO (.ret (.bl true)) S2:=by
  rintro kk rfl
  generalize wf t'=fd at *
  generalize (po t' []).length=pl at *
  generalize oD o=od at *
  generalize (.lst (ns.map .int):D)=sc at *
  generalize (.tup (ss.map .str):D)=wd at *
  generalize ([.dict kvs,.dictN []]:Sto)=S0 at *
  generalize ((List.range (m+1)).map λ(k:Nat)=>D.int k)=rl at *
  have eqp:eqD (.int pl) (.int pl)=some (.bl true):=by rw[s_];simp
  simp -implicitDefEqProofs [r1,el,ef,ln,ld,eqp]
 refine⟨S2,az rfl ?_⟩
 have q:=tail _ rfl
 unfold yp
 generalize (aN (fX _ _ gF) _:Rho->Sto->Out Fl)=kk at q ⊢
 simp -implicitDefEqProofs [em,eu,q,-List.map_map]
end K13
namespace K13
open PySem L2
theorem all_mk {l:PySem.W.OpenLaw}{w:World}{K:PySem.W.Frag}{h:Heap}{mg:Str->Option Value}{fa:Addr}(hfa:mg "law"=some (.ref fa))(T:Top K mg) :
  ∃ fd:FuncData,(∀ (s:Shared) (v:Value),BindsTo s fd ⟨[v],[]⟩ [("_law_script",v)])/\∀ base:Heap,K.In base->base.Ns mainGlobals mg->FnOk l.prog w K mg base CX0 38 fa fd ["_law_script"] (r8 K 63):=by
 obtain⟨f,fd,Fn,hm,hb⟩:=T.d_law
 have e:=hfa.symm.trans hm
 cases e
 have ok:∀ base:Heap,FnD l.prog w K mg base 38 fa fd ["_law_script"] wL:=λbase=>zE T Fn
 obtain⟨oc,od,kV,doc,pm,an,cdv,ct,osl,rfl,lk,hcd⟩:=Fn.ex
 exact⟨_,λs v => .of_eq rfl,λbase _ _=>zt (ok base) (by decide) λns hl=>zu ns hl⟩
end K13
open PySem PySem.W PyProof.Rows
namespace PySem.W.Fast
def tw16594012111706754509:=0
def tw8354850627268900238:=0
def tw11109957352147216244:=0
def tw2481449142485068307:=0
def tw10264195515724668653:=0
def tw985107591931961917:=0
def tw15826237411724800658:=0
def tw3281878363645691987:=0
def tw13702763350061743811:=0
def tw1984329191144118213:=0
def tw4851213394842920391:=0
def tw15070891832921339657:=0
def tw3410581774793007265:=0
def tw9253352369534370600:=0
def tw12343769461288263890:=0
def tw7266916310682973667:=0
def tw7245933651914144084:=0
def tw12443341841717018012:=0
def tw8980040887476257416:=0
def tw59861998799060804:=0
def tw14015887329781201170:=0
def tw2054268690915769633:=0
def tw8879477681232820181:=0
def tw14962185936547233298:=0
def tw167776515784614250:=0
def tw568629432781838556:=0
def tw18162956862249171295:=0
def tw473783739800657889:=0
def tw813659070596985894:=0
def tw4442749982434945403:=0
def tw7541945148775654230:=0
def tw1820151901442825141:=0
def tw2358532259217984674:=0
def tw240177531195637914:=0
def tw17693491595498346186:=0
def tw11895182909757065977:=0
def tw8644935648476625774:=0
def tw243262842444289072:=0
def tw15410890364952021267:=0
def tw10856690134101939516:=0
def tw2686726216482567559:=0
def tw7319731250287424673:=0
def tw4955467328450248129:=0
def tw5507906101651822597:=0
def tw5737514895957572847:=0
def tw2628349516630472517:=0
def tw16653735358445443750:=0
def tw542106824275963142:=0
def tw8619840947816908781:=0
def tw9564735129022600008:=0
def tw13179235943060497913:=0
def tw14663202656490899807:=0
def tw3382865785728953822:=0
def tw1849450016765923624:=0
def tw12406560782892545340:=0
def tw18199638308119166639:=0
def tw2083241180969715819:=0
def tw9370274639365170357:=0
def tw12614096002789232706:=0
def tw15525064800142735400:=0
def tw7331673815427394545:=0
def tw7709313799303251755:=0
def tw812216179727641737:=0
def tw15432716341848506930:=0
def tw6103759430476759593:=0
def tw14718089915875338360:=0
def tw7683044543149539836:=0
def tw11524144906716296667:=0
def tw18338898282638788649:=0
def tw5509473358647234945:=0
def tw766699630731142533:=0
def tw2714189133531674716:=0
def tw7208164778358533060:=0
def tw9589288535575456275:=0
def tw3897737777600143670:=0
def tw7718238608556741279:=0
def tw16728146234057227239:=0
def tw17299353427133955491:=0
def tw4911171785323532790:=0
def tw375322550292130188:=0
def tw17938430908941665591:=0
def tw12781867369496828592:=0
def tw11472402906127281548:=0
def tw17096956151548583157:=0
def tw4728489934196367804:=0
def tw16820632827046977971:=0
def tw12000811778292789765:=0
def tw9559524253840296628:=0
def tw7325970811682468819:=0
def tw13989763467521977553:=0
def tw3418760783558567129:=0
def tw4610220515558035665:=0
def tw4541948662456439004:=0
def tw2475733998647525545:=0
def tw4187324356721801407:=0
def tw10890750183855713689:=0
def tw12740146688919157667:=0
def tw7759338717511076502:=0
def tw11338234416403036925:=0
def tw11593415839323234398:=0
def tw11973258144052895747:=0
def tw1452389102250024869:=0
def tw10986302427244771990:=0
def tw1778880539756511723:=0
def tw13851012111737467960:=0
def tw2743833073317779608:=0
def tw7901831803859881239:=0
def tw1654512183191495571:=0
def tw17375023077908879396:=0
def tw9415885365819607512:=0
def tw7040782295018744615:=0
def tw9173146724790319985:=0
def tw10804619164046419412:=0
def tw8665441717260325872:=0
def tw17041221563418662948:=0
def tw5874156018561482711:=0
def tw4657888231389972184:=0
def tw16178995107138609916:=0
def tw5822231797428308366:=0
def tw2376314223659378420:=0
def tw14813283743050954964:=0
def tw9570956960820107791:=0
def tw4046042445880558498:=0
def tw2108915392328652750:=0
def tw600708816784286229:=0
def tw15367843229471955511:=0
def tw582986195735794891:=0
def tw11626383909197439413:=0
def tw10824579085093743012:=0
def tw16608663659655206685:=0
end PySem.W.Fast
set_option maxRecDepth 100000 in
set_option maxHeartbeats 0 in
theorem PySem.Challenge.cw_keyfold_k13_whole_fewest_rows_holds : PySem.Challenge.rw_keyfold_k13_whole_fewest_rows.Holds := by
 w_on;o_law;k_head;(case hw=>w_witness2)
 k_fill
 refine L2.law_walk (l:=PySem.Challenge.rw_keyfold_k13_whole_fewest_rows) (k:=38) (x:="_law_script") rfl rfl ⟨rfl,by decide,by decide,rfl⟩ (λw h Y=>PySem.W.kIn_of Y) ?F
 case F =>
  intro w mg fa h KX G hmg
  refine' K13.all_mk (h:=h) hmg (K13.top_mk KX G ?n_Rows ?k0_Rows ?k1_Rows ?k2_Rows ?k3_Rows ?k4_Rows ?k5_Rows ?a0 ?q0 ?a1 ?q1 ?a2 ?q2 ?a3 ?q3 ?a4 ?q4 ?a5 ?q5 ?a6 ?q6 ?a7 ?i7 ?q7 ?a8 ?i8 ?q8 ?a9 ?i9 ?q9 ?a10 ?i10 ?q10 ?a11 ?i11 ?q11 ?a12 ?i12 ?q12 ?a13 ?i13 ?q13 ?a14 ?i14 ?q14 ?a15 ?q15 ?a16 ?q16 ?a17 ?q17 ?a18 ?q18 ?a19 ?q19 ?a20 ?q20 ?a21 ?q21 ?a22 ?q22 ?a23 ?q23 ?a24 ?q24 ?a25 ?q25 ?a26 ?q26 ?a27 ?q27 ?a28 ?q28 ?z_len ?z_list ?z_enumerate ?z_tuple ?z_min ?z_range ?z_int ?z_sorted ?z_zip ?g_Rows_order ?g_Rows_gathered ?g_Rows_numbers ?g_Rows_choices)
  (case n_Rows=>k_is)
  (case k0_Rows=>k_is)
  (case k1_Rows=>k_is)
  (case k2_Rows=>k_is)
  (case k3_Rows=>k_is)
  (case k4_Rows=>k_is)
  (case k5_Rows=>k_is)
  (case a0=>k_is)
  (case q0=>refine' L2.fE ?l ?c ?k;(case l=>k_is);(case c=>k_is);(case k=>k_is))
  (case a1=>k_is)
  (case q1=>refine' L2.fE ?l ?c ?k;(case l=>k_is);(case c=>k_is);(case k=>k_is))
  (case a2=>k_is)
  (case q2=>refine' L2.fE ?l ?c ?k;(case l=>k_is);(case c=>k_is);(case k=>k_is))
  (case a3=>k_is)
  (case q3=>refine' L2.fE ?l ?c ?k;(case l=>k_is);(case c=>k_is);(case k=>k_is))
  (case a4=>k_is)
  (case q4=>refine' L2.fE ?l ?c ?k;(case l=>k_is);(case c=>k_is);(case k=>k_is))
  (case a5=>k_is)
  (case q5=>refine' L2.fE ?l ?c ?k;(case l=>k_is);(case c=>k_is);(case k=>k_is))
  (case a6=>k_is)
  (case q6=>refine' L2.fE ?l ?c ?k;(case l=>k_is);(case c=>k_is);(case k=>k_is))
  (case a7=>k_is)
  (case i7=>k_is)
  (case q7=>refine' L2.fE ?l ?c ?k;(case l=>k_is);(case c=>k_is);(case k=>k_is))
  (case a8=>k_is)
  (case i8=>k_is)
  (case q8=>refine' L2.fE ?l ?c ?k;(case l=>k_is);(case c=>k_is);(case k=>k_is))
  (case a9=>k_is)
  (case i9=>k_is)
  (case q9=>refine' L2.fE ?l ?c ?k;(case l=>k_is);(case c=>k_is);(case k=>k_is))
  (case a10=>k_is)
  (case i10=>k_is)
  (case q10=>refine' L2.fE ?l ?c ?k;(case l=>k_is);(case c=>k_is);(case k=>k_is))
  (case a11=>k_is)
  (case i11=>k_is)
  (case q11=>refine' L2.fE ?l ?c ?k;(case l=>k_is);(case c=>k_is);(case k=>k_is))
  (case a12=>k_is)
  (case i12=>k_is)
  (case q12=>refine' L2.fE ?l ?c ?k;(case l=>k_is);(case c=>k_is);(case k=>k_is))
  (case a13=>k_is)
  (case i13=>k_is)
  (case q13=>refine' L2.fE ?l ?c ?k;(case l=>k_is);(case c=>k_is);(case k=>k_is))
  (case a14=>k_is)
  (case i14=>k_is)
  (case q14=>refine' L2.fE ?l ?c ?k;(case l=>k_is);(case c=>k_is);(case k=>k_is))
  (case a15=>k_is)
  (case q15=>refine' L2.fE ?l ?c ?k;(case l=>k_is);(case c=>k_is);(case k=>k_is))
  (case a16=>k_is)
  (case q16=>refine' L2.fE ?l ?c ?k;(case l=>k_is);(case c=>k_is);(case k=>k_is))
  (case a17=>k_is)
  (case q17=>refine' L2.fE ?l ?c ?k;(case l=>k_is);(case c=>k_is);(case k=>k_is))
  (case a18=>k_is)
  (case q18=>refine' L2.fE ?l ?c ?k;(case l=>k_is);(case c=>k_is);(case k=>k_is))
  (case a19=>k_is)
  (case q19=>refine' L2.fE ?l ?c ?k;(case l=>k_is);(case c=>k_is);(case k=>k_is))
  (case a20=>k_is)
  (case q20=>refine' L2.fE ?l ?c ?k;(case l=>k_is);(case c=>k_is);(case k=>k_is))
  (case a21=>k_is)
  (case q21=>refine' L2.fE ?l ?c ?k;(case l=>k_is);(case c=>k_is);(case k=>k_is))
  (case a22=>k_is)
  (case q22=>refine' L2.fE ?l ?c ?k;(case l=>k_is);(case c=>k_is);(case k=>k_is))
  (case a23=>k_is)
  (case q23=>refine' L2.fE ?l ?c ?k;(case l=>k_is);(case c=>k_is);(case k=>k_is))
  (case a24=>k_is)
  (case q24=>refine' L2.fE ?l ?c ?k;(case l=>k_is);(case c=>k_is);(case k=>k_is))
  (case a25=>k_is)
  (case q25=>refine' L2.fE ?l ?c ?k;(case l=>k_is);(case c=>k_is);(case k=>k_is))
  (case a26=>k_is)
  (case q26=>refine' L2.fE ?l ?c ?k;(case l=>k_is);(case c=>k_is);(case k=>k_is))
  (case a27=>k_is)
  (case q27=>refine' L2.fE ?l ?c ?k;(case l=>k_is);(case c=>k_is);(case k=>k_is))
  (case a28=>k_is)
  (case q28=>refine' L2.fE ?l ?c ?k;(case l=>k_is);(case c=>k_is);(case k=>k_is))
  (case z_len=>k_is)
  (case z_list=>k_is)
  (case z_enumerate=>k_is)
  (case z_tuple=>k_is)
  (case z_min=>k_is)
  (case z_range=>k_is)
  (case z_int=>k_is)
  (case z_sorted=>k_is)
  (case z_zip=>k_is)
  (case g_Rows_order=>k_is)
  (case g_Rows_gathered=>k_is)
  (case g_Rows_numbers=>k_is)
  (case g_Rows_choices=>k_is)
