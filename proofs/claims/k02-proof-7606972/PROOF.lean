import PyProof.Rows.All
import Wide.All
import OpenK.AllK
import Wide.FinOn
import Lean
import PyProof.EqAt
import PyProof.EqKinds
import PyProof.TupleCall
import PyProof.SetRoads
import PyProof.SetNew
import PyProof.CollectIter
import PyProof.DictWalks
import PyProof.Walks
import PyProof.RulesTry
import PyProof.FactsAll.set
import PyProof.WalksMore
import PyProof.FactsAll.subtypes
import PySem.Challenge.RW_keyfold_k02_keys
set_option Elab.async false
set_option linter.all false
set_option maxRecDepth 100000
set_option maxHeartbeats 4000000
namespace L2
open PySem PySem.Spec PyProof.Rows
abbrev Key := Sum Int Str
def keyIs : Key → Value → Bool
  | .inl k, v => Value.isInt k v
  | .inr x, v => Value.isStrOf x v
def keyH (w : World) : Key → Int
  | .inl k => hashInt k
  | .inr x => hashStr w x
theorem keyIs_shape : ∀ {k : Key} {v : Value}, keyIs k v = true → (∃ i t, k = Sum.inl i ∧ v = Value.int i t) ∨ (∃ x t, k = Sum.inr x ∧ v = Value.str x t)
  | .inl i, v, h => by
    obtain ⟨t, e⟩ := Value.isInt_shape (k := i) (v := v) h
    exact .inl ⟨i, t, rfl, e⟩
  | .inr x, v, h => by
    obtain ⟨t, e⟩ := Value.isStrOf_shape (x := x) (v := v) h
    exact .inr ⟨x, t, rfl, e⟩
theorem keyIs_int (i : Int) (t : Tok) : keyIs (.inl i) (.int i t) = true := by simp [keyIs, Value.isInt]
theorem keyIs_str (x : Str) (t : Tok) : keyIs (.inr x) (.str x t) = true := by simp [keyIs, Value.isStrOf]
theorem key_ll (a b : Int) : decide ((Sum.inl a : Key) = Sum.inl b) = (a == b) := by
  by_cases e : a = b
  · subst e; simp
  · have h : ¬ (Sum.inl a : Key) = Sum.inl b := fun q => e (Sum.inl.inj q)
    rw [decide_eq_false h]
    exact (beq_eq_false_iff_ne.mpr e).symm
theorem key_rr (a b : Str) : decide ((Sum.inr a : Key) = Sum.inr b) = decide (a = b) := by
  by_cases e : a = b
  · subst e; simp
  · have h : ¬ (Sum.inr a : Key) = Sum.inr b := fun q => e (Sum.inr.inj q)
    rw [decide_eq_false h, decide_eq_false e]
theorem key_lr (a : Int) (b : Str) : decide ((Sum.inl a : Key) = Sum.inr b) = false := decide_eq_false (fun q => nomatch q)
theorem key_rl (a : Str) (b : Int) : decide ((Sum.inr a : Key) = Sum.inl b) = false := decide_eq_false (fun q => nomatch q)
def mixKind (prog : Program) (w : World) : PySem.KeyKind prog w Key where
  is := keyIs
  hash := keyH w
  inj := fun v a b ha hb => by
    rcases keyIs_shape ha with ⟨i, t, rfl, rfl⟩ | ⟨x, t, rfl, rfl⟩
    · rcases keyIs_shape hb with ⟨j, u, rfl, e⟩ | ⟨y, u, rfl, e⟩
      · injection e with e1 _; rw [e1]
      · exact nomatch e
    · rcases keyIs_shape hb with ⟨j, u, rfl, e⟩ | ⟨y, u, rfl, e⟩
      · exact nomatch e
      · injection e with e1 _; rw [e1]
  byValue := fun k v h => by
    rcases keyIs_shape h with ⟨i, t, rfl, rfl⟩ | ⟨x, t, rfl, rfl⟩ <;> rfl
  pyHash := fun hv h => by
    rcases keyIs_shape hv with ⟨i, t, rfl, rfl⟩ | ⟨x, t, rfl, rfl⟩
    · exact wpAny_pyHash_int h
    · exact wpAny_pyHash_str h
  eqBool := fun hu hv h => by
    rcases keyIs_shape hu with ⟨i, t, rfl, rfl⟩ | ⟨x, t, rfl, rfl⟩
    · rcases keyIs_shape hv with ⟨j, u, rfl, rfl⟩ | ⟨y, u, rfl, rfl⟩
      · rw [key_ll] at h; exact wpAny_eqBool_int h
      · rw [key_lr] at h; exact SeqAt.EqAt.int_str i t y u _ _ _ _ h
    · rcases keyIs_shape hv with ⟨j, u, rfl, rfl⟩ | ⟨y, u, rfl, rfl⟩
      · rw [key_rl] at h; exact SeqAt.EqAt.str_int x t j u _ _ _ _ h
      · rw [key_rr] at h; exact wpAny_eqBool_str h
  «strs» := fun k x t v h => by
    rcases keyIs_shape h with ⟨i, u, rfl, e⟩ | ⟨y, u, rfl, e⟩
    · exact nomatch e
    · injection e with e1 _
      subst e1
      cases v <;> rfl
theorem mixKind_int (prog : Program) (w : World) (i : Int) (t : Tok) : (mixKind prog w).is (.inl i) (.int i t) = true := keyIs_int i t
theorem mixKind_str (prog : Program) (w : World) (x : Str) (t : Tok) : (mixKind prog w).is (.inr x) (.str x t) = true := keyIs_str x t
end L2
namespace L2
open PySem PySem.Spec PyProof.Rows
inductive V where
  | non | bl (b : Bool) | int (i : Int) | str (x : Str) | byt (b : Array UInt8) | flt (b : UInt64) | ref (a : Addr) | ty (n : String)
  deriving DecidableEq
def RelV : V → Value → Prop
  | .non, u => u = Value.none
  | .bl b, u => u = Value.bool b
  | .int i, u => ∃ t, u = Value.int i t
  | .str x, u => ∃ t, u = Value.str x t
  | .byt b, u => ∃ t, u = Value.bytes b t
  | .flt b, u => ∃ t, u = Value.float b t
  | .ref a, u => u = Value.ref a
  | .ty n, u => u = Value.type n
abbrev Vals : List V → List Value → Prop := Paired RelV
theorem Vals.length {xs : List V} {us : List Value} (r : Vals xs us) : xs.length = us.length := Paired.length r
theorem Vals.get : ∀ {xs : List V} {us : List Value} {i : Nat} {x : V}, Vals xs us → xs[i]? = some x → ∃ u, us[i]? = some u ∧ RelV x u
  | _, _, _, _, .nil, e => by simp at e
  | _, _, 0, _, .cons r _, e => by simp at e; subst e; exact ⟨_, rfl, r⟩
  | _, _, i + 1, x, .cons _ t, e => by
    obtain ⟨u, h1, h2⟩ := Vals.get (i := i) (x := x) t (by simpa using e)
    exact ⟨u, by simpa using h1, h2⟩
theorem Vals.set {x : V} {u : Value} (r : RelV x u) : ∀ {xs : List V} {us : List Value} (i : Nat), Vals xs us → Vals (xs.set i x) (us.set i u)
  | _, _, _, .nil => .nil
  | _, _, 0, .cons _ t => .cons r t
  | _, _, i + 1, .cons q t => .cons q (Vals.set r i t)
theorem Vals.append : ∀ {xs ys : List V} {us ws : List Value}, Vals xs us → Vals ys ws → Vals (xs ++ ys) (us ++ ws)
  | _, _, _, _, .nil, s => s
  | _, _, _, _, .cons r t, s => .cons r (Vals.append t s)
theorem Vals.take : ∀ {xs : List V} {us : List Value} (n : Nat), Vals xs us → Vals (xs.take n) (us.take n)
  | _, _, 0, _ => .nil
  | _, _, _ + 1, .nil => .nil
  | _, _, n + 1, .cons r t => .cons r (Vals.take n t)
theorem Vals.drop : ∀ {xs : List V} {us : List Value} (n : Nat), Vals xs us → Vals (xs.drop n) (us.drop n)
  | _, _, 0, r => r
  | _, _, _ + 1, .nil => .nil
  | _, _, n + 1, .cons _ t => Vals.drop n t
theorem Vals.none_of : ∀ {xs : List V} {us : List Value} {i : Nat}, Vals xs us → xs[i]? = none → us[i]? = none := fun {xs us i} r e => by
  have h1 := r.length
  have h2 : xs.length ≤ i := List.getElem?_eq_none_iff.mp e
  exact List.getElem?_eq_none_iff.mpr (by omega)
def RelO : Option V → Option Value → Prop
  | some v, some u => RelV v u
  | none, none => True
  | _, _ => False
def KV {κ : Type} : List (κ × V) → List (κ × Value) → Prop := Paired fun (p : κ × V) (q : κ × Value) => p.1 = q.1 ∧ RelV p.2 q.2
def kV : Key → V
  | .inl i => .int i
  | .inr x => .str x
inductive HO where
  | lst (xs : List V)
  | tup (xs : List V)
  | dK (kvs : List (Key × V)) | dT (kvs : List (List Key × V))
  | set (S : Int → Bool) (n : Nat)
  | ins (C dx : Addr) (fs : List (Str × V))
  | own (x : Addr)
  | xd (fs : List (Str × V))
  | met (f x : Addr)
  | rng (lo hi : Int)
  | frz (o : Obj) (u : HO)
  | tbl (ps : Array Value)
  | ext (φ : Heap → Prop)
abbrev Hp := Addr → Option HO
def upd (H : Hp) (a : Addr) (o : HO) : Hp := fun b => if b = a then some o else H b
theorem upd_same {H : Hp} {a : Addr} {o : HO} : upd H a o a = some o := by unfold upd; rw [if_pos rfl]
theorem upd_ne {H : Hp} {a b : Addr} {o : HO} (h : b ≠ a) : upd H a o b = H b := by unfold upd; rw [if_neg h]
theorem ne_of {H : Hp} {a b : Addr} {o u : HO} (h : H a = some o) (h' : H b = some u) (d : o ≠ u) : a ≠ b := by
  intro e; subst e; rw [h] at h'; exact d (Option.some.inj h')
theorem ne_of_none {H : Hp} {a b : Addr} {o : HO} (h : H a = some o) (h' : H b = none) : a ≠ b := by
  intro e; subst e; rw [h] at h'; cases h'
section
variable (P : Program) (w : World)
def ObjOk (H : Hp) (h : Heap) (a : Addr) : HO → Prop
  | .lst xs => xs.length ≤ sizeLine ∧ ∃ (its : List Value) (n : Nat), Vals xs its ∧ h.get? a = some { cls := .type "list", data := .seq its.toArray n }
  | .tup xs => xs.length ≤ sizeLine ∧ ∃ its : List Value, Vals xs its ∧ IsTup h a its.toArray
  | .dK kvs => kvs.length ≤ sizeLine ∧ (a == sysModules) = false ∧ ∃ vs, KV kvs vs ∧ h.DictOf (mixKind P w) a vs
  | .dT kvs => kvs.length ≤ sizeLine ∧ (a == sysModules) = false ∧ ∃ xs : List (List Key × Addr × Value),
      Paired (fun (p : List Key × V) (q : List Key × Addr × Value) => p.1 = q.1 ∧ H q.2.1 = some (.tup (p.1.map kV)) ∧ RelV p.2 q.2.2) kvs xs ∧
      ∃ o es ep, h.get? a = some o ∧ o.ExactDict ∧ o.data = .dict es ep ∧ es.toList = xs.map (entryOfKey (tupleKind (mixKind P w))) ∧ (xs.map (·.1)).Nodup
  | .set S n => h.SetOf (intKind P w) a S n
  | .ins C dx fs => H dx = some (.own a) ∧ fs.length ≤ 1000 ∧ dx ≠ a ∧ h.get? a = some (PySem.W.instObj C dx) ∧
      ∃ mA, h.Ns1 dx mA ∧ (∀ f, RelO (fs.lookup f) (mA f)) ∧ PySem.Within mA (fs.map (·.1))
  | .own _ => ∃ o, h.get? a = some o
  | .xd fs => ∃ mA, h.Ns1 a mA ∧ ∀ f, RelO (fs.lookup f) (mA f)
  | .rng lo hi => ∃ t u v, h.get? a = some { cls := .type "range", data := .fields #[.int lo t, .int hi u, .int 1 v] }
  | .frz o u => h.get? a = some o ∧ ObjOk H h a u
  | .tbl ps => h.get? a = some { cls := .none, data := .fields ps }
  | .met f x => h.get? a = some (PySem.W.methodObj (.ref f) (.ref x))
  | .ext φ => φ h ∧ (∃ o, h.get? a = some o) ∧ ∀ h1 h2 : Heap, φ h1 → (∀ o, h1.get? a = some o → h2.get? a = some o) → φ h2
def HOk (H : Hp) (h : Heap) : Prop := ∀ a o, H a = some o → ObjOk P w H h a o
end
section
variable {P : Program} {w : World} {H H' : Hp} {h h' : Heap} {a : Addr} {o : HO}
theorem ObjOk.lt (x : ObjOk P w H h a o) : a < h.objs.size := by
  cases o with
  | lst xs => obtain ⟨_, _, _, _, e⟩ := x; exact Heap.lt_size e
  | tup xs => obtain ⟨_, _, _, p⟩ := x; exact p.lt
  | dK kvs => obtain ⟨_, _, _, _, o, _, _, e, _⟩ := x; exact Heap.lt_size e
  | dT kvs => obtain ⟨_, _, _, _, o, _, _, e, _⟩ := x; exact Heap.lt_size e
  | set S n => obtain ⟨o, _, _, _, e, _⟩ := x; exact Heap.lt_size e
  | ins C dx fs => obtain ⟨_, _, _, e, _⟩ := x; exact Heap.lt_size e
  | own y => obtain ⟨_, e⟩ := x; exact Heap.lt_size e
  | xd fs => obtain ⟨_, ⟨_, _, _, e, _⟩, _⟩ := x; exact Heap.lt_size e
  | rng lo hi => obtain ⟨_, _, _, e⟩ := x; exact Heap.lt_size e
  | frz ob u => obtain ⟨e, _⟩ := x; exact Heap.lt_size e
  | tbl ps => exact Heap.lt_size (show h.get? a = some _ from x)
  | met f y => exact Heap.lt_size (show h.get? a = some _ from x)
  | ext φ => obtain ⟨_, ⟨_, e⟩, _⟩ := x; exact Heap.lt_size e
theorem Paired.mapP {α β : Type} {F G : α → β → Prop} : ∀ {l₁ : List α} {l₂ : List β}, Paired F l₁ l₂ → (∀ a b, F a b → G a b) → Paired G l₁ l₂
  | _, _, .nil, _ => .nil
  | _, _, .cons r t, f => .cons (f _ _ r) (Paired.mapP t f)
theorem ObjOk.stay (x : ObjOk P w H h a o) (k : ∀ b u, (b = a ∨ H b = some (.own a)) → h.get? b = some u → h'.get? b = some u)
    (ho : ∀ b, H b = some (.own a) → H' b = some (.own a)) (ht : ∀ b xs, H b = some (.tup xs) → H' b = some (.tup xs)) : ObjOk P w H' h' a o := by
  induction o with
  | lst xs => obtain ⟨z, its, n, r, e⟩ := x; exact ⟨z, its, n, r, k _ _ (.inl rfl) e⟩
  | tup xs => obtain ⟨z, its, r, ob, e, c⟩ := x; exact ⟨z, its, r, ob, k _ _ (.inl rfl) e, c⟩
  | dK kvs => obtain ⟨z, y, vs, r, ob, es, ep, e, c⟩ := x; exact ⟨z, y, vs, r, ob, es, ep, k _ _ (.inl rfl) e, c⟩
  | dT kvs =>
    obtain ⟨z, y, xs, r, ob, es, ep, e, c⟩ := x
    exact ⟨z, y, xs, Paired.mapP r fun p q z => ⟨z.1, ht _ _ z.2.1, z.2.2⟩, ob, es, ep, k _ _ (.inl rfl) e, c⟩
  | set S n => obtain ⟨ob, es, ep, t, e, c⟩ := x; exact ⟨ob, es, ep, t, k _ _ (.inl rfl) e, c⟩
  | ins C dx fs =>
    obtain ⟨d, z, ne, e, mA, ⟨od, es, ep, e2, c⟩, r⟩ := x
    exact ⟨ho _ d, z, ne, k _ _ (.inl rfl) e, mA, ⟨od, es, ep, k _ _ (.inr d) e2, c⟩, r⟩
  | own y => obtain ⟨ob, e⟩ := x; exact ⟨ob, k _ _ (.inl rfl) e⟩
  | xd fs => obtain ⟨mA, ⟨od, es, ep, e, c⟩, r⟩ := x; exact ⟨mA, ⟨od, es, ep, k _ _ (.inl rfl) e, c⟩, r⟩
  | rng lo hi => obtain ⟨t, u, v, e⟩ := x; exact ⟨t, u, v, k _ _ (.inl rfl) e⟩
  | frz ob u ih => obtain ⟨e, q⟩ := x; exact ⟨k _ _ (.inl rfl) e, ih q⟩
  | tbl ps =>
    have e : h.get? a = some { cls := .none, data := .fields ps } := x
    show h'.get? a = some { cls := .none, data := .fields ps }
    exact k a _ (.inl rfl) e
  | met f y =>
    have e : h.get? a = some (PySem.W.methodObj (.ref f) (.ref y)) := x
    show h'.get? a = some (PySem.W.methodObj (.ref f) (.ref y))
    exact k a _ (.inl rfl) e
  | ext φ => obtain ⟨p, ⟨o, e⟩, st⟩ := x; exact ⟨st _ _ p fun o q => k _ _ (.inl rfl) q, ⟨o, k _ _ (.inl rfl) e⟩, st⟩
theorem HOk.lt (x : HOk P w H h) (e : H a = some o) : a < h.objs.size := (x a o e).lt
theorem HOk.fresh (x : HOk P w H h) (e : h.objs.size ≤ a) : H a = none := by
  cases q : H a with
  | none => rfl
  | some u => exact absurd (Nat.lt_of_lt_of_le (x.lt q) e) (Nat.lt_irrefl _)
theorem HOk.kept (x : HOk P w H h) (k : ∀ b u, h.get? b = some u → h'.get? b = some u) : HOk P w H h' := fun a o e =>
  (x a o e).stay (fun b u _ q => k b u q) (fun _ q => q) fun _ _ q => q
theorem HOk.laid (x : HOk P w H h) (k : ∀ b u, h.get? b = some u → h'.get? b = some u) (hp : h.objs.size ≤ a) (new : ObjOk P w (upd H a o) h' a o) : HOk P w (upd H a o) h' := fun b u e => by
  have hn := x.fresh hp
  by_cases hb : b = a
  · subst hb; rw [upd_same] at e; cases e; exact new
  · rw [upd_ne hb] at e
    exact (x b u e).stay (fun c v _ q => k c v q) (fun c q => by rw [upd_ne (ne_of_none q hn)]; exact q) fun c xs q => by rw [upd_ne (ne_of_none q hn)]; exact q
end
def Rd (H : Hp) (a : Addr) (u : HO) : Prop := H a = some u ∨ ∃ o, H a = some (.frz o u)
theorem Rd.of {H : Hp} {a : Addr} {u : HO} (h : H a = some u) : Rd H a u := .inl h
theorem Rd.ok {P : Program} {w : World} {H : Hp} {h : Heap} {a : Addr} {u : HO} (r : Rd H a u) (x : HOk P w H h) : ObjOk P w H h a u := by
  rcases r with r | ⟨o, r⟩
  · exact x a u r
  · obtain ⟨_, q⟩ := x a _ r
    exact q
def Mut : Option HO → Prop
  | some (.lst _) => True
  | some (.dK _) => True
  | some (.dT _) => True
  | some (.set _ _) => True
  | some (.ins _ _ _) => True
  | some (.ext _) => True
  | _ => False
section
variable {P : Program} {w : World} {H : Hp} {h h' : Heap} {x e : Addr} {o' : HO}
theorem HOk.write (ok : HOk P w H h) (mu : Mut (H x)) (he : e = x ∨ H e = some (.own x)) (k : ∀ b u, b ≠ e → h.get? b = some u → h'.get? b = some u) (heo : ∃ u, h'.get? e = some u)
    (new : ObjOk P w (upd H x o') h' x o') : HOk P w (upd H x o') h' := fun b u q => by
  have nown : ∀ c y, H c = some (.own y) → c ≠ x := fun c y r z => by subst z; rw [r] at mu; exact mu
  have ntup : ∀ c xs, H c = some (.tup xs) → c ≠ x := fun c xs r z => by subst z; rw [r] at mu; exact mu
  by_cases hb : b = x
  · subst hb; rw [upd_same] at q; cases q; exact new
  · rw [upd_ne hb] at q
    by_cases hbe : b = e
    · have q' : H b = some (.own x) := by
        rcases he with z | z
        · exact absurd (hbe.trans z) hb
        · rw [hbe]; exact z
      rw [q] at q'; cases q'
      obtain ⟨v, hv⟩ := heo
      exact ⟨v, by rw [hbe]; exact hv⟩
    · refine (ok b u q).stay (fun c v hc r => k c v ?_ r) (fun c r => by rw [upd_ne (nown c b r)]; exact r) fun c xs r => by rw [upd_ne (ntup c xs r)]; exact r
      rcases hc with rfl | hc
      · exact hbe
      · rintro rfl
        rcases he with z | z
        · exact nown c b hc z
        · rw [hc] at z; cases z; exact hb rfl
end
structure Un (fs ex : List Addr) (H H' : Hp) (h h' : Heap) : Prop where
  keep : ∀ b o, h.get? b = some o → H b = none → b ∉ fs → b ∉ ex → h'.get? b = some o
  slot : ∀ b o, h.get? b = some o → H b = none → b ∈ fs → b ∉ ex → ∃ sl, h'.get? b = some { o with slots := sl }
  free : ∀ b o, h.get? b = some o → H b = none → b ∉ ex → H' b = none
  there : ∀ b o, h.get? b = some o → b ∉ ex → ∃ o', h'.get? b = some o'
  tups : ∀ b xs, H b = some (.tup xs) → H' b = some (.tup xs)
  frzs : ∀ b o u, H b = some (.frz o u) → H' b = some (.frz o u)
  tbls : ∀ b ps, H b = some (.tbl ps) → ∃ more, H' b = some (.tbl (ps ++ more))
section
variable {fs fs' ex ex' : List Addr} {H H1 H2 : Hp} {h h1 h2 h' : Heap} {a x e : Addr} {o : HO}
theorem Un.any (u : Un fs ex H H1 h h1) {b : Addr} {ob : Obj} (q : h.get? b = some ob) (n : H b = none) (hx : b ∉ ex) : ∃ sl, h1.get? b = some { ob with slots := sl } := by
  by_cases hb : b ∈ fs
  · exact u.slot b ob q n hb hx
  · exact ⟨ob.slots, u.keep b ob q n hb hx⟩
theorem Un.trans (a : Un fs ex H H1 h h1) (b : Un fs ex H1 H2 h1 h2) : Un fs ex H H2 h h2 where
  keep := fun c ob q n hc hx => b.keep c ob (a.keep c ob q n hc hx) (a.free c ob q n hx) hc hx
  slot := fun c ob q n hc hx => by
    obtain ⟨sl, e1⟩ := a.slot c ob q n hc hx
    obtain ⟨sl', e2⟩ := b.slot c _ e1 (a.free c ob q n hx) hc hx
    exact ⟨sl', e2⟩
  free := fun c ob q n hx => by
    obtain ⟨o', e1⟩ := a.there c ob q hx
    exact b.free c o' e1 (a.free c ob q n hx) hx
  there := fun c ob q hx => by
    obtain ⟨o', e1⟩ := a.there c ob q hx
    exact b.there c o' e1 hx
  tups := fun c xs q => b.tups c xs (a.tups c xs q)
  frzs := fun c ob xs q => b.frzs c ob xs (a.frzs c ob xs q)
  tbls := fun c ps q => by
    obtain ⟨m1, e1⟩ := a.tbls c ps q
    obtain ⟨m2, e2⟩ := b.tbls c _ e1
    exact ⟨m1 ++ m2, by rw [e2, Array.append_assoc]⟩
theorem Un.kept (k : ∀ b u, h.get? b = some u → h'.get? b = some u) : Un fs ex H H h h' :=
  ⟨fun b ob q _ _ _ => k b ob q, fun b ob q _ _ _ => ⟨ob.slots, k b ob q⟩, fun _ _ _ n _ => n, fun b ob q _ => ⟨ob, k b ob q⟩, fun _ _ q => q, fun _ _ _ q => q, fun _ ps q => ⟨#[], by rw [q]; simp⟩⟩
theorem Un.refl : Un fs ex H H h h := Un.kept fun _ _ q => q
theorem Un.laid (k : ∀ b u, h.get? b = some u → h'.get? b = some u) (hp : h.objs.size ≤ a) (hn : H a = none) : Un fs ex H (upd H a o) h h' where
  keep := fun b u q _ _ _ => k b u q
  slot := fun b u q _ _ _ => ⟨u.slots, k b u q⟩
  free := fun b u q n _ => by rw [upd_ne (Nat.ne_of_lt (Nat.lt_of_lt_of_le (Heap.lt_size q) hp))]; exact n
  there := fun b u q _ => ⟨u, k b u q⟩
  tups := fun b xs q => by rw [upd_ne (ne_of_none q hn)]; exact q
  frzs := fun b u xs q => by rw [upd_ne (ne_of_none q hn)]; exact q
  tbls := fun b ps q => ⟨#[], by rw [upd_ne (ne_of_none q hn), q]; simp⟩
theorem Un.write (mu : Mut (H x)) (he : e = x ∨ H e = some (.own x)) (k : ∀ b u, b ≠ e → h.get? b = some u → h'.get? b = some u) (heo : ∃ u, h'.get? e = some u) : Un fs ex H (upd H x o) h h' := by
  have hx : ∀ b, H b = none → b ≠ x := fun b n z => by subst z; rw [n] at mu; exact mu
  have hb : ∀ b, H b = none → b ≠ e := fun b n z => by
    subst z
    rcases he with r | r
    · exact hx b n r
    · rw [n] at r; cases r
  have hm : ∀ b u, H b = some u → ¬ Mut (some u) → b ≠ x := fun b u q nm z => by subst z; rw [q] at mu; exact nm mu
  refine ⟨fun b u q n _ _ => k b u (hb b n) q, fun b u q n _ _ => ⟨u.slots, k b u (hb b n) q⟩, fun b u q n _ => by rw [upd_ne (hx b n)]; exact n, fun b u q _ => ?_,
    fun b xs q => by rw [upd_ne (hm b _ q fun z => z)]; exact q, fun b u xs q => by rw [upd_ne (hm b _ q fun z => z)]; exact q, fun b ps q => ⟨#[], by rw [upd_ne (hm b _ q fun z => z), q]; simp⟩⟩
  by_cases hbe : b = e
  · subst hbe; exact heo
  · exact ⟨u, k b u hbe q⟩
theorem Un.mono (u : Un fs ex H H1 h h1) (hs : ∀ b ∈ fs, b ∈ fs') (hx : ∀ b ∈ ex, b ∈ ex') : Un fs' ex' H H1 h h1 :=
  ⟨fun b ob q n hb he => u.keep b ob q n (fun z => hb (hs b z)) fun z => he (hx b z), fun _ _ q n _ he => u.any q n fun z => he (hx _ z), fun b ob q n he => u.free b ob q n fun z => he (hx b z), fun b ob q he => u.there b ob q fun z => he (hx b z), u.tups, u.frzs, u.tbls⟩
end
def trk (h : Heap) (H : Hp) : List Addr := (List.range h.objs.size).filter fun a => (H a).isSome
def hidT (h : Heap) (H : Hp) : Heap := PySem.W.hideAll h (trk h H)
theorem hidT_size (h : Heap) (H : Hp) : (hidT h H).objs.size = h.objs.size := PySem.W.hideAll_size _ _
theorem hidT_get {h : Heap} {H : Hp} {b : Addr} {o : Obj} (e : h.get? b = some o) (n : H b = none) : (hidT h H).get? b = some o :=
  PySem.W.hideAll_get _ e fun hm => by
    have q : (H b).isSome = true := (List.mem_filter.mp hm).2
    rw [n] at q; simp at q
theorem of_hidT {h : Heap} {H : Hp} {b : Addr} {o : Obj} (e : (hidT h H).get? b = some o) : h.get? b = some o ∧ H b = none := by
  have e' : h.get? b = some o := PySem.W.of_hideAll (trk h H) e
  refine ⟨e', ?_⟩
  cases q : H b with
  | none => rfl
  | some x =>
    have hm : b ∈ trk h H := List.mem_filter.mpr ⟨List.mem_range.mpr (Heap.lt_size e'), by simp [q]⟩
    have z : (hidT h H).get? b = none := PySem.W.hideAll_none (trk h H) hm
    rw [z] at e; cases e
def allNews (g h : Heap) (L : Addr) : List (Addr × Obj) := (List.range h.objs.size).filterMap fun a => if a = L ∨ (g.get? a).isSome = true then none else (h.get? a).map fun o => (a, o)
def rest (g h : Heap) (L d : Addr) : List (Addr × Obj) := (allNews g h L).filter fun p => decide (p.1 ≠ d)
end L2
namespace L2
open PySem PySem.Spec PyProof.Rows
structure Mod (K : PySem.W.Frag) (mg : Str → Option Value) (base : Heap) : Prop where
  kin : K.In base
  glob : base.Ns mainGlobals mg
  blt : ∃ mb, base.Ns builtinsNs mb ∧ ∀ x : Str, x ≠ "__name__" → mb x = bootBuiltins x
  nolimit : base.NoLimit
structure Cx where
  prog : Program
  w : World
  K : PySem.W.Frag
  mg : Str → Option Value
  base : Heap
  A : Around
  N : List Str
  s₀ : Shared
  H₀ : Hp
  env : Env
  outer : List Env
  stack : List Env
  ex : List Addr
  fn : Str → Bool
  calm : Bool
  pn : List (Addr × Obj)
  xe : Value → Shared → Prop
def frs (l : List Env) : List Addr := l.filterMap (·.frame)
abbrev Cx.fs (X : Cx) : List Addr := frs X.outer
def Vis (sc : Scope) (x : Str) : Prop := sc.names.lookup x = some .local ∨ sc.names.lookup x = some .cell ∨ sc.names.lookup x = some .free
def Loc (sc : Scope) (x : Str) : Prop := sc.names.lookup x = some .local ∨ sc.names.lookup x = some .cell
def Look (env : Env) (h : Heap) (m : Str → Option Value) (x : Str) (u : Value) : Prop :=
  (env.kindOf x = some .local ∧ m x = some u) ∨ ((env.kindOf x = some .cell ∨ env.kindOf x = some .free) ∧ ∃ c, env.cells.lookup x = some c ∧ h.IsCell c (some u))
structure Cx.Ok (X : Cx) : Prop where
  mod : Mod X.K X.mg X.base
  kind : X.env.scope.kind = .function
  glob : X.env.globals = mainGlobals
  blt : X.env.builtins = builtinsNs
  above : X.s₀.heap.objs.size ≤ X.env.locals
  inj : ∀ x y c, X.env.cells.lookup x = some c → X.env.cells.lookup y = some c → x = y
  has : ∀ x, (X.env.kindOf x = some .cell ∨ X.env.kindOf x = some .free) → ∃ c, X.env.cells.lookup x = some c
  cab : ∀ x c, X.fn x = true → X.env.cells.lookup x = some c → X.s₀.heap.objs.size ≤ c
  hd : X.calm = true → X.A.handled = none
  frames : X.A.frames = some X.stack
  stk : X.stack = X.outer ∨ (X.stack = X.env :: X.outer ∧ X.env.frame = some X.env.locals)
  exf : ∀ b ∈ X.ex, b ≠ X.env.locals ∧ ∀ x c, X.env.cells.lookup x = some c → c ≠ b
  bs : ∀ b o, X.base.get? b = some o → X.s₀.heap.get? b = some o ∧ X.H₀ b = none
  bsz : X.base.objs.size ≤ X.s₀.heap.objs.size
  noex : ∀ b o, X.base.get? b = some o → b ∉ X.ex
  exfs : ∀ b ∈ X.ex, b ∉ X.fs
  funs : X.s₀.heap.FunFrames X.base X.outer
  frf : ∀ b ∈ X.fs, X.H₀ b = none
structure Inv (X : Cx) (pins : List (Addr × Obj)) (σ : List (Option V)) (H : Hp) (s : Shared) : Prop where
  ok : X.Ok
  os : s.os = X.s₀.os
  bare : AllBare s.gens
  base : Un X.fs X.ex X.H₀ H X.s₀.heap s.heap
  loc : ∃ m, s.heap.Ns X.env.locals m ∧ ∀ (i : Nat) (x : Str) (v : V), X.N[i]? = some x → σ[i]? = some (some v) → Vis X.env.scope x → ∃ u, RelV v u ∧ Look X.env s.heap m x u
  cell : ∀ x c, X.env.cells.lookup x = some c → ∃ v, s.heap.IsCell c v
  free : H X.env.locals = none
  freeC : ∀ x c, X.env.cells.lookup x = some c → H c = none
  pin : ∀ p ∈ X.pn ++ pins, s.heap.get? p.1 = some p.2 ∧ H p.1 = none ∧ p.1 ≠ X.env.locals ∧ p.1 ∉ X.fs ∧ ∀ v, p.2.data ≠ .cell v
  hok : HOk X.prog X.w H s.heap
  len : σ.length = X.N.length
section
variable {X : Cx} {pins : List (Addr × Obj)} {σ : List (Option V)} {H H' : Hp} {s : Shared} {h' : Heap}
theorem Cx.Ok.nofr (ok : X.Ok) {b : Addr} {o : Obj} (e : X.base.get? b = some o) : b ∉ X.fs := fun hb => by
  have := (ok.funs.mem hb).1
  rw [e] at this; cases this
theorem Inv.bs (I : Inv X pins σ H s) : ∀ b o, X.base.get? b = some o → s.heap.get? b = some o ∧ H b = none := fun b o e =>
  ⟨I.base.keep b o (I.ok.bs b o e).1 (I.ok.bs b o e).2 (I.ok.nofr e) (I.ok.noex b o e), I.base.free b o (I.ok.bs b o e).1 (I.ok.bs b o e).2 (I.ok.noex b o e)⟩
theorem Inv.bk (I : Inv X pins σ H s) : ∀ b o, X.base.get? b = some o → s.heap.get? b = some o := fun b o e => (I.bs b o e).1
theorem Inv.mod (I : Inv X pins σ H s) : Mod X.K X.mg X.base := I.ok.mod
theorem Inv.kIn (I : Inv X pins σ H s) : X.K.In s.heap := I.ok.mod.kin.keeps I.bk
theorem Inv.nolimit (I : Inv X pins σ H s) : s.heap.NoLimit := I.ok.mod.nolimit.keeps I.bk
theorem Inv.fr (I : Inv X pins σ H s) : ∃ m, Fr X.base X.env.locals s.heap m :=
  let ⟨m, hn, _⟩ := I.loc
  ⟨m, hn, I.bk, Nat.le_trans I.ok.bsz I.ok.above⟩
theorem Inv.lt (I : Inv X pins σ H s) : X.env.locals < s.heap.objs.size := let ⟨_, hn, _⟩ := I.loc; hn.lt
theorem Inv.sz (I : Inv X pins σ H s) : X.s₀.heap.objs.size ≤ s.heap.objs.size := Nat.le_trans I.ok.above (Nat.le_of_lt I.lt)
theorem Inv.nofs (I : Inv X pins σ H s) {a : Addr} (h : s.heap.objs.size ≤ a) : a ∉ X.fs := fun hb => by
  obtain ⟨_, o, ho, _⟩ := I.ok.funs.mem hb
  exact absurd (Nat.lt_of_lt_of_le (Heap.lt_size ho) (Nat.le_trans I.sz h)) (Nat.lt_irrefl _)
theorem Inv.cne (I : Inv X pins σ H s) : ∀ x c, X.env.cells.lookup x = some c → c ≠ X.env.locals := fun x c e z => by
  obtain ⟨v, o, ho, hd⟩ := I.cell x c e
  obtain ⟨m, ⟨o', es, ep, ho', hd', _⟩, _⟩ := I.loc
  rw [z, ho'] at ho; cases ho; rw [hd'] at hd; cases hd
theorem Inv.funs (I : Inv X pins σ H s) : s.heap.FunFrames X.base X.outer := by
  have all : ∀ (l : List Env), (∀ b ∈ frs l, b ∈ X.fs) → X.s₀.heap.FunFrames X.base l → s.heap.FunFrames X.base l := by
    intro l
    induction l with
    | nil => intro _ _; trivial
    | cons env r ih =>
      intro hs hl
      obtain ⟨hk, ⟨L, o, hf, hn, ho, hd⟩, hr⟩ := hl
      have hL : L ∈ X.fs := hs L (by unfold frs; rw [List.filterMap_cons, hf]; exact List.mem_cons_self)
      obtain ⟨sl, e⟩ := I.base.slot L o ho (I.ok.frf L hL) hL fun z => I.ok.exfs L z hL
      exact ⟨hk, ⟨L, _, hf, hn, e, hd⟩, ih (fun b hb => hs b (by unfold frs; rw [List.filterMap_cons, hf]; exact List.mem_cons_of_mem _ hb)) hr⟩
  exact all X.outer (fun _ hb => hb) I.ok.funs
theorem Inv.stack (I : Inv X pins σ H s) : s.heap.FunFrames X.base X.stack := by
  rcases I.ok.stk with e | ⟨e, hf⟩
  · rw [e]; exact I.funs
  · rw [e]
    obtain ⟨m, hn, _⟩ := I.loc
    refine .cons (by rw [I.ok.kind]; decide) hf hn ?_ I.funs
    exact Heap.get?_none_of_le (Nat.le_trans I.ok.bsz I.ok.above)
theorem Inv.stkSub (I : Inv X pins σ H s) : ∀ b ∈ frs X.stack, b ∈ X.env.locals :: X.fs := fun b hb => by
  rcases I.ok.stk with e | ⟨e, hf⟩
  · rw [e] at hb; exact List.mem_cons_of_mem _ hb
  · rw [e] at hb
    unfold frs at hb
    rw [List.filterMap_cons, hf] at hb
    exact hb
theorem Inv.stkFree (I : Inv X pins σ H s) : ∀ b ∈ frs X.stack, H b = none := fun b hb => by
  rcases List.mem_cons.mp (I.stkSub b hb) with e | hb
  · rw [e]; exact I.free
  · obtain ⟨_, o, ho, _⟩ := I.ok.funs.mem hb
    exact I.base.free b o ho (I.ok.frf b hb) fun z => I.ok.exfs b z hb
theorem Inv.step {g' : Array GenState} {t' : Nat} {d' : Drawn} {ch : List Addr} (I : Inv X pins σ H s)
    (hch : ∀ b ∈ ch, (b ∈ X.ex ∨ X.s₀.heap.objs.size ≤ b) ∧ b ≠ X.env.locals ∧ (∀ x c, X.env.cells.lookup x = some c → c ≠ b) ∧ ∀ p ∈ X.pn ++ pins, p.1 ≠ b)
    (keep : ∀ b o, b ≠ X.env.locals → b ∉ X.fs → b ∉ ch → s.heap.get? b = some o → H b = none → h'.get? b = some o)
    (slot : ∀ b o, b ≠ X.env.locals → b ∈ X.fs → b ∉ ch → s.heap.get? b = some o → H b = none → ∃ sl, h'.get? b = some { o with slots := sl }) (free : ∀ b o, b ∉ ch → s.heap.get? b = some o → H b = none → H' b = none)
    (there : ∀ b o, b ∉ ch → s.heap.get? b = some o → ∃ o', h'.get? b = some o')
    (tups : ∀ b xs, H b = some (.tup xs) → H' b = some (.tup xs)) (frzs : ∀ b o u, H b = some (.frz o u) → H' b = some (.frz o u)) (tbls : ∀ b ps, H b = some (.tbl ps) → ∃ more, H' b = some (.tbl (ps ++ more)))
    (ns : ∀ m, s.heap.Ns X.env.locals m → h'.Ns X.env.locals m) (hok : HOk X.prog X.w H' h') (hg : AllBare g') :
    Inv X pins σ H' { s with heap := h', gens := g', drawn := d', toks := t' } := by
  have neL : ∀ b o, X.s₀.heap.get? b = some o → b ≠ X.env.locals := fun b o e => Nat.ne_of_lt (Nat.lt_of_lt_of_le (Heap.lt_size e) I.ok.above)
  have neC : ∀ b o, X.s₀.heap.get? b = some o → b ∉ X.ex → b ∉ ch := fun b o e hx hb => by
    rcases (hch b hb).1 with z | z
    · exact hx z
    · exact absurd (Nat.lt_of_lt_of_le (Heap.lt_size e) z) (Nat.lt_irrefl _)
  have cellK : ∀ x c, X.env.cells.lookup x = some c → ∀ v, s.heap.IsCell c v → h'.IsCell c v := fun x c e v ⟨o, ho, hd⟩ => by
    have nch : c ∉ ch := fun z => (hch c z).2.2.1 x c e rfl
    by_cases hc : c ∈ X.fs
    · obtain ⟨sl, q⟩ := slot c o (I.cne x c e) hc nch ho (I.freeC x c e)
      exact ⟨_, q, hd⟩
    · exact ⟨o, keep c o (I.cne x c e) hc nch ho (I.freeC x c e), hd⟩
  refine ⟨I.ok, I.os, hg, ⟨fun b o e n hb hx => ?_, fun b o e n hb hx => ?_, fun b o e n hx => ?_, fun b o e hx => ?_, fun b xs e => tups b xs (I.base.tups b xs e), fun b o xs e => frzs b o xs (I.base.frzs b o xs e), fun b ps e => ?_⟩, ?_, fun x c e => ?_, ?_, fun x c e => ?_, fun p hp => ?_, hok, I.len⟩
  · exact keep b o (neL b o e) hb (neC b o e hx) (I.base.keep b o e n hb hx) (I.base.free b o e n hx)
  · obtain ⟨sl, e1⟩ := I.base.slot b o e n hb hx
    obtain ⟨sl', e2⟩ := slot b _ (neL b o e) hb (neC b o e hx) e1 (I.base.free b o e n hx)
    exact ⟨sl', e2⟩
  · obtain ⟨o', e1⟩ := I.base.there b o e hx
    exact free b o' (neC b o e hx) e1 (I.base.free b o e n hx)
  · obtain ⟨o', e1⟩ := I.base.there b o e hx
    exact there b o' (neC b o e hx) e1
  · obtain ⟨m1, e1⟩ := I.base.tbls b ps e
    obtain ⟨m2, e2⟩ := tbls b _ e1
    exact ⟨m1 ++ m2, by rw [e2, Array.append_assoc]⟩
  · obtain ⟨m, hn, hl⟩ := I.loc
    refine ⟨m, ns m hn, fun i x v e1 e2 e3 => ?_⟩
    obtain ⟨u, r, l⟩ := hl i x v e1 e2 e3
    refine ⟨u, r, ?_⟩
    rcases l with l | ⟨k, c, e, z⟩
    · exact .inl l
    · exact .inr ⟨k, c, e, cellK x c e _ z⟩
  · obtain ⟨v, z⟩ := I.cell x c e
    exact ⟨v, cellK x c e v z⟩
  · obtain ⟨m, ⟨o, _, _, ho, _⟩, _⟩ := I.loc
    exact free _ o (fun z => (hch _ z).2.1 rfl) ho I.free
  · obtain ⟨v, o, ho, hd⟩ := I.cell x c e
    exact free c o (fun z => (hch c z).2.2.1 x c e rfl) ho (I.freeC x c e)
  · obtain ⟨e, n, ne, nf, d⟩ := I.pin p hp
    have nch : p.1 ∉ ch := fun z => (hch p.1 z).2.2.2 p hp rfl
    exact ⟨keep p.1 p.2 ne nf nch e n, free p.1 p.2 nch e n, ne, nf, d⟩
theorem Inv.un {t' : Nat} (I : Inv X pins σ H s) (u : Un X.fs [] H H' s.heap h') (hok : HOk X.prog X.w H' h') : Inv X pins σ H' { s with heap := h', toks := t' } := by
  obtain ⟨m, ⟨o, es, ep, ho, r⟩, _⟩ := id I.loc
  obtain ⟨sl, hL⟩ := u.any ho I.free (by simp)
  exact I.step (g' := s.gens) (d' := s.drawn) (ch := []) (fun _ z => nomatch z) (fun b o _ hb _ e n => u.keep b o e n hb (by simp)) (fun b o _ hb _ e n => u.slot b o e n hb (by simp)) (fun b o _ e n => u.free b o e n (by simp)) (fun b o _ e => u.there b o e (by simp)) u.tups u.frzs u.tbls (fun m' hm => by
    obtain ⟨o', es', ep', ho', r'⟩ := hm
    rw [ho] at ho'; cases ho'
    exact ⟨_, es', ep', hL, r'⟩) hok I.bare
theorem Inv.call {g' : Array GenState} {t' : Nat} {d' : Drawn} {ch : List Addr} (I : Inv X pins σ H s) (u : Un (frs X.stack) ch H H' s.heap h') (hok : HOk X.prog X.w H' h') (hg : AllBare g')
    (hch : ∀ b ∈ ch, (b ∈ X.ex ∨ X.s₀.heap.objs.size ≤ b) ∧ b ≠ X.env.locals ∧ (∀ x c, X.env.cells.lookup x = some c → c ≠ b) ∧ ∀ p ∈ X.pn ++ pins, p.1 ≠ b) :
    Inv X pins σ H' { s with heap := h', gens := g', drawn := d', toks := t' } := by
  obtain ⟨m, ⟨o, es, ep, ho, r⟩, _⟩ := id I.loc
  obtain ⟨sl, hL⟩ := u.any ho I.free fun z => (hch _ z).2.1 rfl
  exact I.step (ch := ch) hch (fun b o hL hb hc e n => u.keep b o e n (fun z => (List.mem_cons.mp (I.stkSub b z)).elim hL hb) hc) (fun b o _ _ hc e n => u.any e n hc) (fun b o hc e n => u.free b o e n hc) (fun b o hc e => u.there b o e hc) u.tups u.frzs u.tbls (fun m' hm => by
    obtain ⟨o', es', ep', ho', r'⟩ := hm
    rw [ho] at ho'; cases ho'
    exact ⟨_, es', ep', hL, r'⟩) hok hg
theorem Inv.turned {t' : Nat} {it : Addr} (I : Inv X pins σ H s) (k : ∀ b o, b ≠ it → s.heap.get? b = some o → h'.get? b = some o) (hn : H it = none) (hL : it ≠ X.env.locals)
    (h1 : it ∈ X.ex ∨ X.s₀.heap.objs.size ≤ it) (h2 : ∀ x c, X.env.cells.lookup x = some c → c ≠ it) (h3 : ∀ p ∈ X.pn ++ pins, p.1 ≠ it) : Inv X pins σ H { s with heap := h', toks := t' } := by
  have nit : ∀ b u, H b = some u → b ≠ it := fun b u e z => by rw [z, hn] at e; cases e
  refine I.step (g' := s.gens) (d' := s.drawn) (ch := [it]) (fun b hb => ?_) (fun b o _ _ hc e _ => k b o (fun z => hc (by simp [z])) e) (fun b o _ _ hc e _ => ⟨o.slots, k b o (fun z => hc (by simp [z])) e⟩) (fun _ _ _ _ n => n)
    (fun b o hc e => ⟨o, k b o (fun z => hc (by simp [z])) e⟩) (fun _ _ e => e) (fun _ _ _ e => e) (fun b ps e => ⟨#[], by rw [e]; simp⟩) (fun m hm => ?_) (fun b u e => ?_) I.bare
  · have e : b = it := by simpa using hb
    subst e
    exact ⟨h1, hL, h2, h3⟩
  · obtain ⟨o, es, ep, ho, r⟩ := hm
    exact ⟨o, es, ep, k _ o (Ne.symm hL) ho, r⟩
  · refine (I.hok b u e).stay (fun c v hc q => k c v ?_ q) (fun _ q => q) fun _ _ q => q
    rcases hc with z | z
    · rw [z]; exact nit b u e
    · exact nit c _ z
theorem Inv.tok (I : Inv X pins σ H s) (t : Nat) : Inv X pins σ H { s with toks := t } := I.un (h' := s.heap) (t' := t) Un.refl I.hok
theorem Inv.kept {t' : Nat} (I : Inv X pins σ H s) (k : ∀ b u, s.heap.get? b = some u → h'.get? b = some u) : Inv X pins σ H { s with heap := h', toks := t' } := I.un (Un.kept k) (I.hok.kept k)
theorem Inv.laid {a : Addr} {o : HO} {t' : Nat} (I : Inv X pins σ H s) (k : ∀ b u, s.heap.get? b = some u → h'.get? b = some u) (hp : s.heap.objs.size ≤ a) (new : ObjOk X.prog X.w (upd H a o) h' a o) :
    Inv X pins σ (upd H a o) { s with heap := h', toks := t' } := I.un (Un.laid k hp (I.hok.fresh hp)) (I.hok.laid k hp new)
theorem Inv.write {x e : Addr} {o : HO} {t' : Nat} (I : Inv X pins σ H s) (mu : Mut (H x)) (he : e = x ∨ H e = some (.own x)) (k : ∀ b u, b ≠ e → s.heap.get? b = some u → h'.get? b = some u) (heo : ∃ u, h'.get? e = some u)
    (new : ObjOk X.prog X.w (upd H x o) h' x o) : Inv X pins σ (upd H x o) { s with heap := h', toks := t' } := I.un (Un.write mu he k heo) (I.hok.write mu he k heo new)
theorem Inv.pins_of {pins' : List (Addr × Obj)} (I : Inv X pins σ H s) (h : ∀ p ∈ pins', s.heap.get? p.1 = some p.2 ∧ H p.1 = none ∧ p.1 ≠ X.env.locals ∧ p.1 ∉ X.fs ∧ ∀ v, p.2.data ≠ .cell v) : Inv X pins' σ H s :=
  ⟨I.ok, I.os, I.bare, I.base, I.loc, I.cell, I.free, I.freeC, fun p hp => (List.mem_append.mp hp).elim (fun z => I.pin p (List.mem_append_left _ z)) (h p), I.hok, I.len⟩
theorem nodup_ix {N : List Str} (hN : N.Nodup) {i j : Nat} {x : Str} (a : N[i]? = some x) (b : N[j]? = some x) : i = j := by
  obtain ⟨h1, e1⟩ := List.getElem?_eq_some_iff.mp a
  obtain ⟨h2, e2⟩ := List.getElem?_eq_some_iff.mp b
  exact (List.getElem_inj hN).mp (e1.trans e2.symm)
theorem store_ok2 {M : Model} {A : Around} {E : Value → Shared → Prop} {i : Nat} {x : Str} {v : V} {u : Value} {Q : Unit → Shared → Prop} (I : Inv X pins σ H s) (hN : X.N.Nodup) (hi : X.N[i]? = some x) (hx : Loc X.env.scope x) (r : RelV v u)
    (h : ∀ s', Inv X pins (σ.set i (some v)) H s' → (∃ a, Heap.SameBut a s.heap s'.heap ∧ (a = X.env.locals ∨ X.env.cells.lookup x = some a)) → Q () s') (hf : X.fn x = true ∨ X.env.scope.names.lookup x = some .local := by first | exact .inl rfl | exact .inr rfl | assumption) : wpAny M A (storeName X.env x u) Q E s := by
  obtain ⟨m, hn, hl⟩ := id I.loc
  have hcls : (X.env.scope.kind == .class || (X.env.scope.kind == .module && X.env.locals != X.env.globals)) = false := by rw [I.ok.kind]; rfl
  have hiσ : i < σ.length := by rw [I.len]; exact (List.getElem?_eq_some_iff.mp hi).1
  have cne := I.cne
  have tracked : ∀ {a : Addr} {h' : Heap}, (∃ o, s.heap.get? a = some o ∧ H a = none) → Heap.SameBut a s.heap h' → HOk X.prog X.w H h' := fun {a h'} ha hs b ob e => by
    obtain ⟨_, _, hfree⟩ := ha
    refine (I.hok b ob e).stay (fun c w' hc q => (hs.2 c ?_).trans q) (fun _ q => q) fun _ _ q => q
    rintro rfl
    rcases hc with rfl | hc
    · rw [hfree] at e; cases e
    · rw [hfree] at hc; cases hc
  rcases hx with hk | hk
  · refine wpAny_storeName_local hk hn (fun h' hn' hs => ?_) hcls
    obtain ⟨oL, _, _, hoL, _⟩ := id hn
    refine h _ ⟨I.ok, I.os, I.bare, ⟨fun b o e n hb hx => ?_, fun b o e n hb hx => ?_, I.base.free, fun b o e hx => ?_, I.base.tups, I.base.frzs, I.base.tbls⟩, ⟨_, hn', fun j y v' e1 e2 e3 => ?_⟩, fun y c e => ?_, I.free, I.freeC, fun p hp => ?_, tracked ⟨oL, hoL, I.free⟩ hs, by simpa using I.len⟩ ⟨_, hs, .inl rfl⟩
    · exact (hs.2 b (Nat.ne_of_lt (Nat.lt_of_lt_of_le (Heap.lt_size e) I.ok.above))).trans (I.base.keep b o e n hb hx)
    · obtain ⟨sl, e1⟩ := I.base.slot b o e n hb hx
      exact ⟨sl, (hs.2 b (Nat.ne_of_lt (Nat.lt_of_lt_of_le (Heap.lt_size e) I.ok.above))).trans e1⟩
    · obtain ⟨o', e1⟩ := I.base.there b o e hx
      exact ⟨o', (hs.2 b (Nat.ne_of_lt (Nat.lt_of_lt_of_le (Heap.lt_size e) I.ok.above))).trans e1⟩
    · by_cases hj : j = i
      · subst hj
        rw [hi] at e1; cases e1
        rw [List.getElem?_set_self hiσ] at e2
        cases e2
        exact ⟨u, r, .inl ⟨hk, by simp⟩⟩
      · rw [List.getElem?_set_ne (Ne.symm hj)] at e2
        obtain ⟨u', r', q⟩ := hl j y v' e1 e2 e3
        refine ⟨u', r', ?_⟩
        rcases q with ⟨k, e⟩ | ⟨k, c, e, z⟩
        · refine .inl ⟨k, ?_⟩
          have : y ≠ x := fun e => hj (nodup_ix hN e1 (e ▸ hi))
          simp [this, e]
        · exact .inr ⟨k, c, e, z.sameBut hs (cne y c e)⟩
    · obtain ⟨w', z⟩ := I.cell y c e
      exact ⟨w', z.sameBut hs (cne y c e)⟩
    · obtain ⟨e, n, ne, nf, d⟩ := I.pin p hp
      exact ⟨(hs.2 p.1 ne).trans e, n, ne, nf, d⟩
  · have hfn : X.fn x = true := by
      rcases hf with z | z
      · exact z
      · rw [z] at hk; cases hk
    obtain ⟨c, hc⟩ := I.ok.has x (.inl hk)
    obtain ⟨w', z⟩ := I.cell x c hc
    refine wpAny_storeName_cell I.ok.kind hk hc z (fun h' hc' hs => ?_)
    obtain ⟨oc, hoc, hocd⟩ := id z
    refine h { s with heap := h' } ⟨I.ok, I.os, I.bare, ⟨fun b o e n hb hx => ?_, fun b o e n hb hx => ?_, I.base.free, fun b o e hx => ?_, I.base.tups, I.base.frzs, I.base.tbls⟩, ⟨m, hn.sameBut hs (Ne.symm (cne x c hc)), fun j y v' e1 e2 e3 => ?_⟩, fun y c' e => ?_, I.free, I.freeC, fun p hp => ?_, tracked ⟨oc, hoc, I.freeC x c hc⟩ hs, by simpa using I.len⟩ ⟨c, hs, .inr hc⟩
    · exact (hs.2 b (Nat.ne_of_lt (Nat.lt_of_lt_of_le (Heap.lt_size e) (I.ok.cab x c hfn hc)))).trans (I.base.keep b o e n hb hx)
    · obtain ⟨sl, e1⟩ := I.base.slot b o e n hb hx
      exact ⟨sl, (hs.2 b (Nat.ne_of_lt (Nat.lt_of_lt_of_le (Heap.lt_size e) (I.ok.cab x c hfn hc)))).trans e1⟩
    · obtain ⟨o', e1⟩ := I.base.there b o e hx
      exact ⟨o', (hs.2 b (Nat.ne_of_lt (Nat.lt_of_lt_of_le (Heap.lt_size e) (I.ok.cab x c hfn hc)))).trans e1⟩
    · by_cases hj : j = i
      · subst hj
        rw [hi] at e1; cases e1
        rw [List.getElem?_set_self hiσ] at e2
        cases e2
        exact ⟨u, r, .inr ⟨.inl hk, c, hc, hc'⟩⟩
      · rw [List.getElem?_set_ne (Ne.symm hj)] at e2
        obtain ⟨u', r', q⟩ := hl j y v' e1 e2 e3
        refine ⟨u', r', ?_⟩
        rcases q with q | ⟨k, c', e, z'⟩
        · exact .inl q
        · refine .inr ⟨k, c', e, z'.sameBut hs ?_⟩
          rintro rfl
          exact hj (nodup_ix hN e1 (I.ok.inj _ _ _ e hc ▸ hi))
    · by_cases hcc : c' = c
      · subst hcc; exact ⟨_, hc'⟩
      · obtain ⟨w2, z2⟩ := I.cell y c' e
        exact ⟨w2, z2.sameBut hs hcc⟩
    · obtain ⟨e, n, ne, nf, d⟩ := I.pin p hp
      refine ⟨(hs.2 p.1 ?_).trans e, n, ne, nf, d⟩
      intro q
      rw [q, hoc] at e
      have q' : oc = p.2 := Option.some.inj e
      exact d w' (by rw [← q']; exact hocd)
theorem store_ok {M : Model} {A : Around} {E : Value → Shared → Prop} {i : Nat} {x : Str} {v : V} {u : Value} {Q : Unit → Shared → Prop} (I : Inv X pins σ H s) (hN : X.N.Nodup) (hi : X.N[i]? = some x) (hx : Loc X.env.scope x) (r : RelV v u)
    (h : ∀ s', Inv X pins (σ.set i (some v)) H s' → Q () s') (hf : X.fn x = true ∨ X.env.scope.names.lookup x = some .local := by first | exact .inl rfl | exact .inr rfl | assumption) : wpAny M A (storeName X.env x u) Q E s :=
  store_ok2 I hN hi hx r (fun s' I' _ => h s' I') hf
theorem Inv.call' {s' : Shared} {ch : List Addr} (I : Inv X pins σ H s) (ho : s'.os = s.os) (u : Un (frs X.stack) ch H H' s.heap s'.heap) (hok : HOk X.prog X.w H' s'.heap) (hg : AllBare s'.gens)
    (hch : ∀ b ∈ ch, (b ∈ X.ex ∨ X.s₀.heap.objs.size ≤ b) ∧ b ≠ X.env.locals ∧ (∀ x c, X.env.cells.lookup x = some c → c ≠ b) ∧ ∀ p ∈ X.pn ++ pins, p.1 ≠ b) : Inv X pins σ H' s' := by
  obtain ⟨h', g', d', t', o'⟩ := s'
  have e : o' = s.os := ho
  subst e
  exact I.call (g' := g') (t' := t') (d' := d') u hok hg hch
end
abbrev XK := Value → Option Addr → Hp → Prop
abbrev St := List (Option V)
abbrev VK := V → Hp → Prop
abbrev TE := St → Hp → VK → Prop
abbrev TT := St → Hp → (Bool → Hp → Prop) → Prop
abbrev TA := St → Hp → (List V → Hp → Prop) → Prop
structure Ends where
  nx : St → Hp → Prop
  rt : VK
  bk : St → Hp → Prop := fun _ _ => False
  ct : St → Hp → Prop := fun _ _ => False
abbrev TS := Ends → St → Hp → Prop
def EP (X : Cx) (pins : List (Addr × Obj)) (σ : St) (Q : VK) (u : Value) (s' : Shared) : Prop := ∃ v H', Inv X pins σ H' s' ∧ RelV v u ∧ Q v H'
def TP (X : Cx) (pins : List (Addr × Obj)) (σ : St) (Q : Bool → Hp → Prop) (b : Bool) (s' : Shared) : Prop := ∃ H', Inv X pins σ H' s' ∧ Q b H'
def AP (X : Cx) (pins : List (Addr × Obj)) (σ : St) (Q : List V → Hp → Prop) (us : List Value) (s' : Shared) : Prop := ∃ vs H', Inv X pins σ H' s' ∧ Vals vs us ∧ Q vs H'
def SP (X : Cx) (pins : List (Addr × Obj)) (D : Ends) (f : Flow) (s' : Shared) : Prop :=
  match f with
  | .next => ∃ σ' H', Inv X pins σ' H' s' ∧ D.nx σ' H'
  | .brk => ∃ σ' H', Inv X pins σ' H' s' ∧ D.bk σ' H'
  | .cont => ∃ σ' H', Inv X pins σ' H' s' ∧ D.ct σ' H'
  | .ret u => ∃ v σ' H', Inv X pins σ' H' s' ∧ RelV v u ∧ D.rt v H'
def PE (X : Cx) (e : Expr) (t : TE) : Prop :=
  ∀ (pins : List (Addr × Obj)) (s : Shared) (σ : St) (H : Hp) (Q : VK), Inv X pins σ H s → t σ H Q → wpAny (model X.prog X.w) X.A (eval e X.env) (EP X pins σ Q) X.xe s
def PT (X : Cx) (e : Expr) (t : TT) : Prop :=
  ∀ (pins : List (Addr × Obj)) (s : Shared) (σ : St) (H : Hp) (Q : Bool → Hp → Prop), Inv X pins σ H s → t σ H Q → wpAny (model X.prog X.w) X.A (isTrue e X.env (eval e X.env)) (TP X pins σ Q) X.xe s
def PW (X : Cx) (e : Expr) (t : TT) : Prop :=
  ∀ (whole : Sem Value) (pins : List (Addr × Obj)) (s : Shared) (σ : St) (H : Hp) (Q : Bool → Hp → Prop), Inv X pins σ H s → t σ H Q → wpAny (model X.prog X.w) X.A (isTrue e X.env whole) (TP X pins σ Q) X.xe s
theorem PW.pt {X : Cx} {e : Expr} {t : TT} (h : PW X e t) : PT X e t := h _
def PA (X : Cx) (es : List Expr) (t : TA) : Prop :=
  ∀ (pos : Pos) (pins : List (Addr × Obj)) (s : Shared) (σ : St) (H : Hp) (Q : List V → Hp → Prop), Inv X pins σ H s → t σ H Q → wpAny (model X.prog X.w) X.A (spliced (backTo pos (starEach es X.env))) (AP X pins σ Q) X.xe s
def PS (X : Cx) (st : Stmt) (t : TS) : Prop :=
  ∀ (pins : List (Addr × Obj)) (s : Shared) (σ : St) (H : Hp) (D : Ends), Inv X pins σ H s → t D σ H → wpAny (model X.prog X.w) X.A (exec st X.env) (SP X pins D) X.xe s
def PSs (X : Cx) (st : List Stmt) (t : TS) : Prop :=
  ∀ (pins : List (Addr × Obj)) (s : Shared) (σ : St) (H : Hp) (D : Ends), Inv X pins σ H s → t D σ H → wpAny (model X.prog X.w) X.A (execs st X.env) (SP X pins D) X.xe s
theorem thn {α : Type} {t : Sem α} {Q Q' : α → Shared → Prop} {M : Model} {A : Around} {E : Value → Shared → Prop} {s : Shared} (h : wpAny M A t Q E s) (hQ : ∀ a s, Q a s → Q' a s) : wpAny M A t Q' E s := wpAny_mono h hQ fun _ _ x => x
end L2
namespace L2
open PySem PySem.Spec PyProof.Rows
section
variable {X : Cx}
def tVar (i : Nat) : TE := fun σ H Q => ∃ v, σ[i]? = some (some v) ∧ Q v H
def tC (v : V) : TE := fun _ H Q => Q v H
theorem pe_var {i : Nat} {x : Str} {pos : Pos} (hN : X.N[i]? = some x) (hv : Vis X.env.scope x) (hd : (x == ("__debug__" : Str)) = false := by decide) (hcd : (x == ("__classdict__" : Str)) = false := by decide) : PE X (.Name x pos) (tVar i) := by
  intro pins s σ H Q I h
  obtain ⟨v, e, h⟩ := h
  obtain ⟨m, hn, hl⟩ := I.loc
  obtain ⟨u, r, l⟩ := hl i x v hN e hv
  have fin : EP X pins σ Q u s := ⟨v, H, I, r, h⟩
  rcases l with ⟨hk, hm⟩ | ⟨hk, c, hc, hcell⟩
  · exact wpAny_Name (wpAny_loadName_local I.ok.kind hk hn hm fin) hd
  · rcases hk with hk | hk
    · exact wpAny_Name (wpAny_loadName_cell I.ok.kind hk hc hcell fin) hd
    · exact wpAny_Name (wpAny_loadName_free I.ok.kind hk hc hcell fin hcd) hd
theorem pe_int {i j pos} : PE X (.Constant (.int i) j pos) (tC (.int i)) := fun _ _ _ H _ I h => wpAny_Constant_int ⟨.int i, H, I.tok _, ⟨_, rfl⟩, h⟩
theorem pe_bl {b j pos} : PE X (.Constant (.bool b) j pos) (tC (.bl b)) := fun _ _ _ H _ I h => Constant_bool ⟨.bl b, H, I, rfl, h⟩
theorem pe_non {j pos} : PE X (.Constant .none j pos) (tC .non) := fun _ _ _ H _ I h => Constant_none ⟨.non, H, I, rfl, h⟩
theorem pe_str {x j pos} : PE X (.Constant (.str x) j pos) (tC (.str x)) := fun _ _ _ H _ I h => Calls.Constant_str ⟨.str x, H, I.tok _, ⟨_, rfl⟩, h⟩
def Gl (X : Cx) (x : Str) : Prop := X.env.kindOf x = some .globalImplicit
theorem ld_glob {E : Value → Shared → Prop} {pins : List (Addr × Obj)} {s : Shared} {σ : St} {H : Hp} {x : Str} {u : Value} {pos : Pos} {Q : Value → Shared → Prop} (I : Inv X pins σ H s) (hg : Gl X x) (hm : X.mg x = some u) (h : Q u s)
    (hd : (x == ("__debug__" : Str)) = false := by decide) : wpAny (model X.prog X.w) X.A (eval (.Name x pos) X.env) Q E s :=
  Calls.Name_function_global I.ok.kind hg (Calls.loadGlobal_global (by rw [I.ok.glob]; exact I.mod.glob.keeps I.bk) hm h) hd
theorem ld_blt {E : Value → Shared → Prop} {pins : List (Addr × Obj)} {s : Shared} {σ : St} {H : Hp} {x : Str} {u : Value} {pos : Pos} {Q : Value → Shared → Prop} (I : Inv X pins σ H s) (hg : Gl X x) (hm : X.mg x = none) (hv : bootBuiltins x = some u) (h : Q u s)
    (hn : x ≠ "__name__" := by decide) (hd : (x == ("__debug__" : Str)) = false := by decide) : wpAny (model X.prog X.w) X.A (eval (.Name x pos) X.env) Q E s := by
  obtain ⟨mb, h1, h2⟩ := I.mod.blt
  exact Calls.Name_function_global I.ok.kind hg (Calls.loadGlobal_builtin (by rw [I.ok.glob]; exact I.mod.glob.keeps I.bk) hm (by rw [I.ok.blt]; exact h1.keeps I.bk) ((h2 x hn).trans hv) h) hd
theorem pe_glob {x : Str} {v : V} {u : Value} {pos : Pos} (hg : Gl X x) (hm : X.mg x = some u) (r : RelV v u) (hd : (x == ("__debug__" : Str)) = false := by decide) : PE X (.Name x pos) (tC v) :=
  fun _ _ _ H _ I h => ld_glob I hg hm ⟨v, H, I, r, h⟩ hd
theorem pe_bltn {x : Str} {v : V} {u : Value} {pos : Pos} (hg : Gl X x) (hm : X.mg x = none) (hv : bootBuiltins x = some u) (r : RelV v u) (hn : x ≠ "__name__" := by decide) (hd : (x == ("__debug__" : Str)) = false := by decide) : PE X (.Name x pos) (tC v) :=
  fun _ _ _ H _ I h => ld_blt I hg hm hv ⟨v, H, I, r, h⟩ hn hd
variable {a b : Expr} {ta tb : TE} {pos : Pos}
def PC (X : Cx) (op : CmpOp) (a b : Expr) (t : TE) : Prop :=
  ∀ (pins : List (Addr × Obj)) (s : Shared) (σ : St) (H : Hp) (Q : VK), Inv X pins σ H s → t σ H Q →
    wpAny (model X.prog X.w) X.A (eval a X.env) (fun v s₁ => wpAny (model X.prog X.w) X.A (eval b X.env) (fun u s₂ => wpAny (model X.prog X.w) X.A (compareOp op v u) (EP X pins σ Q) X.xe s₂) X.xe s₁) X.xe s
theorem nobehind (b : Expr) {op : CmpOp} (h : op ≠ .In) (h2 : op ≠ .NotIn) : behindInMarks op b = false := by
  have e1 : (op == CmpOp.In) = false := by cases op <;> first | rfl | exact absurd rfl h
  have e2 : (op == CmpOp.NotIn) = false := by cases op <;> first | rfl | exact absurd rfl h2
  cases b <;> simp [behindInMarks, e1, e2]
def tB (t : TE) : TT := fun σ H Q => t σ H fun x H1 => ∃ c, x = .bl c ∧ Q c H1
theorem pe_cmp {op : CmpOp} {t : TE} (h : PC X op a b t) (h1 : behindInMarks op b = false := by first | exact nobehind _ (by decide) (by decide) | rfl) : PE X (.Compare a [op] [b] pos) t := fun pins s σ H Q I hw => wpAny_Compare1 (h pins s σ H Q I hw) h1
theorem pt_cmp {op : CmpOp} {t : TE} (h : PC X op a b t) (h1 : behindInMarks op b = false := by first | exact nobehind _ (by decide) (by decide) | rfl) : PT X (.Compare a [op] [b] pos) (tB t) := by
  intro pins s σ H Q I hw
  refine wpAny_isTrue_Compare1 (thn (h pins s σ H _ I hw) fun v s1 h1 => thn h1 fun u s2 h2 => thn h2 fun c s3 ⟨x, H1, I1, r1, q1⟩ => ?_) h1
  obtain ⟨d, rfl, q⟩ := q1
  cases r1
  exact wpAny_truthy_bool ⟨H1, I1, q⟩
theorem pt_val {e : Expr} {t : TE} (h : PE X e t) (he : ∀ whole, isTrue e X.env whole = (do let v ← whole; standAt e.pos; holding [v] (truthy v)) := by intro _; rfl) : PT X e (tB t) := by
  intro pins s σ H Q I hw
  refine isTrue_plain (thn (h pins s σ H _ I hw) fun v s1 ⟨x, H1, I1, r1, q1⟩ => ?_) (he _)
  obtain ⟨d, rfl, q⟩ := q1
  cases r1
  exact wpAny_truthy_bool ⟨H1, I1, q⟩
variable {tA tB' : TT} {rest : List Expr}
def tAnd (t u : TT) : TT := fun σ H Q => t σ H fun c H1 => if c = true then u σ H1 Q else Q false H1
def tOr (t u : TT) : TT := fun σ H Q => t σ H fun c H1 => if c = true then Q true H1 else u σ H1 Q
def tNot (t : TT) : TT := fun σ H Q => t σ H fun c H1 => Q (!c) H1
theorem pw_and1 (ha : PT X a tA) : PW X (.BoolOp .And [a] pos) tA := by
  intro wh pins s σ H Q I h
  refine isTrue_and (thn (ha pins s σ H Q I h) fun c s1 e => ?_)
  cases c with
  | true => exact isTrue_and_nil e
  | false => exact e
theorem pw_or1 (ha : PT X a tA) : PW X (.BoolOp .Or [a] pos) tA := by
  intro wh pins s σ H Q I h
  refine isTrue_or (thn (ha pins s σ H Q I h) fun c s1 e => ?_)
  cases c with
  | false => exact isTrue_or_nil e
  | true => exact e
theorem pw_and (ha : PT X a tA) (hb : PW X (.BoolOp .And (b :: rest) pos) tB') : PW X (.BoolOp .And (a :: b :: rest) pos) (tAnd tA tB') := by
  intro wh pins s σ H Q I h
  refine isTrue_and (thn (ha pins s σ H _ I h) fun c s1 ⟨H1, I1, q1⟩ => ?_)
  cases c with
  | true => exact hb wh pins s1 σ H1 Q I1 q1
  | false => exact ⟨H1, I1, q1⟩
theorem pw_or (ha : PT X a tA) (hb : PW X (.BoolOp .Or (b :: rest) pos) tB') : PW X (.BoolOp .Or (a :: b :: rest) pos) (tOr tA tB') := by
  intro wh pins s σ H Q I h
  refine isTrue_or (thn (ha pins s σ H _ I h) fun c s1 ⟨H1, I1, q1⟩ => ?_)
  cases c with
  | true => exact ⟨H1, I1, q1⟩
  | false => exact hb wh pins s1 σ H1 Q I1 q1
theorem pt_not (ha : PT X a tA) : PT X (.UnaryOp .Not a pos) (tNot tA) := by
  intro pins s σ H Q I h
  exact isTrue_not (ha pins s σ H (fun c H1 => Q (!c) H1) I h)
def tAndV (ta tb : TE) : TE := fun σ H Q => ta σ H fun x H1 => ∃ c, x = .bl c ∧ if c = true then tb σ H1 Q else Q (.bl false) H1
def tNotV (ta : TE) : TE := fun σ H Q => ta σ H fun x H1 => ∃ c, x = .bl c ∧ Q (.bl (!c)) H1
theorem pe_one {op} {t : TE} (h : PE X a t) : PE X (.BoolOp op [a] pos) t := fun pins s σ H Q I hw => BoolOp_one (h pins s σ H Q I hw)
theorem pe_and (ha : PE X a ta) (hb : PE X (.BoolOp .And (b :: rest) pos) tb) : PE X (.BoolOp .And (a :: b :: rest) pos) (tAndV ta tb) := by
  intro pins s σ H Q I h
  refine BoolOp_and (thn (ha pins s σ H _ I h) fun v s1 ⟨x, H1, I1, r1, q1⟩ => ?_)
  obtain ⟨c, rfl, q1⟩ := q1
  cases r1
  refine wpAny_truthy_bool ?_
  cases c with
  | true => exact hb pins s1 σ H1 Q I1 q1
  | false => exact ⟨.bl false, H1, I1, rfl, q1⟩
theorem pe_not (ha : PE X a ta) : PE X (.UnaryOp .Not a pos) (tNotV ta) := by
  intro pins s σ H Q I h
  refine UnaryOp_ (thn (ha pins s σ H _ I h) fun v s1 ⟨x, H1, I1, r1, q1⟩ => ?_)
  obtain ⟨c, rfl, q1⟩ := q1
  cases r1
  exact not_of (wpAny_truthy_bool ⟨.bl (!c), H1, I1, rfl, q1⟩)
end
end L2
namespace L2
open PySem PySem.Spec PyProof.Rows
def SqL (K : PySem.W.Frag) (H : Hp) (a : Addr) (xs : List V) : Prop :=
  Rd H a (.lst xs) ∨
    ∃ (o : Obj) (its : Array Value) (n : Nat), K.lookup a = some o ∧ o.cls = .type "list" ∧ o.dict = none ∧ o.data = .seq its n ∧ its.size ≤ sizeLine ∧ Vals xs its.toList
def SqT (K : PySem.W.Frag) (H : Hp) (a : Addr) (xs : List V) : Prop :=
  Rd H a (.tup xs) ∨
    ∃ (o : Obj) (its : Array Value) (n : Nat), K.lookup a = some o ∧ o.cls = .type "tuple" ∧ o.data = .seq its n ∧ its.size ≤ sizeLine ∧ Vals xs its.toList
def absV : Value → Option V
  | .none => some .non
  | .bool b => some (.bl b)
  | .int i _ => some (.int i)
  | .str x _ => some (.str x)
  | .bytes b _ => some (.byt b)
  | .float b _ => some (.flt b)
  | .ref a => some (.ref a)
  | .type n => some (.ty n)
  | _ => none
theorem RelV.abs {x : V} {u : Value} (r : RelV x u) : absV u = some x := by
  cases x with
  | non => cases r; rfl
  | bl _ => cases r; rfl
  | int _ => obtain ⟨t, rfl⟩ := r; rfl
  | str _ => obtain ⟨t, rfl⟩ := r; rfl
  | byt _ => obtain ⟨t, rfl⟩ := r; rfl
  | flt _ => obtain ⟨t, rfl⟩ := r; rfl
  | ref _ => cases r; rfl
  | ty _ => cases r; rfl
theorem RelV.inj {x y : V} {u : Value} (r : RelV x u) (q : RelV y u) : x = y := Option.some.inj (r.abs.symm.trans q.abs)
theorem Vals.inj : ∀ {xs ys : List V} {us : List Value}, Vals xs us → Vals ys us → xs = ys
  | _, _, _, .nil, .nil => rfl
  | _, _, _, .cons r t, .cons r' t' => by rw [r.inj r', Vals.inj t t']
section
variable {X : Cx} {pins : List (Addr × Obj)} {σ : St} {H : Hp} {s : Shared} {a : Addr} {xs ys : List V}
theorem SqL.of {K : PySem.W.Frag} (h : H a = some (.lst xs)) : SqL K H a xs := .inl (.inl h)
theorem SqT.of {K : PySem.W.Frag} (h : H a = some (.tup xs)) : SqT K H a xs := .inl (.inl h)
theorem Inv.list (I : Inv X pins σ H s) (h : SqL X.K H a xs) : ∃ its : List Value, Vals xs its ∧ PlainL s.heap a its.toArray ∧ xs.length ≤ sizeLine := by
  rcases h with h | ⟨o, its, n, hk, hc, hd, hs, hz, r⟩
  · obtain ⟨z, its, n, r, e⟩ := h.ok I.hok
    exact ⟨its, r, ⟨_, n, e, rfl, rfl, rfl⟩, z⟩
  · refine ⟨its.toList, r, ⟨o, n, I.kIn a o hk, hc, hd, by simpa using hs⟩, ?_⟩
    have e := r.length
    simp only [Array.length_toList] at e
    omega
theorem Inv.tuple (I : Inv X pins σ H s) (h : SqT X.K H a xs) : ∃ its : List Value, Vals xs its ∧ IsTup s.heap a its.toArray ∧ xs.length ≤ sizeLine := by
  rcases h with h | ⟨o, its, n, hk, hc, hs, hz, r⟩
  · obtain ⟨z, its, r, p⟩ := h.ok I.hok
    exact ⟨its, r, p, z⟩
  · refine ⟨its.toList, r, ⟨o, I.kIn a o hk, hc, n, by simpa using hs⟩, ?_⟩
    have e := r.length
    simp only [Array.length_toList] at e
    omega
theorem Inv.list_inj (I : Inv X pins σ H s) (h : SqL X.K H a xs) (h' : SqL X.K H a ys) : xs = ys := by
  obtain ⟨its, r, ⟨o, n, e, _, _, d⟩, _⟩ := I.list h
  obtain ⟨its', r', ⟨o', n', e', _, _, d'⟩, _⟩ := I.list h'
  rw [e] at e'; cases e'
  rw [d] at d'
  injection d' with d1 _
  have : its = its' := by simpa using congrArg Array.toList d1
  subst this
  exact r.inj r'
theorem Inv.tuple_inj (I : Inv X pins σ H s) (h : SqT X.K H a xs) (h' : SqT X.K H a ys) : xs = ys := by
  obtain ⟨its, r, ⟨o, e, _, n, d⟩, _⟩ := I.tuple h
  obtain ⟨its', r', ⟨o', e', _, n', d'⟩, _⟩ := I.tuple h'
  rw [e] at e'; cases e'
  rw [d] at d'
  injection d' with d1 _
  have : its = its' := by simpa using congrArg Array.toList d1
  subst this
  exact r.inj r'
end
abbrev Cx.wish (X : Cx) (E : Value → Shared → Prop) : Cx := { X with xe := E }
abbrev Cx.nox (X : Cx) : Cx := X.wish fun _ _ => False
theorem Cx.Ok.wish {X : Cx} (ok : X.Ok) (E : Value → Shared → Prop) : (X.wish E).Ok :=
  ⟨ok.mod, ok.kind, ok.glob, ok.blt, ok.above, ok.inj, ok.has, ok.cab, ok.hd, ok.frames, ok.stk, ok.exf, ok.bs, ok.bsz, ok.noex, ok.exfs, ok.funs, ok.frf⟩
theorem Cx.Ok.unwish {X : Cx} {E : Value → Shared → Prop} (ok : (X.wish E).Ok) : X.Ok :=
  ⟨ok.mod, ok.kind, ok.glob, ok.blt, ok.above, ok.inj, ok.has, ok.cab, ok.hd, ok.frames, ok.stk, ok.exf, ok.bs, ok.bsz, ok.noex, ok.exfs, ok.funs, ok.frf⟩
section
variable {X : Cx} {pins : List (Addr × Obj)} {σ : St} {H : Hp} {s : Shared} {E : Value → Shared → Prop}
theorem Inv.wish (I : Inv X pins σ H s) (E : Value → Shared → Prop) : Inv (X.wish E) pins σ H s := ⟨I.ok.wish E, I.os, I.bare, I.base, I.loc, I.cell, I.free, I.freeC, I.pin, I.hok, I.len⟩
theorem Inv.unwish (I : Inv (X.wish E) pins σ H s) : Inv X pins σ H s := ⟨I.ok.unwish, I.os, I.bare, I.base, I.loc, I.cell, I.free, I.freeC, I.pin, I.hok, I.len⟩
theorem SP.unwish {D : Ends} {f : Flow} {s' : Shared} (h : SP (X.wish E) pins D f s') : SP X pins D f s' := by
  cases f with
  | next => obtain ⟨σ', H', I, q⟩ := h; exact ⟨σ', H', I.unwish, q⟩
  | brk => obtain ⟨σ', H', I, q⟩ := h; exact ⟨σ', H', I.unwish, q⟩
  | cont => obtain ⟨σ', H', I, q⟩ := h; exact ⟨σ', H', I.unwish, q⟩
  | ret u => obtain ⟨v, σ', H', I, r, q⟩ := h; exact ⟨v, σ', H', I.unwish, r, q⟩
theorem PE.nox {e : Expr} {t : TE} (h : PE X.nox e t) : PE X e t := fun pins s σ H Q I hw =>
  wpAny_mono (h pins s σ H Q (I.wish _) hw) (fun _ _ ⟨v, H', I', r, q⟩ => ⟨v, H', I'.unwish, r, q⟩) fun _ _ z => False.elim z
theorem PT.nox {e : Expr} {t : TT} (h : PT X.nox e t) : PT X e t := fun pins s σ H Q I hw =>
  wpAny_mono (h pins s σ H Q (I.wish _) hw) (fun _ _ ⟨H', I', q⟩ => ⟨H', I'.unwish, q⟩) fun _ _ z => False.elim z
theorem PSs.nox {st : List Stmt} {t : TS} (h : PSs X.nox st t) : PSs X st t := fun pins s σ H D I hw =>
  wpAny_mono (h pins s σ H D (I.wish _) hw) (fun _ _ q => q.unwish) fun _ _ z => False.elim z
end
section
variable {X : Cx} {st : Stmt} {rest : List Stmt} {t u : TS} {e : Expr} {te : TE} {pos : Pos}
def tNext : TS := fun D σ H => D.nx σ H
def tSeq (t u : TS) : TS := fun D σ H => t { D with nx := u D } σ H
theorem pss_nil : PSs X [] tNext := fun _ _ σ H _ I h => wpAny_execs_nil ⟨σ, H, I, h⟩
theorem pss_cons (h1 : PS X st t) (h2 : PSs X rest u) : PSs X (st :: rest) (tSeq t u) := by
  intro pins s σ H D I h
  refine wpAny_execs_cons (thn (h1 pins s σ H { D with nx := u D } I h) fun f s1 q => ?_)
  cases f with
  | next =>
    obtain ⟨σ', H', I', q⟩ := q
    exact h2 pins s1 σ' H' D I' q
  | ret v => exact q
  | brk => exact q
  | cont => exact q
theorem pss_one (h1 : PS X st t) : PSs X [st] t := by
  intro pins s σ H D I h
  refine wpAny_execs_cons (thn (h1 pins s σ H D I h) fun f s1 q => ?_)
  cases f with
  | next => exact wpAny_execs_nil q
  | ret v => exact q
  | brk => exact q
  | cont => exact q
theorem Inv.quiet {pins : List (Addr × Obj)} {σ : St} {H : Hp} {s : Shared} (I : Inv X pins σ H s) : interactive X.env = false := by simp [interactive, I.ok.kind]
def tRet (te : TE) : TS := fun D σ H => te σ H D.rt
theorem ps_ret (he : PE X e te) : PS X (.Return (some e) pos) (tRet te) := by
  intro pins s σ H D I h
  exact wpAny_Return_some (thn (he pins s σ H _ I h) fun v s1 ⟨x, H1, I1, r1, q1⟩ => ⟨x, σ, H1, I1, r1, q1⟩)
def tIfS (c : TT) (t u : TS) : TS := fun D σ H => c σ H fun b H1 => if b = true then t D σ H1 else u D σ H1
theorem ps_if {c : Expr} {a b : List Stmt} {tc : TT} (hc : PT X c tc) (ha : PSs X a t) (hb : PSs X b u) : PS X (.If c a b pos) (tIfS tc t u) := by
  intro pins s σ H D I h
  refine wpAny_If (thn (hc pins s σ H _ I h) fun d s1 ⟨H1, I1, q1⟩ => ?_)
  cases d with
  | true => exact ha pins s1 σ H1 D I1 q1
  | false => exact hb pins s1 σ H1 D I1 q1
end
abbrev TG := V → St → Hp → (St → Hp → Prop) → Prop
abbrev TGs := List V → St → Hp → (St → Hp → Prop) → Prop
def PG (X : Cx) (target : Expr) (t : TG) : Prop :=
  ∀ (pins : List (Addr × Obj)) (s : Shared) (σ : St) (H : Hp) (v : V) (u : Value) (Q : St → Hp → Prop), Inv X pins σ H s → RelV v u → t v σ H Q →
    wpAny (model X.prog X.w) X.A (assign target X.env u) (fun _ s' => ∃ σ' H', Inv X pins σ' H' s' ∧ Q σ' H') X.xe s
def PGs (X : Cx) (ts : List Expr) (t : TGs) : Prop :=
  ∀ (pins : List (Addr × Obj)) (s : Shared) (σ : St) (H : Hp) (vs : List V) (us : List Value) (Q : St → Hp → Prop), Inv X pins σ H s → Vals vs us → t vs σ H Q →
    wpAny (model X.prog X.w) X.A (assignInOrder ((assignEach ts X.env).map (·.2)) us) (fun _ s' => ∃ σ' H', Inv X pins σ' H' s' ∧ Q σ' H') X.xe s
section
variable {X : Cx} {pos : Pos}
def gName (i : Nat) : TG := fun v σ H Q => Q (σ.set i (some v)) H
theorem pg_name {i : Nat} {x : Str} (hN : X.N.Nodup) (hi : X.N[i]? = some x) (hx : Loc X.env.scope x) (hf : X.fn x = true ∨ X.env.scope.names.lookup x = some .local := by first | exact .inl rfl | exact .inr rfl | assumption) : PG X (.Name x pos) (gName i) := by
  intro pins s σ H v u Q I r h
  exact wpAny_assign_Name (store_ok I hN hi hx r (fun s' I' => ⟨_, H, I', h⟩) hf)
def gNil : TGs := fun vs σ H Q => vs = [] ∧ Q σ H
def gCons (t : TG) (u : TGs) : TGs := fun vs σ H Q => ∃ v r, vs = v :: r ∧ t v σ H fun σ' H' => u r σ' H' Q
theorem pgs_nil : PGs X [] gNil := by
  intro pins s σ H vs us Q I r h
  obtain ⟨e, h⟩ := h
  subst e
  cases r
  exact assignInOrder_nil ⟨σ, H, I, h⟩
theorem pgs_cons {e : Expr} {es : List Expr} {t : TG} {u : TGs} (h1 : PG X e t) (h2 : PGs X es u)
    (hs : (assignEach (e :: es) X.env).map (·.2) = assign e X.env :: (assignEach es X.env).map (·.2) := by rfl) : PGs X (e :: es) (gCons t u) := by
  intro pins s σ H vs us Q I r h
  obtain ⟨v, vr, e1, h⟩ := h
  subst e1
  cases r with
  | cons r rr =>
    rw [hs]
    refine assignInOrder_cons (thn (h1 pins s σ H _ _ _ I r h) fun _ s1 ⟨σ1, H1, I1, q1⟩ => ?_)
    exact h2 pins s1 σ1 H1 _ _ Q I1 rr q1
def gTup (K : PySem.W.Frag) (n : Nat) (t : TGs) : TG := fun v σ H Q => ∃ a xs, v = .ref a ∧ SqT K H a xs ∧ xs.length = n ∧ t xs σ H Q
theorem pg_tup {es : List Expr} {k : Nat} {t : TGs} {n : Nat} (hc : X.calm = true) (h : PGs X es t)
    (hn : (assignEach es X.env).length = n := by rfl) (hst : (assignEach es X.env).findIdx? (·.1) = none := by rfl) : PG X (.Tuple es k pos) (gTup X.K n t) := by
  intro pins s σ H v u Q I r hw
  obtain ⟨a, xs, e1, hq, hl, hw⟩ := hw
  subst e1
  cases r
  obtain ⟨its, rv, ht, hz⟩ := I.tuple hq
  refine assign_Tuple_tuple (I.ok.hd hc) ht (by simp [hn, ← hl, rv.length]) hst fun h' hx => ?_
  have I1 : Inv X pins σ H { s with heap := h' } := I.kept (t' := s.toks) fun b o e => hx b o (Nat.ne_of_lt (Heap.lt_size e)) e
  exact h pins _ σ H xs _ Q I1 (by simpa using rv) hw
def tAsg (te : TE) (g : TG) : TS := fun D σ H => te σ H fun x H1 => g x σ H1 D.nx
theorem ps_set {i : Nat} {x : Str} {e : Expr} {te : TE} {pos' : Pos} (hN : X.N.Nodup) (hi : X.N[i]? = some x) (hx : Loc X.env.scope x) (he : PE X e te) (hs : swapsWith e (some (.Name x pos')) pos.line X.env = pure false := by rfl) (hf : X.fn x = true ∨ X.env.scope.names.lookup x = some .local := by first | exact .inl rfl | exact .inr rfl | assumption) :
    PS X (.Assign [.Name x pos'] e pos) (tAsg te (gName i)) := by
  intro pins s σ H D I h
  refine wpAny_Assign_Name (thn (he pins s σ H _ I h) fun v s1 ⟨y, H1, I1, r1, q1⟩ => ?_) hs
  exact store_ok I1 hN hi hx r1 (fun s2 I2 => ⟨_, H1, I2, q1⟩) hf
end
structure It where
  go : Nat → Hp → Prop
  yld : Nat → Hp → V → Hp → Prop
  stop : Nat → Hp → Prop
def FpOk (X : Cx) (pins : List (Addr × Obj)) (H : Hp) (b : Addr) : Prop :=
  H b = none ∧ b ≠ X.env.locals ∧ b ∉ X.fs ∧ (b ∈ X.ex ∨ X.s₀.heap.objs.size ≤ b) ∧ (∀ x c, X.env.cells.lookup x = some c → c ≠ b) ∧ ∀ p ∈ X.pn ++ pins, p.1 ≠ b
theorem Inv.fpOk {X : Cx} {pins : List (Addr × Obj)} {σ : St} {H H' : Hp} {s : Shared} {b : Addr} (I : Inv X pins σ H s) (hb : s.heap.objs.size ≤ b) (hn : H' b = none) : FpOk X pins H' b := by
  refine ⟨hn, Nat.ne_of_gt (Nat.lt_of_lt_of_le I.lt hb), I.nofs hb, .inr (Nat.le_trans I.sz hb), fun x c e z => ?_, fun p hp z => ?_⟩
  · obtain ⟨v, q⟩ := I.cell x c e
    exact absurd (Nat.lt_of_lt_of_le q.lt (by rw [z]; exact hb)) (Nat.lt_irrefl _)
  · exact absurd (Nat.lt_of_lt_of_le (Heap.lt_size (I.pin p hp).1) (by rw [z]; exact hb)) (Nat.lt_irrefl _)
structure Turn (P : Program) (w : World) (K : PySem.W.Frag) (tg : Expr) (J : It) (fp : List Addr) (it : Addr) (tn : Nat → Heap → Prop) : Prop where
  mem : it ∈ fp
  obj : ∀ i h, tn i h → ∀ b ∈ fp, ∃ o, h.get? b = some o ∧ ∀ v, o.data ≠ .cell v
  keep : ∀ i h h', tn i h → (∀ b ∈ fp, ∀ o, h.get? b = some o → h'.get? b = some o) → tn i h'
  item : ∀ (X : Cx), X.prog = P → X.w = w → X.K = K → X.calm = true → ∀ (i : Nat) (pins : List (Addr × Obj)) (s : Shared) (σ : St) (H : Hp) (E : Value → Shared → Prop), Inv X pins σ H s → (∀ b ∈ fp, FpOk X pins H b) → tn i s.heap → J.go i H →
    wpAny (model P w) X.A (pyNext (.ref it)) (fun r s1 => ∃ u, r = some u ∧
      wpAny (model P w) X.A (letOwnedTupleGo tg (.ref it) u) (fun _ s2 => ∃ x H', Inv X pins σ H' s2 ∧ RelV x u ∧ J.yld i H x H' ∧ tn (i + 1) s2.heap ∧ ∀ b ∈ fp, H' b = none) E s1) E s
  done : ∀ (X : Cx), X.prog = P → X.w = w → X.K = K → X.calm = true → ∀ (i : Nat) (pins : List (Addr × Obj)) (s : Shared) (σ : St) (H : Hp) (E : Value → Shared → Prop), Inv X pins σ H s → (∀ b ∈ fp, FpOk X pins H b) → tn i s.heap → J.stop i H →
    wpAny (model P w) X.A (pyNext (.ref it)) (fun r s1 => r = none ∧ Inv X pins σ H s1) E s
  self : ∀ (A : Around) (i : Nat) (s : Shared) (Q : Value → Shared → Prop) (E : Value → Shared → Prop), tn i s.heap → Q (.ref it) s → wpAny (model P w) A (pyIter (.ref it)) Q E s
abbrev TI := St → Hp → (It → Hp → Prop) → Prop
def PIE (X : Cx) (pins : List (Addr × Obj)) (σ : St) (tg : Expr) (R : It → Hp → Prop) (itv : Value) (s2 : Shared) : Prop :=
  ∃ (it : Addr) (fp : List Addr) (tn : Nat → Heap → Prop) (J : It) (H' : Hp), itv = .ref it ∧ Inv X pins σ H' s2 ∧ Turn X.prog X.w X.K tg J fp it tn ∧ tn 0 s2.heap ∧ (∀ b ∈ fp, FpOk X pins H' b) ∧ R J H'
def PI (X : Cx) (tg iter : Expr) (wi : TI) : Prop :=
  ∀ (pins : List (Addr × Obj)) (s : Shared) (σ : St) (H : Hp) (R : It → Hp → Prop), Inv X pins σ H s → wi σ H R →
    wpAny (model X.prog X.w) X.A (eval iter X.env) (fun v s1 => wpAny (model X.prog X.w) X.A (pyIter v) (PIE X pins σ tg R) X.xe s1) X.xe s
theorem go_of {M : Model} {A : Around} {E : Value → Shared → Prop} {s : Shared} {tg : Expr} {it : Addr} {u : Value} {o : Obj} {n : String} {vs : Array Value} {Q : Unit → Shared → Prop} (ho : s.heap.get? it = some o) (hc : o.cls = .type n) (hd : o.data = .fields vs)
    (hn : ["enumerate", "zip", "dict_itemiterator", "dict_reverseitemiterator", "odict_iterator", "itertools.zip_longest", "itertools.pairwise"].contains n = false) (hQ : Q () s) : wpAny M A (letOwnedTupleGo tg (.ref it) u) Q E s := by
  unfold letOwnedTupleGo
  cases tg <;> first
    | exact wpAny_pure hQ
    | (cases u <;> first
        | exact wpAny_pure hQ
        | (refine wpAny_bind (wpAny_load ho ?_)
           rw [hc, hd]
           show wpAny M A (if (["enumerate", "zip", "dict_itemiterator", "dict_reverseitemiterator", "odict_iterator", "itertools.zip_longest", "itertools.pairwise"].contains n && vs[0]? == some (rawInt _)) = true then _ else _) Q E s
           rw [if_neg (by intro h; rw [hn, Bool.false_and] at h; cases h)]
           exact wpAny_pure hQ))
def Itl (K : PySem.W.Frag) (a : Addr) : It :=
  ⟨fun i H => ∃ xs x, SqL K H a xs ∧ xs[i]? = some x, fun i H x H' => H' = H ∧ ∀ xs, SqL K H a xs → xs[i]? = some x, fun i H => ∃ xs, SqL K H a xs ∧ xs.length ≤ i⟩
def Itt (K : PySem.W.Frag) (a : Addr) : It :=
  ⟨fun i H => ∃ xs x, SqT K H a xs ∧ xs[i]? = some x, fun i H x H' => H' = H ∧ ∀ xs, SqT K H a xs → xs[i]? = some x, fun i H => ∃ xs, SqT K H a xs ∧ xs.length ≤ i⟩
def Itr (lo : Int) (n : Nat) : It := ⟨fun i _ => i < n, fun i H x H' => H' = H ∧ x = .int (lo + i), fun i _ => n ≤ i⟩
theorem turn_list {P : Program} {w : World} {K : PySem.W.Frag} {tg : Expr} (a it : Addr) : Turn P w K tg (Itl K a) [it] it (fun i h => h.IsListIter it a i) where
  mem := by simp
  obj := fun i h st b hb => by
    have e : b = it := by simpa using hb
    subst e
    obtain ⟨o, e, c, d⟩ := st
    exact ⟨o, e, fun v z => by rw [d] at z; cases z⟩
  keep := fun i h h' st k => st.at fun o e => k it (by simp) o e
  item := by
    intro X hP hw hK hc i pins s σ H E I hf st hg
    subst hP hw hK
    obtain ⟨xs, x, hq, hx⟩ := hg
    obtain ⟨its, rv, p, hz⟩ := I.list hq
    obtain ⟨u, hu, ru⟩ := rv.get hx
    obtain ⟨f0, f1, f2, f3, f4, f5⟩ := hf it (by simp)
    refine wpAny_pyNext_list_item st p.isList (x := u) (by simpa using hu) fun h' st' sb => ?_
    have I1 : Inv X pins σ H { s with heap := h' } := I.turned (t' := s.toks) (fun b o hb e => (sb.2 b hb).trans e) f0 f1 f3 f4 f5
    obtain ⟨o, e, c, d⟩ := id st'
    exact ⟨u, rfl, go_of (s := { s with heap := h' }) e c d (by decide) ⟨x, H, I1, ru, ⟨rfl, fun ys hy => by rw [I.list_inj hy hq]; exact hx⟩, st', fun b hb => (hf b hb).1⟩⟩
  done := by
    intro X hP hw hK hc i pins s σ H E I hf st hg
    subst hP hw hK
    obtain ⟨xs, hq, hx⟩ := hg
    obtain ⟨its, rv, p, hz⟩ := I.list hq
    obtain ⟨f0, f1, f2, f3, f4, f5⟩ := hf it (by simp)
    have hl := rv.length
    exact wpAny_pyNext_list_end (I.ok.hd hc) st p.isList (by simp; omega) fun h' eb => ⟨rfl, I.turned (t' := s.toks) (fun b o hb e => eb b o hb e) f0 f1 f3 f4 f5⟩
  self := fun _ _ _ _ _ st h => wpAny_pyIter_listiter st h
theorem turn_tuple {P : Program} {w : World} {K : PySem.W.Frag} {tg : Expr} (a it : Addr) : Turn P w K tg (Itt K a) [it] it (fun i h => h.IsTupleIter it a i) where
  mem := by simp
  obj := fun i h st b hb => by
    have e : b = it := by simpa using hb
    subst e
    obtain ⟨o, e, c, d⟩ := st
    exact ⟨o, e, fun v z => by rw [d] at z; cases z⟩
  keep := fun i h h' st k => st.at fun o e => k it (by simp) o e
  item := by
    intro X hP hw hK hc i pins s σ H E I hf st hg
    subst hP hw hK
    obtain ⟨xs, x, hq, hx⟩ := hg
    obtain ⟨its, rv, p, hz⟩ := I.tuple hq
    obtain ⟨u, hu, ru⟩ := rv.get hx
    obtain ⟨f0, f1, f2, f3, f4, f5⟩ := hf it (by simp)
    refine wpAny_pyNext_tuple_item st (show s.heap.IsTuple a its.toArray from p) (x := u) (by simpa using hu) fun h' st' sb => ?_
    have I1 : Inv X pins σ H { s with heap := h' } := I.turned (t' := s.toks) (fun b o hb e => (sb.2 b hb).trans e) f0 f1 f3 f4 f5
    obtain ⟨o, e, c, d⟩ := id st'
    exact ⟨u, rfl, go_of (s := { s with heap := h' }) e c d (by decide) ⟨x, H, I1, ru, ⟨rfl, fun ys hy => by rw [I.tuple_inj hy hq]; exact hx⟩, st', fun b hb => (hf b hb).1⟩⟩
  done := by
    intro X hP hw hK hc i pins s σ H E I hf st hg
    subst hP hw hK
    obtain ⟨xs, hq, hx⟩ := hg
    obtain ⟨its, rv, p, hz⟩ := I.tuple hq
    obtain ⟨f0, f1, f2, f3, f4, f5⟩ := hf it (by simp)
    have hl := rv.length
    exact wpAny_pyNext_tuple_end (I.ok.hd hc) st (show s.heap.IsTuple a its.toArray from p) (by simp; omega) fun h' eb => ⟨rfl, I.turned (t' := s.toks) (fun b o hb e => eb b o hb e) f0 f1 f3 f4 f5⟩
  self := fun _ _ _ _ _ st h => wpAny_pyIter_tupleiter st h
theorem turn_range {P : Program} {w : World} {K : PySem.W.Frag} {tg : Expr} (it : Addr) (lo : Int) (n : Nat) : Turn P w K tg (Itr lo n) [it] it (fun i h => IsRangeIter h it (lo + (i : Nat) * 1) ((n : Int) - (i : Nat)) 1) where
  mem := by simp
  obj := fun i h st b hb => by
    have e : b = it := by simpa using hb
    subst e
    exact ⟨_, st, fun v z => by
      have z' : Data.fields _ = Data.cell v := z
      cases z'⟩
  keep := fun i h h' st k => k it (by simp) _ st
  item := by
    intro X hP hw hK hc i pins s σ H E I hf st hg
    subst hP hw hK
    obtain ⟨f0, f1, f2, f3, f4, f5⟩ := hf it (by simp)
    have W := Walks.range (prog := X.prog) (w := X.w) (I.ok.hd hc) it lo 1 n
    refine W.item i s _ _ hg st fun v h' tk hv st' kk => ?_
    obtain ⟨t, rfl⟩ := hv
    have I1 : Inv X pins σ H { s with heap := h', toks := tk } := I.turned (fun b o hb e => kk b o (by simpa using hb) e) f0 f1 f3 f4 f5
    refine ⟨_, rfl, go_of (s := { s with heap := h', toks := tk }) (n := "range_iterator") st' rfl rfl (by decide) ⟨.int (lo + i), H, I1, ⟨t, ?_⟩, ⟨rfl, rfl⟩, st', fun b hb => (hf b hb).1⟩⟩
    rw [Int.mul_one]
  done := by
    intro X hP hw hK hc i pins s σ H E I hf st hg
    subst hP hw hK
    obtain ⟨f0, f1, f2, f3, f4, f5⟩ := hf it (by simp)
    exact wpAny_pyNext_range_end (I.ok.hd hc) st (by have : n ≤ i := hg; omega) fun h' eb => ⟨rfl, I.turned (t' := s.toks) (fun b o hb e => eb b o hb e) f0 f1 f3 f4 f5⟩
  self := fun _ _ _ _ _ st h => wpAny_pyIter_rangeiter st h
end L2
namespace L2
open PySem PySem.Spec PyProof.Rows
section
variable {X : Cx} {tg : Expr}
def iList (K : PySem.W.Frag) (tl : TE) : TI := fun σ H R => tl σ H fun x H1 => ∃ a, x = .ref a ∧ (∃ xs, SqL K H1 a xs) ∧ R (Itl K a) H1
def iTup (K : PySem.W.Frag) (tl : TE) : TI := fun σ H R => tl σ H fun x H1 => ∃ a, x = .ref a ∧ (∃ xs, SqT K H1 a xs) ∧ R (Itt K a) H1
theorem pi_list {l : Expr} {tl : TE} (hl : PE X l tl) : PI X tg l (iList X.K tl) := by
  intro pins s σ H R I h
  refine thn (hl pins s σ H _ I h) fun v s1 ⟨x, H1, I1, r1, q1⟩ => ?_
  obtain ⟨a, e, ⟨xs, hq⟩, q⟩ := q1
  subst e
  cases r1
  obtain ⟨its, rv, p, hz⟩ := I1.list hq
  refine wpAny_pyIter_list p.isList ?_
  refine ⟨s1.heap.objs.size, [s1.heap.objs.size], _, _, H1, rfl, I1.kept (t' := s1.toks) fun b o e => Heap.get?_push_of_some _ e, turn_list a _, ⟨_, Heap.get?_push_size _ rfl, rfl, rfl⟩, fun b hb => ?_, q⟩
  have e : b = s1.heap.objs.size := by simpa using hb
  subst e
  exact I1.fpOk (Nat.le_refl _) (I1.hok.fresh (Nat.le_refl _))
theorem pi_tup {l : Expr} {tl : TE} (hl : PE X l tl) : PI X tg l (iTup X.K tl) := by
  intro pins s σ H R I h
  refine thn (hl pins s σ H _ I h) fun v s1 ⟨x, H1, I1, r1, q1⟩ => ?_
  obtain ⟨a, e, ⟨xs, hq⟩, q⟩ := q1
  subst e
  cases r1
  obtain ⟨its, rv, p, hz⟩ := I1.tuple hq
  refine wpAny_pyIter_tuple (show s1.heap.IsTuple a its.toArray from p) ?_
  refine ⟨s1.heap.objs.size, [s1.heap.objs.size], _, _, H1, rfl, I1.kept (t' := s1.toks) fun b o e => Heap.get?_push_of_some _ e, turn_tuple a _, ⟨_, Heap.get?_push_size _ rfl, rfl, rfl⟩, fun b hb => ?_, q⟩
  have e : b = s1.heap.objs.size := by simpa using hb
  subst e
  exact I1.fpOk (Nat.le_refl _) (I1.hok.fresh (Nat.le_refl _))
theorem range_it {pins : List (Addr × Obj)} {σ : St} {H : Hp} {s : Shared} {R : It → Hp → Prop} {E : Value → Shared → Prop} {lo hi : Int} {t u v : Tok} {tk : Nat} (I : Inv X pins σ H s) (h1 : -(2 ^ 62) ≤ lo) (h2 : lo < 2 ^ 62) (h3 : -(2 ^ 62) ≤ hi) (h4 : hi < 2 ^ 62)
    (q : R (Itr lo (hi - lo).toNat) H) : wpAny (model X.prog X.w) X.A (pyIter (.ref s.heap.objs.size)) (PIE X pins σ tg R) E { s with heap := s.heap.push { cls := .type "range", data := .fields #[.int lo t, .int hi u, .int 1 v] }, toks := tk } := by
  refine wpAny_pyIter_range (IsRange.new ..) (small_one h1 h2 h3 h4) ?_
  have I1 : Inv X pins σ H { s with heap := s.heap.push { cls := .type "range", data := .fields #[.int lo t, .int hi u, .int 1 v] }, toks := tk } := I.kept fun b o e => Heap.get?_push_of_some _ e
  refine ⟨(s.heap.push { cls := .type "range", data := .fields #[.int lo t, .int hi u, .int 1 v] }).objs.size, [(s.heap.push { cls := .type "range", data := .fields #[.int lo t, .int hi u, .int 1 v] }).objs.size], _, _, H, rfl,
    I1.kept (t' := tk) fun b o e => Heap.get?_push_of_some _ e, turn_range _ lo (hi - lo).toNat, ?_, fun b hb => ?_, q⟩
  · have e1 : lo + ((0 : Nat) : Int) * 1 = lo := by simp
    have e2 : (((hi - lo).toNat : Nat) : Int) - ((0 : Nat) : Int) = Builtin.Range.rangeSize lo hi 1 := by rw [rangeSize_one]; split <;> omega
    show IsRangeIter _ _ (lo + ((0 : Nat) : Int) * 1) ((((hi - lo).toNat : Nat) : Int) - ((0 : Nat) : Int)) 1
    rw [e1, e2]
    exact Heap.get?_push_size _ rfl
  · have e : b = (s.heap.push { cls := .type "range", data := .fields #[.int lo t, .int hi u, .int 1 v] }).objs.size := by simpa using hb
    subst e
    exact I1.fpOk (Nat.le_refl _) (I1.hok.fresh (Nat.le_refl _))
def iRng1 (ta : TA) : TI := fun σ H R => ta σ H fun vs H1 => ∃ j : Int, vs = [.int j] ∧ -(2 ^ 62) ≤ j ∧ j < 2 ^ 62 ∧ R (Itr 0 j.toNat) H1
theorem pi_range1 {a : Expr} {ta : TA} {p pos : Pos} (hg : Gl X "range") (hm : X.mg "range" = none) (ha : PA X [a] ta) (hs : starEach [a] X.env = [(false, eval a X.env)] := by rfl) : PI X tg (.Call (.Name "range" p) [a] [] pos) (iRng1 ta) := by
  intro pins s σ H R I h
  refine Call_ (ld_blt I hg hm boot_range (PyProof.Rows.callWith_type1 (thn (ha pos pins s σ H _ I h) fun us s1 ⟨vs, H1, I1, r1, q1⟩ => ?_) hs rfl))
  obtain ⟨j, e, q1, q2, q⟩ := q1
  subst e
  cases r1 with
  | cons r rr =>
    cases rr
    obtain ⟨t, rfl⟩ := r
    exact call_range_1 (range_it I1 (by omega) (by omega) q1 q2 (by simpa using q))
def tFor (wi : TI) (g : TG) (tb : TS) : TS := fun D σ H => wi σ H fun J H1 => ∃ W : Nat → Nat → St → Hp → Prop, (∃ m, W 0 m σ H1) ∧ ∀ i m σ H, W i m σ H →
  (J.stop i H ∧ D.nx σ H) ∨ (J.go i H ∧ ∃ N : St → Hp → Prop, (∀ σ' H', N σ' H' → ∃ m', m' < m ∧ W (i + 1) m' σ' H') ∧ ∀ x H', J.yld i H x H' → g x σ H' fun σ2 H2 => tb { D with nx := N, ct := N, bk := D.nx } σ2 H2)
def pinsAt (fp : List Addr) (h : Heap) : List (Addr × Obj) := fp.filterMap fun b => (h.get? b).map fun o => (b, o)
theorem mem_pinsAt {fp : List Addr} {h : Heap} {b : Addr} {o : Obj} (hb : b ∈ fp) (e : h.get? b = some o) : (b, o) ∈ pinsAt fp h := List.mem_filterMap.mpr ⟨b, hb, by rw [e]; rfl⟩
theorem of_pinsAt {fp : List Addr} {h : Heap} {p : Addr × Obj} (hp : p ∈ pinsAt fp h) : p.1 ∈ fp ∧ h.get? p.1 = some p.2 := by
  obtain ⟨b, hb, e⟩ := List.mem_filterMap.mp hp
  cases q : h.get? b with
  | none => rw [q] at e; cases e
  | some o =>
    rw [q] at e
    have e' : (b, o) = p := Option.some.inj e
    subst e'
    exact ⟨hb, q⟩
theorem Inv.pinned {pins : List (Addr × Obj)} {σ : St} {H : Hp} {s : Shared} {fp : List Addr} (I : Inv X pins σ H s) (hf : ∀ b ∈ fp, FpOk X pins H b) (ho : ∀ b ∈ fp, ∃ o, s.heap.get? b = some o ∧ ∀ v, o.data ≠ .cell v) : Inv X (pins ++ pinsAt fp s.heap) σ H s :=
  I.pins_of fun p hp => (List.mem_append.mp hp).elim (fun z => I.pin p (List.mem_append_right _ z)) fun z => by
    obtain ⟨hb, e⟩ := of_pinsAt z
    obtain ⟨f0, f1, f2, _⟩ := hf p.1 hb
    obtain ⟨o, e', d⟩ := ho p.1 hb
    rw [e] at e'; cases e'
    exact ⟨e, f0, f1, f2, d⟩
theorem Inv.unpinned {pins pl : List (Addr × Obj)} {σ : St} {H : Hp} {s : Shared} (I : Inv X (pins ++ pl) σ H s) : Inv X pins σ H s := I.pins_of fun p hp => I.pin p (List.mem_append_right _ (List.mem_append_left _ hp))
theorem ps_for {iter : Expr} {body : List Stmt} {wi : TI} {g : TG} {tb : TS} {pos : Pos} (hp : PassesOwn (model X.prog X.w) X.A X.env X.xe) (hc : X.calm = true) (hi : PI X tg iter wi) (hg : PG X tg g) (hb : PSs X body tb)
    (hs : ∀ x, foldedSetIterable iter X.env x = pure x := by intro _; rfl) : PS X (.For tg iter body [] pos) (tFor wi g tb) := by
  intro pins s σ H D I h
  refine wpAny_For (thn (hi pins s σ H _ I h) fun v s1 h1 => thn h1 fun itv s2 h2 => ?_) hs
  obtain ⟨it, fp, tn, J, H2, e, I2, T, st2, f2, W, ⟨m0, w0⟩, turn⟩ := h2
  subst e
  have stat : ∀ {H' : Hp}, (∀ b ∈ fp, H' b = none) → ∀ b ∈ fp, FpOk X pins H' b := fun hn b hb => ⟨hn b hb, (f2 b hb).2⟩
  refine codeAny_forLoop_any (fun n s' => ∃ i σ' H', Inv X pins σ' H' s' ∧ tn i s'.heap ∧ (∀ b ∈ fp, H' b = none) ∧ W i n σ' H') ?_ m0 ⟨0, σ, H2, I2, st2, fun b hb => (f2 b hb).1, w0⟩
  rintro n s3 ⟨i, σ3, H3, I3, st3, fr3, w3⟩
  rcases turn i n σ3 H3 w3 with ⟨stop, qn⟩ | ⟨go, N, hN, step⟩
  · refine wpAny_passesOwn hp (thn (T.done X rfl rfl rfl hc i pins s3 σ3 H3 X.xe I3 (stat fr3) st3 stop) fun r s4 ⟨hr, I4⟩ => ?_)
    subst hr
    exact wpAny_execs_nil ⟨σ3, H3, I4, qn⟩
  · refine wpAny_passesOwn hp (thn (T.item X rfl rfl rfl hc i pins s3 σ3 H3 X.xe I3 (stat fr3) st3 go) fun r s4 ⟨u, hr, h4⟩ => ?_)
    subst hr
    refine wpAny_passesOwn hp (thn h4 fun _ s5 ⟨x, H5, I5, r5, y5, st5, fr5⟩ => ?_)
    have I5' := I5.pinned (stat fr5) (T.obj _ _ st5)
    refine wpAny_passesOwn hp (thn (hg _ s5 σ3 H5 x u _ I5' r5 (step x H5 y5)) fun _ s6 ⟨σ6, H6, I6, q6⟩ => ?_)
    refine wpAny_passesOwn hp (thn (hb _ s6 σ6 H6 _ I6 q6) fun f s7 q7 => ?_)
    have again : ∀ {σ7 : St} {H7 : Hp}, Inv X (pins ++ pinsAt fp s5.heap) σ7 H7 s7 → N σ7 H7 → ∃ m, m < n ∧ ∃ i σ' H', Inv X pins σ' H' s7 ∧ tn i s7.heap ∧ (∀ b ∈ fp, H' b = none) ∧ W i m σ' H' := fun {σ7 H7} I7 n7 => by
      obtain ⟨m', hm, w7⟩ := hN σ7 H7 n7
      refine ⟨m', hm, i + 1, σ7, H7, I7.unpinned, T.keep _ _ _ st5 fun b hb o e => (I7.pin (b, o) (List.mem_append_right _ (List.mem_append_right _ (mem_pinsAt hb e)))).1, fun b hb => ?_, w7⟩
      obtain ⟨o, e, d⟩ := T.obj _ _ st5 b hb
      exact (I7.pin (b, o) (List.mem_append_right _ (List.mem_append_right _ (mem_pinsAt hb e)))).2.1
    cases f with
    | next => obtain ⟨σ7, H7, I7, n7⟩ := q7; exact again I7 n7
    | cont => obtain ⟨σ7, H7, I7, n7⟩ := q7; exact again I7 n7
    | brk => obtain ⟨σ7, H7, I7, q7⟩ := q7; exact ⟨σ7, H7, I7.unpinned, q7⟩
    | ret v => obtain ⟨x7, σ7, H7, I7, r7, q7⟩ := q7; exact ⟨x7, σ7, H7, I7.unpinned, r7, q7⟩
end
end L2
namespace L2
open PySem PySem.Spec PyProof.Rows
abbrev R2 := V → V → Hp → VK → Prop
def OpR (X : Cx) (f : Value → Value → Sem Value) (r : R2) : Prop :=
  ∀ (pins : List (Addr × Obj)) (s : Shared) (σ : St) (H : Hp) (x y : V) (v u : Value) (Q : VK), Inv X pins σ H s → RelV x v → RelV y u → r x y H Q →
    wpAny (model X.prog X.w) X.A (f v u) (EP X pins σ Q) X.xe s
def UnR (X : Cx) (f : Value → Sem Value) (r : V → Hp → VK → Prop) : Prop :=
  ∀ (pins : List (Addr × Obj)) (s : Shared) (σ : St) (H : Hp) (x : V) (v : Value) (Q : VK), Inv X pins σ H s → RelV x v → r x H Q →
    wpAny (model X.prog X.w) X.A (f v) (EP X pins σ Q) X.xe s
def CallR (X : Cx) (f : Value) (r : List V → Hp → VK → Prop) : Prop :=
  ∀ (pins : List (Addr × Obj)) (s : Shared) (σ : St) (H : Hp) (xs : List V) (us : List Value) (Q : VK), Inv X pins σ H s → Vals xs us → r xs H Q →
    wpAny (model X.prog X.w) X.A (call f us) (EP X pins σ Q) X.xe s
def tOp (r : R2) (ta tb : TE) : TE := fun σ H Q => ta σ H fun x H1 => tb σ H1 fun y H2 => r x y H2 Q
def tUn (r : V → Hp → VK → Prop) (ta : TE) : TE := fun σ H Q => ta σ H fun x H1 => r x H1 Q
def rI (C : Int → Int → Prop) (g : Int → Int → V) : R2 := fun x y H Q => ∃ i j, x = .int i ∧ y = .int j ∧ C i j ∧ Q (g i j) H
def rI0 (g : Int → Int → V) : R2 := fun x y H Q => ∃ i j, x = .int i ∧ y = .int j ∧ Q (g i j) H
def rU (g : Int → V) : V → Hp → VK → Prop := fun x H Q => ∃ i, x = .int i ∧ Q (g i) H
section
variable {X : Cx} {a b c : Expr} {ta tb tc : TE} {pos : Pos}
theorem binT (ha : PE X a ta) (hb : PE X b tb) {pins : List (Addr × Obj)} {s : Shared} {σ : St} {H : Hp} {R : V → V → Hp → Prop} (I : Inv X pins σ H s)
    (h : ta σ H fun x H1 => tb σ H1 fun y H2 => R x y H2) {Q : Value → Shared → Prop} {f : Value → Value → Sem Value}
    (hf : ∀ v u s2 x y H2, Inv X pins σ H2 s2 → RelV x v → RelV y u → R x y H2 → wpAny (model X.prog X.w) X.A (f v u) Q X.xe s2) :
    wpAny (model X.prog X.w) X.A (eval a X.env) (fun v s₁ => wpAny (model X.prog X.w) X.A (eval b X.env) (fun u s₂ => wpAny (model X.prog X.w) X.A (f v u) Q X.xe s₂) X.xe s₁) X.xe s := by
  refine thn (ha pins s σ H _ I h) fun v s1 ⟨x, H1, I1, r1, q1⟩ => ?_
  refine thn (hb pins s1 σ H1 _ I1 q1) fun u s2 ⟨y, H2, I2, r2, q2⟩ => ?_
  exact hf v u s2 x y H2 I2 r1 r2 q2
theorem pe_op {op : Operator} {r : R2} (ho : OpR X (binaryOp op) r) (ha : PE X a ta) (hb : PE X b tb) : PE X (.BinOp a op b pos) (tOp r ta tb) := by
  intro pins s σ H Q I h
  exact wpAny_BinOp (binT ha hb I h fun v u s2 x y H2 I2 rx ry q => ho pins s2 σ H2 x y v u Q I2 rx ry q)
theorem pe_un {op : UnaryOp} {r : V → Hp → VK → Prop} (ho : UnR X (unaryOp op) r) (ha : PE X a ta) : PE X (.UnaryOp op a pos) (tUn r ta) := by
  intro pins s σ H Q I h
  exact UnaryOp_ (thn (ha pins s σ H _ I h) fun v s1 ⟨x, H1, I1, r1, q1⟩ => ho pins s1 σ H1 x v Q I1 r1 q1)
theorem opI {f : Value → Value → Sem Value} {C : Int → Int → Prop} {g : Int → Int → Int}
    (rule : ∀ (i j : Int) (t u : Tok) (s : Shared) (Q : Value → Shared → Prop) (E : Value → Shared → Prop), C i j → Q (.int (g i j) s.toks) { s with toks := s.toks + 1 } → wpAny (model X.prog X.w) X.A (f (.int i t) (.int j u)) Q E s) :
    OpR X f (rI C fun i j => .int (g i j)) := by
  intro pins s σ H x y v u Q I rx ry h
  obtain ⟨i, j, rfl, rfl, hc, q⟩ := h
  obtain ⟨t, rfl⟩ := rx
  obtain ⟨t', rfl⟩ := ry
  exact rule i j t t' s _ _ hc ⟨.int (g i j), H, I.tok _, ⟨_, rfl⟩, q⟩
theorem opI0 {f : Value → Value → Sem Value} {g : Int → Int → Int}
    (rule : ∀ (i j : Int) (t u : Tok) (s : Shared) (Q : Value → Shared → Prop) (E : Value → Shared → Prop), Q (.int (g i j) s.toks) { s with toks := s.toks + 1 } → wpAny (model X.prog X.w) X.A (f (.int i t) (.int j u)) Q E s) :
    OpR X f (rI0 fun i j => .int (g i j)) := by
  intro pins s σ H x y v u Q I rx ry h
  obtain ⟨i, j, rfl, rfl, q⟩ := h
  obtain ⟨t, rfl⟩ := rx
  obtain ⟨t', rfl⟩ := ry
  exact rule i j t t' s _ _ ⟨.int (g i j), H, I.tok _, ⟨_, rfl⟩, q⟩
theorem opB0 {f : Value → Value → Sem Value} {g : Int → Int → Bool}
    (rule : ∀ (i j : Int) (t u : Tok) (s : Shared) (Q : Value → Shared → Prop) (E : Value → Shared → Prop), Q (.bool (g i j)) s → wpAny (model X.prog X.w) X.A (f (.int i t) (.int j u)) Q E s) :
    OpR X f (rI0 fun i j => .bl (g i j)) := by
  intro pins s σ H x y v u Q I rx ry h
  obtain ⟨i, j, rfl, rfl, q⟩ := h
  obtain ⟨t, rfl⟩ := rx
  obtain ⟨t', rfl⟩ := ry
  exact rule i j t t' s _ _ ⟨.bl (g i j), H, I, rfl, q⟩
def CDiv (i j : Int) : Prop := 0 < j ∧ j < 1073741824
def CMul (i j : Int) : Prop := (-(2 ^ 64) < i ∧ i < 2 ^ 64) ∨ (-(2 ^ 64) < j ∧ j < 2 ^ 64)
theorem CMul.ok {i j : Int} (h : CMul i j) : IntMulOk i j := by
  rcases h with ⟨h1, h2⟩ | ⟨h1, h2⟩
  · exact .of_left (intBits_le_64 h1 h2)
  · exact .of_right (intBits_le_64 h1 h2)
theorem op_add : OpR X (binaryOp .Add) (rI0 fun i j => .int (i + j)) := opI0 fun _ _ _ _ _ _ _ q => add_int q
theorem op_sub : OpR X (binaryOp .Sub) (rI0 fun i j => .int (i - j)) := opI0 fun _ _ _ _ _ _ _ q => sub_int q
theorem op_mul : OpR X (binaryOp .Mult) (rI CMul fun i j => .int (i * j)) := opI fun _ _ _ _ _ _ _ hc q => mul_int q hc.ok
theorem op_fdiv : OpR X (binaryOp .FloorDiv) (rI CDiv fun i j => .int (i / j)) := opI fun i j _ _ _ _ _ hc q => by
  have h1 : (0 : Int) < j := hc.1
  have h2 : j < 1073741824 := hc.2
  exact floordiv_int (by omega) (by rw [Int.fdiv_eq_ediv_of_nonneg i (by omega)]; exact q) (.inl (PyProof.noPylong_small (by omega)))
theorem op_mod : OpR X (binaryOp .Mod) (rI (fun _ j => 0 < j) fun i j => .int (i % j)) := opI fun i j _ _ _ _ _ hc q => by
  have h1 : (0 : Int) < j := hc
  exact mod_int' (by omega) (by rw [Int.fmod_eq_emod_of_nonneg i (by omega)]; exact q)
theorem unI {f : Value → Sem Value} {g : Int → Int}
    (rule : ∀ (i : Int) (t : Tok) (s : Shared) (Q : Value → Shared → Prop) (E : Value → Shared → Prop), Q (.int (g i) s.toks) { s with toks := s.toks + 1 } → wpAny (model X.prog X.w) X.A (f (.int i t)) Q E s) :
    UnR X f (rU fun i => .int (g i)) := by
  intro pins s σ H x v Q I rx h
  obtain ⟨i, rfl, q⟩ := h
  obtain ⟨t, rfl⟩ := rx
  exact rule i t s _ _ ⟨.int (g i), H, I.tok _, ⟨_, rfl⟩, q⟩
theorem un_neg : UnR X (unaryOp .USub) (rU fun i => .int (-i)) := unI fun _ _ _ _ _ q => neg_int q
end
section
variable {X : Cx} {a b c : Expr} {ta tb tc : TE} {pos : Pos}
theorem fin_bl {pins : List (Addr × Obj)} {σ : St} {H : Hp} {s : Shared} {Q : VK} {k k' : Bool} (I : Inv X pins σ H s) (q : Q (.bl k) H) (e : k = k') : EP X pins σ Q (.bool k') s := by
  subst e
  exact ⟨.bl k, H, I, rfl, q⟩
theorem op_lt : OpR X (compareOp .Lt) (rI0 fun i j => .bl (decide (i < j))) := opB0 fun _ _ _ _ _ _ _ q => lt_int q
theorem op_le : OpR X (compareOp .LtE) (rI0 fun i j => .bl (decide (i ≤ j))) := opB0 fun _ _ _ _ _ _ _ q => le_int q
theorem op_gt : OpR X (compareOp .Gt) (rI0 fun i j => .bl (decide (j < i))) := opB0 fun _ _ _ _ _ _ _ q => gt_int q
theorem op_lt_str : OpR X (compareOp .Lt) (fun x y H Q => ∃ i j, x = .str i ∧ y = .str j ∧ Q (.bl (decide (i.cps.toList < j.cps.toList))) H) := by
  intro pins s σ H x y v u Q I rx ry h
  obtain ⟨i, j, rfl, rfl, q⟩ := h
  obtain ⟨t, rfl⟩ := rx
  obtain ⟨t', rfl⟩ := ry
  exact lt_str (fin_bl I q rfl)
theorem OpR.or {f : Value → Value → Sem Value} {r r' : R2} (h : OpR X f r) (h' : OpR X f r') : OpR X f (fun x y H Q => r x y H Q ∨ r' x y H Q) := by
  intro pins s σ H x y v u Q I rx ry q
  rcases q with q | q
  · exact h pins s σ H x y v u Q I rx ry q
  · exact h' pins s σ H x y v u Q I rx ry q
theorem nomark (b : Expr) {op : CmpOp} (h : op ≠ .In := by decide) (h2 : op ≠ .NotIn := by decide) : behindInMarks op b = false := by
  have e1 : (op == CmpOp.In) = false := by cases op <;> first | rfl | exact absurd rfl h
  have e2 : (op == CmpOp.NotIn) = false := by cases op <;> first | rfl | exact absurd rfl h2
  cases b <;> simp [behindInMarks, e1, e2]
theorem pe_cmpR {op : CmpOp} {r : R2} (ho : OpR X (compareOp op) r) (ha : PE X a ta) (hb : PE X b tb) (hm : behindInMarks op b = false) : PE X (.Compare a [op] [b] pos) (tOp r ta tb) := by
  intro pins s σ H Q I h
  exact wpAny_Compare1 (binT ha hb I h fun v u s2 x y H2 I2 rx ry q => ho pins s2 σ H2 x y v u Q I2 rx ry q) hm
def tTest (t : TE) : TT := fun σ H Q => t σ H fun x H' => ∃ k, x = .bl k ∧ Q k H'
theorem pt_cmpR {op : CmpOp} {r : R2} (ho : OpR X (compareOp op) r) (ha : PE X a ta) (hb : PE X b tb) (hm : behindInMarks op b = false) : PT X (.Compare a [op] [b] pos) (tTest (tOp r ta tb)) := by
  intro pins s σ H Q I h
  refine wpAny_isTrue_Compare1 (thn (ha pins s σ H _ I h) fun v s1 ⟨x, H1, I1, r1, q1⟩ => thn (hb pins s1 σ H1 _ I1 q1) fun u s2 ⟨y, H2, I2, r2, q2⟩ =>
    thn (ho pins s2 σ H2 x y v u _ I2 r1 r2 q2) fun c s3 ⟨z, H3, I3, r3, k, e, q3⟩ => ?_) hm
  subst e
  cases r3
  exact wpAny_truthy_bool ⟨H3, I3, q3⟩
def tChain (r r' : R2) (ta tb tc : TE) : TE := fun σ H Q => ta σ H fun x H1 => tb σ H1 fun y H2 => r x y H2 fun z H3 => ∃ k, z = .bl k ∧
  (if k = true then tc σ H3 fun w' H4 => r' y w' H4 Q else Q (.bl false) H3)
theorem pe_chain {op op' : CmpOp} {r r' : R2} (ho : OpR X (compareOp op) r) (ho' : OpR X (compareOp op') r') (ha : PE X a ta) (hb : PE X b tb) (hc : PE X c tc)
    (hm : lastMarks [op, op'] [b, c] = false := by with_unfolding_all rfl) : PE X (.Compare a [op, op'] [b, c] pos) (tChain r r' ta tb tc) := by
  intro pins s σ H Q I h
  refine Compare_chain (thn (ha pins s σ H _ I h) fun v s1 ⟨x, H1, I1, r1, q1⟩ => chain_link (thn (hb pins s1 σ H1 _ I1 q1) fun u s2 ⟨y, H2, I2, r2, q2⟩ =>
    thn (ho pins s2 σ H2 x y v u _ I2 r1 r2 q2) fun d s3 ⟨z, H3, I3, r3, k, e, q3⟩ => ?_)) hm
  subst e
  cases r3
  refine wpAny_truthy_bool ?_
  cases k with
  | false => exact ite_ff ⟨.bl false, H3, I3, rfl, q3⟩
  | true => exact ite_tt (chain_last (thn (hc pins s3 σ H3 _ I3 q3) fun w' s4 ⟨z', H4, I4, r4, q4⟩ => ho' pins s4 σ H4 y z' u w' Q I4 r2 r4 q4))
theorem pt_chain {op op' : CmpOp} {r r' : R2} (ho : OpR X (compareOp op) r) (ho' : OpR X (compareOp op') r') (ha : PE X a ta) (hb : PE X b tb) (hc : PE X c tc)
    (hm : lastMarks [op, op'] [b, c] = false := by with_unfolding_all rfl) : PT X (.Compare a [op, op'] [b, c] pos) (tTest (tChain r r' ta tb tc)) := by
  intro pins s σ H Q I h
  refine isTrue_chain (thn (ha pins s σ H _ I h) fun v s1 ⟨x, H1, I1, r1, q1⟩ => test_link (thn (hb pins s1 σ H1 _ I1 q1) fun u s2 ⟨y, H2, I2, r2, q2⟩ =>
    thn (ho pins s2 σ H2 x y v u _ I2 r1 r2 q2) fun d s3 ⟨z, H3, I3, r3, k, e, q3⟩ => ?_)) hm
  subst e
  cases r3
  refine wpAny_truthy_bool ?_
  cases k with
  | false =>
    obtain ⟨k', e', q'⟩ := q3
    cases e'
    exact ite_ff ⟨H3, I3, q'⟩
  | true =>
    refine ite_tt (test_last (thn (hc pins s3 σ H3 _ I3 q3) fun w' s4 ⟨z', H4, I4, r4, q4⟩ => thn (ho' pins s4 σ H4 y z' u w' _ I4 r2 r4 q4) fun d' s5 ⟨z2, H5, I5, r5, k2, e2, q5⟩ => ?_))
    subst e2
    cases r5
    exact wpAny_truthy_bool ⟨H5, I5, q5⟩
theorem line63 : (sizeLine : Nat) < 2 ^ 63 := by rw [sizeLine_eq]; decide
theorem op_add_str : OpR X (binaryOp .Add) (fun x y H Q => ∃ i j, x = .str i ∧ y = .str j ∧ i.length + j.length ≤ sizeLine ∧ Q (.str (i ++ j)) H) := by
  intro pins s σ H x y v u Q I rx ry h
  obtain ⟨i, j, rfl, rfl, hz, q⟩ := h
  obtain ⟨t, rfl⟩ := rx
  obtain ⟨t', rfl⟩ := ry
  exact add_str (fun t' tk => ⟨.str (i ++ j), H, I.tok _, ⟨_, rfl⟩, q⟩) hz
theorem vals1 {x : V} {us : List Value} (r : Vals [x] us) : ∃ u, us = [u] ∧ RelV x u := by
  cases r with
  | cons r1 r2 => cases r2; exact ⟨_, rfl, r1⟩
theorem vals2 {x y : V} {us : List Value} (r : Vals [x, y] us) : ∃ u w', us = [u, w'] ∧ RelV x u ∧ RelV y w' := by
  cases r with
  | cons r1 r2 =>
    cases r2 with
    | cons r3 r4 => cases r4; exact ⟨_, _, rfl, r1, r3⟩
theorem call_max2 (hc : X.calm = true) : CallR X (.builtin "max") (fun xs H Q => ∃ i j, xs = [.int i, .int j] ∧ Q (.int (if j > i then j else i)) H) := by
  intro pins s σ H xs us Q I r h
  obtain ⟨i, j, rfl, q⟩ := h
  obtain ⟨u, w', rfl, ⟨t, rfl⟩, ⟨t', rfl⟩⟩ := vals2 r
  refine max_two_ints (I.ok.hd hc) fun h' tk k => ⟨_, H, I.kept k, ?_, q⟩
  by_cases hj : j > i
  · rw [if_pos hj, if_pos hj]; exact ⟨_, rfl⟩
  · rw [if_neg hj, if_neg hj]; exact ⟨_, rfl⟩
theorem call_min2 (hc : X.calm = true) : CallR X (.builtin "min") (fun xs H Q => ∃ i j, xs = [.int i, .int j] ∧ Q (.int (if j < i then j else i)) H) := by
  intro pins s σ H xs us Q I r h
  obtain ⟨i, j, rfl, q⟩ := h
  obtain ⟨u, w', rfl, ⟨t, rfl⟩, ⟨t', rfl⟩⟩ := vals2 r
  refine min_two_ints (I.ok.hd hc) fun h' tk k => ⟨_, H, I.kept k, ?_, q⟩
  by_cases hj : j < i
  · rw [if_pos hj, if_pos hj]; exact ⟨_, rfl⟩
  · rw [if_neg hj, if_neg hj]; exact ⟨_, rfl⟩
theorem call_int1 : CallR X (.type "int") (fun xs H Q => (∃ i, xs = [.int i] ∧ Q (.int i) H) ∨ ∃ k, xs = [.bl k] ∧ Q (.int (if k then 1 else 0)) H) := by
  intro pins s σ H xs us Q I r h
  rcases h with ⟨i, rfl, q⟩ | ⟨k, rfl, q⟩
  · obtain ⟨u, rfl, t, rfl⟩ := vals1 r
    exact call_int_int ⟨.int i, H, I, ⟨_, rfl⟩, q⟩
  · obtain ⟨u, rfl, r1⟩ := vals1 r
    cases r1
    exact call_int_bool ⟨.int (if k then 1 else 0), H, I.tok _, ⟨_, rfl⟩, q⟩
theorem call_str_int : CallR X (.type "str") (fun xs H Q => ∃ i, xs = [.int i] ∧ i.natAbs.log2 < 1920 ∧ Q (.str (toString i)) H) := by
  intro pins s σ H xs us Q I r h
  obtain ⟨i, rfl, hz, q⟩ := h
  obtain ⟨u, rfl, t, rfl⟩ := vals1 r
  exact PySem.P.str_of_int hz ⟨.str _, H, I.tok _, ⟨_, rfl⟩, q⟩
end
end L2
namespace L2
open PySem PySem.Spec PyProof.Rows
structure ObjM (h : Heap) (x dx C : Addr) (mA : Str → Option Value) : Prop where
  obj : h.get? x = some (PySem.W.instObj C dx)
  ns : h.Ns1 dx mA
  ne : dx ≠ x
theorem RelO.some_of {v : V} {o : Option Value} (r : RelO (some v) o) : ∃ u, o = some u ∧ RelV v u := by
  cases o with
  | none => exact (show False from r).elim
  | some u => exact ⟨u, rfl, r⟩
theorem RelO.none_of {o : Option Value} (r : RelO none o) : o = none := by
  cases o with
  | none => rfl
  | some u => exact (show False from r).elim
structure Cls (K : PySem.W.Frag) (C : Addr) : Prop where
  pg : PySem.W.plainGet K C Str.empty = true
  hd : PySem.W.hasDictIn K C = true
  po : PySem.W.plainOver K C = true
  sa : PySem.W.findIn K (.ref C) "__setattr__" = some (some (.builtin "object.__setattr__"))
theorem Cls.get {K : PySem.W.Frag} {C : Addr} (c : Cls K C) (f : Str) : PySem.W.plainGet K C f = true := c.pg
structure Con (K : PySem.W.Frag) (C : Addr) (f : Str) (v : V) (u : Value) : Prop where
  at_ : PySem.W.findIn K (.ref C) f = some (some u)
  rel : RelV v u
  get : PySem.W.specialIn K u "__get__" = some none
  cp : PySem.W.copiedNames.contains f = false
structure Meth (K : PySem.W.Frag) (C : Addr) (m : Str) (f : Addr) : Prop where
  at_ : PySem.W.findIn K (.ref C) m = some (some (.ref f))
  fn : PySem.W.isFn K (.ref f) = true
  kp : PySem.W.keepIn K (.ref f) = true
section
variable {X : Cx} {pins : List (Addr × Obj)} {σ : St} {H : Hp} {s : Shared} {a C dx : Addr} {fs : List (Str × V)} {f : Str} {v : V} {A : Around} {E : Value → Shared → Prop}
theorem Inv.made (I : Inv X pins σ H s) : Inv X pins σ (upd (upd H s.heap.objs.size (.own (s.heap.objs.size + 1))) (s.heap.objs.size + 1) (.ins C s.heap.objs.size []))
    { s with heap := (s.heap.push PySem.W.emptyDict).push (PySem.W.instObj C s.heap.objs.size) } := by
  have e1 : (s.heap.push PySem.W.emptyDict).get? s.heap.objs.size = some PySem.W.emptyDict := Heap.get?_push_size s.heap rfl
  have e2 : ((s.heap.push PySem.W.emptyDict).push (PySem.W.instObj C s.heap.objs.size)).get? (s.heap.objs.size + 1) = some (PySem.W.instObj C s.heap.objs.size) := by
    have := Heap.get?_push_size (s.heap.push PySem.W.emptyDict) (o := PySem.W.instObj C s.heap.objs.size) rfl
    rwa [Heap.size_push] at this
  have e3 : (s.heap.push PySem.W.emptyDict).Ns s.heap.objs.size (fun _ => none) := ⟨PySem.W.emptyDict, #[], _, e1, rfl, (fun e he => absurd he (by simp)), fun _ => rfl⟩
  have I1 := I.laid (a := s.heap.objs.size) (o := .own (s.heap.objs.size + 1)) (h' := s.heap.push PySem.W.emptyDict) (t' := s.toks) (fun b u q => Heap.get?_push_of_some _ q) (Nat.le_refl _) ⟨_, e1⟩
  refine I1.laid (a := s.heap.objs.size + 1) (o := .ins C s.heap.objs.size []) (t' := s.toks) (fun b u q => Heap.get?_push_of_some _ q) (Nat.le_of_eq (Heap.size_push _ _)) ?_
  have ne : s.heap.objs.size ≠ s.heap.objs.size + 1 := Nat.ne_of_lt (Nat.lt_succ_self _)
  refine ⟨by rw [upd_ne ne, upd_same], Nat.zero_le _, ne, e2, fun _ => none, (Heap.Ns1.of_empty e3).at fun o q => Heap.get?_push_of_some _ q, fun _ => True.intro, fun y hy => absurd rfl hy⟩
end
section
variable {X : Cx} {pins : List (Addr × Obj)} {σ : St} {H : Hp} {s : Shared} {A : Around} {E : Value → Shared → Prop} {Q : Value → Shared → Prop} {c : Value} {b : Bool}
inductive TyOf (K : PySem.W.Frag) (H : Hp) : V → Value → Prop where
  | non : TyOf K H .non (.type "NoneType")
  | bl (x : Bool) : TyOf K H (.bl x) (.type "bool")
  | int (i : Int) : TyOf K H (.int i) (.type "int")
  | str (x : Str) : TyOf K H (.str x) (.type "str")
  | flt (x : UInt64) : TyOf K H (.flt x) (.type "float")
  | lst {a : Addr} {xs : List V} (e : H a = some (.lst xs)) : TyOf K H (.ref a) (.type "list")
  | frz {a : Addr} {o : Obj} {xs : List V} (e : H a = some (.frz o (.lst xs))) : TyOf K H (.ref a) (.type "list")
  | tup {a : Addr} {xs : List V} (e : H a = some (.tup xs)) : TyOf K H (.ref a) (.type "tuple")
  | dK {a : Addr} {kvs : List (Key × V)} (e : H a = some (.dK kvs)) : TyOf K H (.ref a) (.type "dict")
  | dT {a : Addr} {kvs : List (List Key × V)} (e : H a = some (.dT kvs)) : TyOf K H (.ref a) (.type "dict")
  | ins {a C dx : Addr} {fs : List (Str × V)} (e : H a = some (.ins C dx fs)) (cl : Cls K C) (ha : PySem.W.findIn K (.ref C) "__class__" = some (some (.builtin "object.__class__")))
      (hn : PySem.W.specialIn K (.builtin "object.__class__") "__get__" = some (some (.builtin "getset_descriptor.__get__"))) (htk : PySem.W.takesIn K (.builtin "object.__class__") = some true)
      (hm : PySem.W.mroIn K C (.type "object") = some true) : TyOf K H (.ref a) (.ref C)
end
end L2
namespace L2
open PySem PySem.Spec PyProof.Rows
structure Room (k : Nat) (A : Around) : Prop where
  hd : A.handled = none
  dp : A.depth + 3 * k + 5 < recursionLimit
  un : A.units + 16 * k + 200 < cLine
theorem Room.mono {j k : Nat} {A : Around} (r : Room k A) (h : j ≤ k) : Room j A := ⟨r.hd, by have := r.dp; omega, by have := r.un; omega⟩
theorem Room.deeper {k : Nat} {A : Around} (r : Room (k + 1) A) (env : Env) : Room k (A.deeper env) :=
  ⟨r.hd, by have := r.dp; show A.depth + 1 + 3 * k + 5 < _; omega, by have := r.un; show A.units + 3 + 16 * k + 200 < _; omega⟩
theorem Room.in1 {k : Nat} {A : Around} (r : Room (k + 1) A) : Room k A.in1 :=
  ⟨r.hd, by have := r.dp; show A.depth + 3 * k + 5 < _; omega, by have := r.un; show A.units + 1 + 16 * k + 200 < _; omega⟩
theorem make_depth {A : Around} {C : Addr} {us : List Value} {kw : List (Str × Value)} : (A.under (.builtin "type.__call__" ⟨.ref C :: us, kw⟩)).depth = A.depth + 1 := by
  first | rfl | simp [Around.under, Code.weight, Code.isCreation, Code.isGuard, Code.isCaller, Code.frames, Code.isFrame, guardIds]
theorem make_units {A : Around} {C : Addr} {us : List Value} {kw : List (Str × Value)} : (A.under (.builtin "type.__call__" ⟨.ref C :: us, kw⟩)).units = A.units + 1 := by
  first | rfl | simp [Around.under, Code.cUnits, Code.frames, Code.isFrame]
theorem Room.make {k : Nat} {A : Around} (r : Room (k + 1) A) (C : Addr) (us : List Value) (kw : List (Str × Value)) : Room k (A.under (.builtin "type.__call__" ⟨.ref C :: us, kw⟩)) :=
  ⟨r.hd, by have := r.dp; rw [make_depth]; omega, by have := r.un; rw [make_units]; omega⟩
theorem Room.depth {k : Nat} {A : Around} (r : Room k A) : A.depth < recursionLimit := by have := r.dp; omega
theorem Room.units {k : Nat} {A : Around} (r : Room k A) : A.units + 64 < cLine := by have := r.un; omega
def tNil : TA := fun _ H Q => Q [] H
def tCons (ta : TE) (tr : TA) : TA := fun σ H Q => ta σ H fun x H1 => tr σ H1 fun xs H2 => Q (x :: xs) H2
section
variable {X : Cx} {e : Expr} {es : List Expr} {te : TE} {t : TA} {pos : Pos}
theorem pa_nil : PA X [] tNil := fun _ _ _ _ H Q I h => Calls.spliced_nil ⟨[], H, I, .nil, h⟩
theorem pa_cons (ha : PE X e te) (hr : PA X es t) (hs : starEach (e :: es) X.env = (false, eval e X.env) :: starEach es X.env := by rfl) : PA X (e :: es) (tCons te t) := by
  intro pos pins s σ H Q I h
  rw [hs]
  show wpAny _ _ (spliced ((false, eval e X.env) :: backTo pos (starEach es X.env))) _ _ s
  refine Calls.spliced_cons (thn (ha pins s σ H _ I h) fun u s1 ⟨x, H1, I1, r1, q1⟩ => ?_)
  exact thn (hr pos pins s1 σ H1 _ I1 q1) fun us s2 ⟨xs, H2, I2, r2, q2⟩ => ⟨x :: xs, H2, I2, .cons r1 r2, q2⟩
def tTup (t : TA) : TE := fun σ H Q => t σ H fun xs H1 => xs.length ≤ sizeLine ∧ ∀ p, H1 p = none → Q (.ref p) (upd H1 p (.tup xs))
def tLst (t : TA) : TE := fun σ H Q => t σ H fun xs H1 => xs.length ≤ sizeLine ∧ ∀ p, H1 p = none → Q (.ref p) (upd H1 p (.lst xs))
theorem pe_tup {x1} (h : PA X es t) : PE X (.Tuple es x1 pos) (tTup t) := by
  intro pins s σ H Q I hq
  refine wpAny_Tuple_spliced (thn (h pos pins s σ H _ I hq) fun us s1 ⟨xs, H1, I1, r, z, q⟩ => ⟨by rw [← r.length]; exact z, ?_⟩)
  have hf : H1 s1.heap.objs.size = none := I1.hok.fresh (Nat.le_refl _)
  refine ⟨.ref s1.heap.objs.size, upd H1 s1.heap.objs.size (.tup xs), I1.laid (t' := s1.toks) (fun b u e => Heap.get?_push_of_some _ e) (Nat.le_refl _) ?_, rfl, q _ hf⟩
  exact ⟨z, us, r, ⟨_, Heap.get?_push_size _ rfl, rfl, _, rfl⟩⟩
theorem pe_lst (h : PA X es t) : PE X (.List es pos) (tLst t) := by
  intro pins s σ H Q I hq
  refine wpAny_List_spliced (thn (h pos pins s σ H _ I hq) fun us s1 ⟨xs, H1, I1, r, z, q⟩ => ⟨by rw [← r.length]; exact z, ?_⟩)
  have hf : H1 s1.heap.objs.size = none := I1.hok.fresh (Nat.le_refl _)
  refine ⟨.ref s1.heap.objs.size, upd H1 s1.heap.objs.size (.lst xs), I1.laid (t' := s1.toks) (fun b u e => Heap.get?_push_of_some _ e) (Nat.le_refl _) ?_, rfl, q _ hf⟩
  exact ⟨z, us, 0, r, Heap.get?_push_size _ rfl⟩
end
abbrev Sp := List V → Hp → VK → XK → Prop
abbrev CXT := List Env → Hp → Shared → XK → Value → Shared → Prop
structure Env0 (P : Program) (w : World) (K : PySem.W.Frag) (mg : Str → Option Value) (base : Heap) (A : Around) (outer : List Env) (s : Shared) (H : Hp) : Prop where
  frames : A.frames = some outer
  mod : Mod K mg base
  bs : ∀ b o, base.get? b = some o → s.heap.get? b = some o ∧ H b = none
  bsz : base.objs.size ≤ s.heap.objs.size
  funs : s.heap.FunFrames base outer
  frf : ∀ b ∈ frs outer, H b = none
  hok : HOk P w H s.heap
  bare : AllBare s.gens
def CE (outer : List Env) (P : Program) (w : World) (H : Hp) (s : Shared) (Q : VK) (u : Value) (s' : Shared) : Prop :=
  ∃ v H', s'.os = s.os ∧ AllBare s'.gens ∧ Un (frs outer) [] H H' s.heap s'.heap ∧ HOk P w H' s'.heap ∧ RelV v u ∧ Q v H'
def CR (CX : CXT) (outer : List Env) (P : Program) (w : World) (H : Hp) (s : Shared) (Q : VK) (E : XK) (r : Result) (s' : Shared) : Prop :=
  match r with
  | .ok (.ret u) => CE outer P w H s Q u s'
  | .ok _ => False
  | .error e => CX outer H s E e s'
structure FnOk (P : Program) (w : World) (K : PySem.W.Frag) (mg : Str → Option Value) (base : Heap) (CX : CXT) (k : Nat) (f : Addr) (fd : FuncData) (ps : List Str) (sp : Sp) : Prop where
  len : ∀ vs H Q E, sp vs H Q E → vs.length = ps.length
  run : ∀ (A : Around) (outer : List Env) (s : Shared) (H : Hp) (args : Args) (us : List Value) (vs : List V) (Q : VK) (E : XK), Room k A → Env0 P w K mg base A outer s H → BindsTo s fd args (ps.zip us) → Vals vs us → sp vs H Q E →
    codeAny (model P w) A (.call (.ref f) args) (CR CX outer P w H s Q E) s
theorem FnOk.mono {P : Program} {w : World} {K : PySem.W.Frag} {mg : Str → Option Value} {base : Heap} {CX : CXT} {j k : Nat} {f : Addr} {fd : FuncData} {ps : List Str} {sp : Sp} (F : FnOk P w K mg base CX j f fd ps sp) (h : j ≤ k) :
    FnOk P w K mg base CX k f fd ps sp := ⟨F.len, fun A outer s H args us vs Q E hr => F.run A outer s H args us vs Q E (hr.mono h)⟩
theorem FnOk.imp {P : Program} {w : World} {K : PySem.W.Frag} {mg : Str → Option Value} {base : Heap} {CX : CXT} {k : Nat} {f : Addr} {fd : FuncData} {ps : List Str} {sp sp' : Sp} (F : FnOk P w K mg base CX k f fd ps sp)
    (h : ∀ vs H Q E, sp' vs H Q E → sp vs H Q E) : FnOk P w K mg base CX k f fd ps sp' :=
  ⟨fun vs H Q E q => F.len vs H Q E (h _ _ _ _ q), fun A outer s H args us vs Q E hr he hb hv hs => F.run A outer s H args us vs Q E hr he hb hv (h _ _ _ _ hs)⟩
theorem Env0.make {P : Program} {w : World} {K : PySem.W.Frag} {mg : Str → Option Value} {base : Heap} {A : Around} {outer : List Env} {s : Shared} {H : Hp} (e : Env0 P w K mg base A outer s H) (C : Addr) (us : List Value) (kw : List (Str × Value)) :
    Env0 P w K mg base (A.under (.builtin "type.__call__" ⟨.ref C :: us, kw⟩)) outer s H := ⟨by first | exact e.frames | (simpa [Around.under, Code.envs, Code.isFrame, pushEnvs] using e.frames), e.mod, e.bs, e.bsz, e.funs, e.frf, e.hok, e.bare⟩
theorem Env0.in1 {P : Program} {w : World} {K : PySem.W.Frag} {mg : Str → Option Value} {base : Heap} {A : Around} {outer : List Env} {s : Shared} {H : Hp} (e : Env0 P w K mg base A outer s H) :
    Env0 P w K mg base A.in1 outer s H := ⟨e.frames, e.mod, e.bs, e.bsz, e.funs, e.frf, e.hok, e.bare⟩
section
variable {X : Cx} {pins : List (Addr × Obj)} {σ : St} {H : Hp} {s s' : Shared}
theorem Inv.env0 (I : Inv X pins σ H s) : Env0 X.prog X.w X.K X.mg X.base X.A X.stack s H :=
  ⟨I.ok.frames, I.ok.mod, I.bs, Nat.le_trans I.ok.bsz I.sz, I.stack, I.stkFree, I.hok, I.bare⟩
theorem Inv.after {Q : VK} {u : Value} (I : Inv X pins σ H s) (h : CE X.stack X.prog X.w H s Q u s') : EP X pins σ Q u s' := by
  obtain ⟨v, H', os, bare, un, hok, r, q⟩ := h
  obtain ⟨hh, g, d, t, os'⟩ := s'
  obtain rfl : os' = s.os := os
  exact ⟨v, H', I.call (h' := hh) (g' := g) (d' := d) (t' := t) (ch := []) un hok bare (fun b z => absurd z (by simp)), r, q⟩
end
def tCall (sp : Sp) (dvs : List V) (E : XK) (t : TA) : TE := fun σ H Q => t σ H fun vs H1 => sp (vs ++ dvs) H1 Q E
def Binds (K : PySem.W.Frag) (fd : FuncData) (ps : List Str) (ds : List Value) : Prop :=
  ∀ (s : Shared) (us : List Value), K.In s.heap → (us ++ ds).length = ps.length → BindsTo s fd ⟨us, []⟩ (ps.zip (us ++ ds))
theorem Binds.all {K : PySem.W.Frag} {fd : FuncData} {ps : List Str} (h : ∀ us : List Value, us.length = ps.length → bindArgs fd ⟨us, []⟩ = pure (ps.zip us)) : Binds K fd ps [] := fun s us _ hl => by
  rw [List.append_nil] at hl ⊢
  exact .of_eq (h us hl)
def Passes (CX : CXT) (X : Cx) (E : XK) : Prop := ∀ (pins : List (Addr × Obj)) (σ : St) (H : Hp) (s : Shared) (e : Value) (s' : Shared), Inv X pins σ H s → CX X.stack H s E e s' → X.xe e s'
section
variable {X : Cx} {CX : CXT} {k : Nat} {f C : Addr} {fd : FuncData} {ps : List Str} {sp : Sp} {dvs : List V} {ds : List Value} {E : XK} {x m : Str} {p pos apos : Pos} {e o : Expr} {es : List Expr} {ta : TE} {t : TA}
theorem run_fn {pins : List (Addr × Obj)} {σ : St} {H : Hp} {s : Shared} {Q : VK} {us : List Value} {vs : List V} (F : FnOk X.prog X.w X.K X.mg X.base CX k f fd ps sp) (hr : Room k X.A) (hb : Binds X.K fd ps ds) (hd : Vals dvs ds) (hx : Passes CX X E)
    (I : Inv X pins σ H s) (r : Vals vs us) (h : sp (vs ++ dvs) H Q E) : wpAny (model X.prog X.w) X.A (call (.ref f) us) (EP X pins σ Q) X.xe s := by
  have r2 : Vals (vs ++ dvs) (us ++ ds) := r.append hd
  have hl : (us ++ ds).length = ps.length := by rw [← r2.length]; exact F.len _ _ _ _ h
  refine wpAny_call (codeAny_mono (F.run X.A X.stack s H ⟨us, []⟩ (us ++ ds) (vs ++ dvs) Q E hr I.env0 (hb s us I.kIn hl) r2 h) fun r s' hq => ?_)
  cases r with
  | error e => exact hx pins σ H s e s' I hq
  | ok fl =>
    cases fl with
    | ret u => exact I.after hq
    | next => exact False.elim hq
    | brk => exact False.elim hq
    | cont => exact False.elim hq
theorem pe_call (F : FnOk X.prog X.w X.K X.mg X.base CX k f fd ps sp) (hr : Room k X.A) (hg : Gl X x) (hm : X.mg x = some (.ref f)) (hk : PySem.W.keepIn X.K (.ref f) = true) (hb : Binds X.K fd ps ds) (hd : Vals dvs ds) (hx : Passes CX X E)
    (ha : PA X (e :: es) t) (hdb : (x == ("__debug__" : Str)) = false := by decide) (he : starEach (e :: es) X.env = (false, eval e X.env) :: starEach es X.env := by rfl) (hpl : (backTo pos (starEach es X.env)).any (·.1) = false := by rfl) :
    PE X (.Call (.Name x p) (e :: es) [] pos) (tCall sp dvs E t) := by
  intro pins s σ H Q I h
  refine wpAny_Call_Name_kw (ld_glob I hg hm ?_ hdb)
  refine PySem.W.callWith_K (h₀ := X.base) I.ok.mod.kin hk (thn (ha pos pins s σ H _ I h) fun us s1 ⟨vs, H1, I1, r, q⟩ => ⟨I1.kIn, ?_⟩) he hpl
  exact run_fn F hr hb hd hx I1 r q
structure Mk (K : PySem.W.Frag) (C f : Addr) : Prop where
  makes : PySem.W.makesIn K C = true
  init : PySem.W.findIn K (.ref C) "__init__" = some (some (.ref f))
  fn : PySem.W.isFn K (.ref f) = true
  kp : PySem.W.keepIn K (.ref C) = true
end
section
variable {X : Cx} {CX : CXT} {k : Nat} {f C : Addr} {fd : FuncData} {ps ks : List Str} {sp : Sp} {E : XK} {x m : Str} {p pos apos kpos : Pos} {e o : Expr} {es : List Expr} {kws : List Keyword} {te ta : TE} {t tk : TA} {nm : Option Str}
structure KBinds (K : PySem.W.Frag) (fd : FuncData) (ps ks : List Str) (g : List Value → List Value → List Value) (gV : List V → List V → List V) : Prop where
  to : ∀ (s : Shared) (us ws : List Value), K.In s.heap → (g us ws).length = ps.length → BindsTo s fd ⟨us, ks.zip ws⟩ (ps.zip (g us ws))
  rel : ∀ {vs : List V} {us : List Value} {zs : List V} {ws : List Value}, Vals vs us → Vals zs ws → Vals (gV vs zs) (g us ws)
variable {g : List Value → List Value → List Value} {gV : List V → List V → List V}
end
structure FnScope (N P : List Str) (sc : Scope) : Prop where
  kind : sc.kind = .function
  co : sc.isCoroutine = false
  gen : sc.isGenerator = false
  nd : N.Nodup
  pre : N.take P.length = P
  par : ∀ x ∈ P, sc.names.lookup x = some .local ∨ sc.names.lookup x = some .cell
  nofree : ∀ y ∈ sc.names, y.2 ≠ .free
theorem bindL_out {kindOf : Str → Option NameKind} {x : Str} : ∀ {binds : List (Str × Value)} {m : Str → Option Value}, (∀ v, (x, v) ∉ binds) → bindL kindOf binds m x = m x
  | [], _, _ => rfl
  | (n, v) :: r, m, h => by
    unfold bindL
    rw [bindL_out fun w hw => h w (List.mem_cons_of_mem _ hw)]
    split
    · have : x ≠ n := by rintro rfl; exact h v List.mem_cons_self
      simp [this]
    · rfl
theorem bindC_out {kindOf : Str → Option NameKind} {x : Str} : ∀ {binds : List (Str × Value)} {m : Str → Option Value}, (∀ v, (x, v) ∉ binds) → bindC kindOf binds m x = m x
  | [], _, _ => rfl
  | (n, v) :: r, m, h => by
    unfold bindC
    rw [bindC_out fun w hw => h w (List.mem_cons_of_mem _ hw)]
    split
    · rfl
    · have : x ≠ n := by rintro rfl; exact h v List.mem_cons_self
      simp [this]
theorem bindL_get {kindOf : Str → Option NameKind} {x : Str} {v : Value} : ∀ {P : List Str} {vs : List Value} {i : Nat} {m : Str → Option Value}, P.Nodup → P[i]? = some x → vs[i]? = some v → kindOf x = some .local →
    bindL kindOf (P.zip vs) m x = some v
  | [], _, _, _, _, h, _, _ => by simp at h
  | _ :: _, [], _, _, _, _, h, _ => by simp at h
  | p :: P, w :: vs, 0, m, nd, h1, h2, hk => by
    simp at h1 h2; subst h1; subst h2
    show bindL kindOf ((p, w) :: P.zip vs) m p = _
    unfold bindL
    rw [bindL_out fun v hv => (List.nodup_cons.mp nd).1 (List.of_mem_zip hv).1, if_pos hk]
    simp
  | p :: P, w :: vs, i + 1, m, nd, h1, h2, hk => by
    show bindL kindOf ((p, w) :: P.zip vs) m x = _
    unfold bindL
    exact bindL_get (i := i) (List.nodup_cons.mp nd).2 (by simpa using h1) (by simpa using h2) hk
theorem bindC_get {kindOf : Str → Option NameKind} {x : Str} {v : Value} : ∀ {P : List Str} {vs : List Value} {i : Nat} {m : Str → Option Value}, P.Nodup → P[i]? = some x → vs[i]? = some v → kindOf x ≠ some .local →
    bindC kindOf (P.zip vs) m x = some v
  | [], _, _, _, _, h, _, _ => by simp at h
  | _ :: _, [], _, _, _, _, h, _ => by simp at h
  | p :: P, w :: vs, 0, m, nd, h1, h2, hk => by
    simp at h1 h2; subst h1; subst h2
    show bindC kindOf ((p, w) :: P.zip vs) m p = _
    unfold bindC
    rw [bindC_out fun v hv => (List.nodup_cons.mp nd).1 (List.of_mem_zip hv).1, if_neg hk]
    simp
  | p :: P, w :: vs, i + 1, m, nd, h1, h2, hk => by
    show bindC kindOf ((p, w) :: P.zip vs) m x = _
    unfold bindC
    exact bindC_get (i := i) (List.nodup_cons.mp nd).2 (by simpa using h1) (by simpa using h2) hk
def start (N : List Str) (vs : List V) : St := vs.map some ++ List.replicate (N.length - vs.length) none
def cxOf (CX : CXT) (P : Program) (w : World) (K : PySem.W.Frag) (mg : Str → Option Value) (base : Heap) (N : List Str) (qual : Str) (scope : Scope) (f : Addr) (cd : Value) (A : Around) (outer : List Env) (s : Shared) (H : Hp) (E : XK) : Cx where
  prog := P
  w := w
  K := K
  mg := mg
  base := base
  A := A.deeper (envOfC qual scope s.heap.objs.size f cd)
  N := N
  s₀ := s
  H₀ := H
  env := envOfC qual scope s.heap.objs.size f cd
  outer := outer
  stack := envOfC qual scope s.heap.objs.size f cd :: outer
  ex := []
  calm := true
  fn := fun _ => true
  pn := []
  xe := fun e s' => wpAny (model P w) (A.deeper (envOfC qual scope s.heap.objs.size f cd)) (leaving (envOfC qual scope s.heap.objs.size f cd) e) (fun _ s'' => CX outer H s E e s'') (fun e' s'' => CX outer H s E e' s'') s'
theorem cell_has {sc : Scope} {n : Nat} {x : Str} (h : sc.names.lookup x = some .cell) : ∃ c, (cellsFrom n sc.names []).lookup x = some c := by
  have q := PySem.W.cellsFrom_some sc.names n [] (.inl h)
  exact Option.isSome_iff_exists.mp q
theorem inv_start {CX : CXT} {P : Program} {w : World} {K : PySem.W.Frag} {mg : Str → Option Value} {base : Heap} {N ps : List Str} {qual : Str} {scope : Scope} {f : Addr} {cd : Value} {A : Around} {outer : List Env} {s s1 : Shared} {H : Hp} {E : XK} {us : List Value} {vs : List V}
    (S : FnScope N ps scope) (hd : A.handled = none) (e0 : Env0 P w K mg base A outer s H) (hl : vs.length = ps.length) (r : Vals vs us)
    (x : InCallC s s.heap.objs.size (bindL (envOfC qual scope s.heap.objs.size f cd).kindOf (ps.zip us) fun _ => none) (cellsFrom (s.heap.objs.size + 1) scope.names []) (bindC (envOfC qual scope s.heap.objs.size f cd).kindOf (ps.zip us) fun _ => none) s1) :
    Inv (cxOf CX P w K mg base N qual scope f cd A outer s H E) [] (start N vs) H s1 := by
  have hpl : ps.length ≤ N.length := by have := congrArg List.length S.pre; rw [List.length_take] at this; omega
  obtain ⟨h1, tk, rfl, hk⟩ := x.done
  have noA : ∀ b : Addr, b ∉ (cxOf CX P w K mg base N qual scope f cd A outer s H E).ex := fun b z => absurd (show b ∈ ([] : List Addr) from z) (by simp)
  refine ⟨⟨e0.mod, S.kind, rfl, rfl, Nat.le_refl _, fun y z c h1 h2 => ?_, fun y hy => ?_, fun y c _ h => ?_, fun _ => hd, Around.frames_deeper e0.frames, .inr ⟨rfl, rfl⟩, fun b z => absurd z (noA b), e0.bs, e0.bsz, fun b _ _ => noA b, fun b z => absurd z (noA b), e0.funs, e0.frf⟩,
    rfl, e0.bare, Un.kept hk, ⟨_, x.toInCall.ns, fun i y v h1 h2 h3 => ?_⟩, fun y c h => ⟨_, x.cell y c h⟩, e0.hok.fresh (Nat.le_refl _), fun y c h => ?_, fun p hp => absurd (show p ∈ ([] : List (Addr × Obj)) from hp) (by simp), e0.hok.kept hk, ?_⟩
  · exact name_of_addr x.apart (PySem.mem_of_lookup h1) (PySem.mem_of_lookup h2)
  · have hy : scope.names.lookup y = some .cell ∨ scope.names.lookup y = some .free := hy
    rcases hy with hy | hy
    · exact cell_has hy
    · exact absurd rfl (S.nofree _ (PySem.mem_of_lookup hy))
  · exact Nat.le_of_lt (x.above y c (PySem.mem_of_lookup h))
  · have hi : i < vs.length := by
      unfold start at h2
      by_cases hi : i < vs.length
      · exact hi
      · rw [List.getElem?_append_right (by simpa using hi)] at h2
        rw [List.getElem?_replicate] at h2
        split at h2 <;> cases h2
    have ha : vs[i]? = some v := by
      unfold start at h2
      rw [List.getElem?_append_left (by simpa using hi), List.getElem?_map] at h2
      cases e : vs[i]? with
      | none => rw [e] at h2; cases h2
      | some a => rw [e] at h2; cases h2; rfl
    obtain ⟨u, hu, rv⟩ := r.get ha
    have hp : ps[i]? = some y := by
      rw [← S.pre, List.getElem?_take_of_lt (by omega)]; exact h1
    have ndP : ps.Nodup := by rw [← S.pre]; exact S.nd.sublist (List.take_sublist _ _)
    refine ⟨u, rv, ?_⟩
    rcases S.par y (List.mem_of_getElem? hp) with k | k
    · exact .inl ⟨k, bindL_get ndP hp hu k⟩
    · obtain ⟨c, e⟩ := cell_has (n := s.heap.objs.size + 1) k
      refine .inr ⟨.inl k, c, e, ?_⟩
      have q := x.cell y c e
      rw [bindC_get ndP hp hu (by show scope.names.lookup y ≠ _; rw [k]; decide)] at q
      exact q
  · exact e0.hok.fresh (Nat.le_of_lt (x.above y c (PySem.mem_of_lookup h)))
  · unfold start
    show _ = N.length
    rw [List.length_append, List.length_map, List.length_replicate]
    omega
theorem fn_of {CX : CXT} {P : Program} {w : World} {K : PySem.W.Frag} {mg : Str → Option Value} {base : Heap} {k : Nat} {f : Addr} {name qual : Str} {params : Arguments} {body : List Stmt} {scope : Scope} {dV kV doc pm cdv ct oc : Value} {an od : Option Addr}
    {osl : Array (Option Value)} {N ps : List Str} {sp : Sp} (lk : K.lookup f = some ⟨oc, od, .func (PySem.W.fnOf name qual params body scope dV kV doc pm an cdv ct), osl⟩) (hcd : PySem.W.codeIn K cdv qual = true) (S : FnScope N ps scope)
    (len : ∀ vs H Q E, sp vs H Q E → vs.length = ps.length)
    (hbody : ∀ (A : Around) (outer : List Env) (s : Shared) (H : Hp) (vs : List V) (Q : VK) (E : XK), Room k (A.deeper (envOfC qual scope s.heap.objs.size f cdv)) → sp vs H Q E →
      ∃ t, PSs (cxOf CX P w K mg base N qual scope f cdv A outer s H E) body t ∧ t { nx := fun _ H' => Q .non H', rt := Q } (start N vs) H) :
    FnOk P w K mg base CX (k + 1) f (PySem.W.fnOf name qual params body scope dV kV doc pm an cdv ct) ps sp := by
  refine ⟨len, fun A outer s H args us vs Q E hr e0 hb r hsp => ?_⟩
  have hl := len _ _ _ _ hsp
  have KX : K.In s.heap := e0.mod.kin.keeps fun b o e => (e0.bs b o e).1
  have lim : s.heap.NoLimit := e0.mod.nolimit.keeps fun b o e => (e0.bs b o e).1
  have hkind : ∀ y ∈ ps.zip us, scope.names.lookup y.1 = some .local ∨ (scope.names.lookup y.1 = some .cell ∧ ((cellsFrom (s.heap.objs.size + 1) scope.names []).lookup y.1).isSome = true) := fun ⟨n, v⟩ hy => by
    rcases S.par n (List.of_mem_zip hy).1 with q | q
    · exact .inl q
    · exact .inr ⟨q, PySem.W.cellsFrom_some _ _ _ (.inl q)⟩
  refine codeAny_call_function hr.depth (KX _ _ lk) rfl S.co S.gen rfl (PySem.W.codeRec_of KX hcd) (hb _ _ _ _ ?_)
  refine wpAny_newFunctionEnv_cells S.kind hkind fun env he s1 x => ?_
  subst he
  refine ⟨lim.keeps x.toInCall.keep, codeAny_func ?_⟩
  obtain ⟨t, ht, hq⟩ := hbody A outer s H vs Q E (hr.deeper _) hsp
  have I : Inv (cxOf CX P w K mg base N qual scope f cdv A outer s H E) [] (start N vs) H s1 := inv_start S hr.hd e0 hl r x
  refine wpAny_mono (ht [] s1 (start N vs) H _ I hq) (fun fl s' hs => ?_) fun e s' hs => hs
  have fin : ∀ {σ' : St} {H' : Hp} {v : V} {u : Value}, Inv (cxOf CX P w K mg base N qual scope f cdv A outer s H E) [] σ' H' s' → RelV v u → Q v H' → CE outer P w H s Q u s' :=
    fun {σ' H' v u} J rv q => ⟨v, H', J.os, J.bare, J.base, J.hok, rv, q⟩
  cases fl with
  | ret u =>
    obtain ⟨v, σ', H', J, rv, q⟩ := hs
    exact fin J rv q
  | next =>
    obtain ⟨σ', H', J, q⟩ := hs
    exact fin (v := V.non) (u := Value.none) J rfl q
  | brk =>
    obtain ⟨_, _, _, q⟩ := hs
    exact False.elim q
  | cont =>
    obtain ⟨_, _, _, q⟩ := hs
    exact False.elim q
end L2
namespace L2
open PySem PySem.Spec PyProof.Rows
section
variable {X : Cx} {x : Str} {p pos : Pos} {e : Expr} {es : List Expr} {t : TA} {id T : String} {r : List V → Hp → VK → Prop}
def tCB (r : List V → Hp → VK → Prop) (t : TA) : TE := fun σ H Q => t σ H fun vs H1 => r vs H1 Q
theorem pe_callB (hc : CallR X (.builtin id) r) (hg : Gl X x) (hm : X.mg x = none) (hv : bootBuiltins x = some (.builtin id)) (ha : PA X (e :: es) t) (hn : x ≠ "__name__" := by decide) (hdb : (x == ("__debug__" : Str)) = false := by decide)
    (he : starEach (e :: es) X.env = (false, eval e X.env) :: starEach es X.env := by rfl) (hpl : (backTo pos (starEach es X.env)).any (·.1) = false := by rfl) : PE X (.Call (.Name x p) (e :: es) [] pos) (tCB r t) := by
  intro pins s σ H Q I h
  refine wpAny_Call_Name_kw (ld_blt I hg hm hv ?_ hn hdb)
  exact PyProof.Rows.callWith_builtin1 (thn (ha pos pins s σ H _ I h) fun us s1 ⟨vs, H1, I1, r1, q1⟩ => hc pins s1 σ H1 vs us Q I1 r1 q1) he hpl
theorem pe_callTy (hc : CallR X (.type T) r) (hg : Gl X x) (hm : X.mg x = none) (hv : bootBuiltins x = some (.type T)) (ha : PA X (e :: es) t) (hn : x ≠ "__name__" := by decide) (hdb : (x == ("__debug__" : Str)) = false := by decide)
    (he : starEach (e :: es) X.env = (false, eval e X.env) :: starEach es X.env := by rfl) (hpl : (backTo pos (starEach es X.env)).any (·.1) = false := by rfl) : PE X (.Call (.Name x p) (e :: es) [] pos) (tCB r t) := by
  intro pins s σ H Q I h
  refine wpAny_Call_Name_kw (ld_blt I hg hm hv ?_ hn hdb)
  exact PyProof.Rows.callWith_type1 (thn (ha pos pins s σ H _ I h) fun us s1 ⟨vs, H1, I1, r1, q1⟩ => hc pins s1 σ H1 vs us Q I1 r1 q1) he hpl
end
end L2
namespace L2
open PySem PySem.Spec PyProof.Rows
section
variable {κ : Type} [DecidableEq κ]
def valV (kvs : List (κ × V)) (k : κ) : Option V := (kvs.find? fun kv => decide (kv.1 = k)).map (·.2)
def putK (kvs : List (κ × V)) (k : κ) (v : V) : List (κ × V) :=
  if (kvs.any fun kv => decide (kv.1 = k)) = true then kvs.map (fun kv => if kv.1 = k then (kv.1, v) else kv) else kvs ++ [(k, v)]
def dropK (kvs : List (κ × V)) (k : κ) : List (κ × V) := kvs.filter fun kv => decide (kv.1 ≠ k)
theorem valV_pos {p : κ × V} {r : List (κ × V)} {k : κ} (e : p.1 = k) : valV (p :: r) k = some p.2 := by simp [valV, List.find?_cons, e]
theorem valV_neg {p : κ × V} {r : List (κ × V)} {k : κ} (e : ¬ p.1 = k) : valV (p :: r) k = valV r k := by simp [valV, List.find?_cons, e]
theorem valV_any (k : κ) : ∀ kvs : List (κ × V), (kvs.any fun kv => decide (kv.1 = k)) = (valV kvs k).isSome
  | [] => rfl
  | p :: r => by
    rw [List.any_cons]
    by_cases e : p.1 = k
    · simp only [valV_pos e, decide_eq_true e, Bool.true_or, Option.isSome_some]
    · rw [valV_neg e, decide_eq_false e, Bool.false_or]; exact valV_any k r
theorem length_putK (kvs : List (κ × V)) (k : κ) (v : V) : (putK kvs k v).length ≤ kvs.length + 1 := by
  unfold putK
  split
  · rw [List.length_map]; omega
  · rw [List.length_append, List.length_cons, List.length_nil]; omega
theorem RelO.isSome_eq {o : Option V} {u : Option Value} (r : RelO o u) : o.isSome = u.isSome := by
  cases o with
  | none => cases u with
    | none => rfl
    | some _ => exact (show False from r).elim
  | some _ => cases u with
    | none => exact (show False from r).elim
    | some _ => rfl
theorem RelO.getD {o : Option V} {u : Option Value} {d : V} {d' : Value} (r : RelO o u) (rd : RelV d d') : RelV (o.getD d) (u.getD d') := by
  cases o with
  | none => cases u with
    | none => exact rd
    | some _ => exact (show False from r).elim
  | some _ => cases u with
    | none => exact (show False from r).elim
    | some _ => exact r
theorem KV.val {kvs : List (κ × V)} {vs : List (κ × Value)} (r : KV kvs vs) (k : κ) : RelO (valV kvs k) (valueAt vs k) := by
  unfold KV at r
  induction r with
  | nil => exact True.intro
  | @cons p q ps qs h t ih =>
    obtain ⟨h1, h2⟩ := h
    by_cases e : p.1 = k
    · have e' : q.1 = k := h1.symm.trans e
      have b : valueAt (q :: qs) k = some q.2 := by simp [valueAt, List.find?_cons, e']
      rw [valV_pos e, b]; exact h2
    · have e' : ¬ q.1 = k := fun z => e (h1.trans z)
      have b : valueAt (q :: qs) k = valueAt qs k := by simp [valueAt, List.find?_cons, e']
      rw [valV_neg e, b]; exact ih
theorem KV.any {kvs : List (κ × V)} {vs : List (κ × Value)} (r : KV kvs vs) (k : κ) : (kvs.any fun kv => decide (kv.1 = k)) = vs.any fun kv => decide (kv.1 = k) := by
  unfold KV at r
  induction r with
  | nil => rfl
  | cons h t ih => rw [List.any_cons, List.any_cons, ih, h.1]
theorem KV.repl {kvs : List (κ × V)} {vs : List (κ × Value)} (r : KV kvs vs) (k : κ) {y : V} {u : Value} (ry : RelV y u) :
    KV (kvs.map fun kv => if kv.1 = k then (kv.1, y) else kv) (vs.map fun kv => if kv.1 = k then (kv.1, u) else kv) := by
  unfold KV at r ⊢
  induction r with
  | nil => exact .nil
  | @cons p q ps qs h t ih =>
    rw [List.map_cons, List.map_cons]
    refine .cons ?_ ih
    obtain ⟨h1, h2⟩ := h
    by_cases e : p.1 = k
    · rw [if_pos e, if_pos (h1.symm.trans e)]; exact ⟨h1, ry⟩
    · rw [if_neg e, if_neg (fun z => e (h1.trans z))]; exact ⟨h1, h2⟩
theorem KV.put {kvs : List (κ × V)} {vs : List (κ × Value)} (r : KV kvs vs) (k : κ) {y : V} {u : Value} (ry : RelV y u) : KV (putK kvs k y) (stored vs k u) := by
  unfold putK stored
  rw [r.any k]
  by_cases e : (vs.any fun kv => decide (kv.1 = k)) = true
  · rw [if_pos e, if_pos e]; exact r.repl k ry
  · rw [if_neg e, if_neg e]; exact Paired.snoc r ⟨rfl, ry⟩
theorem KV.drop {kvs : List (κ × V)} {vs : List (κ × Value)} (r : KV kvs vs) (k : κ) : KV (dropK kvs k) (without vs k) := by
  unfold KV at r ⊢
  unfold dropK without
  induction r with
  | nil => exact .nil
  | @cons p q ps qs h t ih =>
    obtain ⟨h1, h2⟩ := h
    rw [List.filter_cons, List.filter_cons]
    by_cases e : p.1 = k
    · have a : ¬ decide (p.1 ≠ k) = true := by simp [e]
      have b : ¬ decide (q.1 ≠ k) = true := by simp [h1.symm.trans e]
      rw [if_neg a, if_neg b]; exact ih
    · have e' : ¬ q.1 = k := fun z => e (h1.trans z)
      have a : decide (p.1 ≠ k) = true := by simp [e]
      have b : decide (q.1 ≠ k) = true := by simp [e']
      rw [if_pos a, if_pos b]; exact .cons ⟨h1, h2⟩ ih
theorem KV.length {kvs : List (κ × V)} {vs : List (κ × Value)} (r : KV kvs vs) : kvs.length = vs.length := Paired.length r
end
theorem kV_is {P : Program} {w : World} {k : Key} {u : Value} (r : RelV (kV k) u) : (mixKind P w).is k u = true := by
  cases k with
  | inl i => obtain ⟨t, e⟩ := (show ∃ t, u = Value.int i t from r); subst e; exact mixKind_int P w i t
  | inr x => obtain ⟨t, e⟩ := (show ∃ t, u = Value.str x t from r); subst e; exact mixKind_str P w x t
theorem items_are {P : Program} {w : World} : ∀ {ks : List Key} {us : List Value}, Vals (ks.map kV) us → ItemsAre (mixKind P w) ks us
  | [], _, r => by rw [List.map_nil] at r; cases r; exact .nil
  | k :: ks, _, r => by
    rw [List.map_cons] at r
    cases r with
    | cons h t => exact .cons (kV_is h) (items_are t)
abbrev KT (H : Hp) : List (List Key × V) → List (List Key × Addr × Value) → Prop := Paired fun p q => p.1 = q.1 ∧ H q.2.1 = some (.tup (p.1.map kV)) ∧ RelV p.2 q.2.2
theorem KT.val {H : Hp} {kvs : List (List Key × V)} {xs : List (List Key × Addr × Value)} (r : KT H kvs xs) (k : List Key) : RelO (valV kvs k) ((atKey xs k).map (·.2)) := by
  induction r with
  | nil => exact True.intro
  | @cons p q ps qs h t ih =>
    obtain ⟨h1, _, h2⟩ := h
    by_cases e : p.1 = k
    · have e' : q.1 = k := h1.symm.trans e
      have b : atKey (q :: qs) k = some q.2 := by simp [atKey, List.find?_cons, e']
      rw [valV_pos e, b]; exact h2
    · have e' : ¬ q.1 = k := fun z => e (h1.trans z)
      have b : atKey (q :: qs) k = atKey qs k := by simp [atKey, List.find?_cons, e']
      rw [valV_neg e, b]; exact ih
theorem KT.repl {H : Hp} {kvs : List (List Key × V)} {xs : List (List Key × Addr × Value)} (r : KT H kvs xs) (k : List Key) {y : V} {u : Value} (ry : RelV y u) :
    KT H (kvs.map fun kv => if kv.1 = k then (kv.1, y) else kv) (xs.map (putAt k u)) := by
  induction r with
  | nil => exact .nil
  | @cons p q ps qs h t ih =>
    rw [List.map_cons, List.map_cons]
    refine .cons ?_ ih
    obtain ⟨h1, h2, h3⟩ := h
    unfold putAt
    by_cases e : p.1 = k
    · rw [if_pos e, if_pos (h1.symm.trans e)]; exact ⟨h1, h2, ry⟩
    · rw [if_neg e, if_neg (fun z => e (h1.trans z))]; exact ⟨h1, h2, h3⟩
theorem KT.put {H : Hp} {kvs : List (List Key × V)} {xs : List (List Key × Addr × Value)} (r : KT H kvs xs) (k : List Key) {b : Addr} {y : V} {u : Value} (hb : H b = some (.tup (k.map kV))) (ry : RelV y u) :
    KT H (putK kvs k y) (storedH xs k b u) := by
  have e : (kvs.any fun kv => decide (kv.1 = k)) = (atKey xs k).isSome := by
    rw [valV_any, (r.val k).isSome_eq, Option.isSome_map]
  unfold putK storedH
  rw [e]
  by_cases q : (atKey xs k).isSome = true
  · rw [if_pos q, if_pos q]; exact r.repl k ry
  · rw [if_neg q, if_neg q]; exact Paired.snoc r ⟨rfl, hb, ry⟩
theorem KT.keeps {H H' : Hp} {kvs : List (List Key × V)} {xs : List (List Key × Addr × Value)} (r : KT H kvs xs) (ht : ∀ b ys, H b = some (.tup ys) → H' b = some (.tup ys)) : KT H' kvs xs :=
  Paired.mapP r fun _ _ z => ⟨z.1, ht _ _ z.2.1, z.2.2⟩
section
variable {P : Program} {w : World} {H : Hp} {h : Heap} {a : Addr}
theorem rd_of {u : HO} (ok : HOk P w H h) (e : Rd H a u) : ObjOk P w H h a u := e.ok ok
theorem dk_rd {kvs : List (Key × V)} (ok : HOk P w H h) (e : Rd H a (.dK kvs)) : kvs.length ≤ sizeLine ∧ (a == sysModules) = false ∧ ∃ vs, KV kvs vs ∧ h.DictOf (mixKind P w) a vs :=
  show ObjOk P w H h a (.dK kvs) from rd_of ok e
theorem dk_of {kvs : List (Key × V)} (ok : HOk P w H h) (e : H a = some (.dK kvs)) : kvs.length ≤ sizeLine ∧ (a == sysModules) = false ∧ ∃ vs, KV kvs vs ∧ h.DictOf (mixKind P w) a vs := dk_rd ok (.inl e)
theorem key_of {ks : List Key} (ok : HOk P w H h) (e : H a = some (.tup (ks.map kV))) : (tupleKind (mixKind P w)).is h ks a := by
  obtain ⟨_, its, r, o, h1, h2, n, h3⟩ := (show ObjOk P w H h a (.tup (ks.map kV)) from ok a _ e)
  exact ⟨o, its.toArray, n, h1, h2, h3, by simpa using items_are r⟩
theorem dt_rd {kvs : List (List Key × V)} (ok : HOk P w H h) (e : Rd H a (.dT kvs)) : kvs.length ≤ sizeLine ∧ (a == sysModules) = false ∧
    ∃ xs, KT H kvs xs ∧ h.DictOfH (tupleKind (mixKind P w)) a xs := by
  obtain ⟨z, y, xs, r, o, es, ep, h1, h2, h3, h4, h5⟩ := (show ObjOk P w H h a (.dT kvs) from rd_of ok e)
  refine ⟨z, y, xs, r, o, es, ep, h1, h2, h3, h4, fun x hx => ?_, h5⟩
  have all : ∀ {l : List (List Key × V)} {m : List (List Key × Addr × Value)}, KT H l m → ∀ x ∈ m, (tupleKind (mixKind P w)).is h x.1 x.2.1 := by
    intro l m q
    induction q with
    | nil => intro x hx; exact nomatch hx
    | @cons p q ps qs hq t ih =>
      intro x hx
      rcases List.mem_cons.mp hx with e | hx
      · subst e
        exact key_of ok (by rw [← hq.1]; exact hq.2.1)
      · exact ih x hx
  exact all r x hx
theorem dt_of {kvs : List (List Key × V)} (ok : HOk P w H h) (e : H a = some (.dT kvs)) : kvs.length ≤ sizeLine ∧ (a == sysModules) = false ∧
    ∃ xs, KT H kvs xs ∧ h.DictOfH (tupleKind (mixKind P w)) a xs := dt_rd ok (.inl e)
end
def DGet (H : Hp) (a : Addr) (y : V) (r : Option V) : Prop :=
  (∃ kvs k, Rd H a (.dK kvs) ∧ y = kV k ∧ r = valV kvs k) ∨ ∃ kvs k b, Rd H a (.dT kvs) ∧ y = .ref b ∧ H b = some (.tup (k.map kV)) ∧ r = valV kvs k
def DPut (H : Hp) (a : Addr) (y v : V) (H' : Hp) : Prop :=
  (∃ kvs k, H a = some (.dK kvs) ∧ y = kV k ∧ kvs.length < sizeLine ∧ H' = upd H a (.dK (putK kvs k v))) ∨
  ∃ kvs k b, H a = some (.dT kvs) ∧ y = .ref b ∧ H b = some (.tup (k.map kV)) ∧ kvs.length < sizeLine ∧ H' = upd H a (.dT (putK kvs k v))
theorem DGet.k {H : Hp} {a : Addr} {kvs : List (Key × V)} {k : Key} (e : H a = some (.dK kvs)) : DGet H a (kV k) (valV kvs k) := .inl ⟨kvs, k, .inl e, rfl, rfl⟩
theorem DGet.t {H : Hp} {a b : Addr} {kvs : List (List Key × V)} {k : List Key} (e : H a = some (.dT kvs)) (eb : H b = some (.tup (k.map kV))) : DGet H a (.ref b) (valV kvs k) := .inr ⟨kvs, k, b, .inl e, rfl, eb, rfl⟩
theorem DPut.k {H : Hp} {a : Addr} {kvs : List (Key × V)} {k : Key} {v : V} (e : H a = some (.dK kvs)) (hl : kvs.length < sizeLine) : DPut H a (kV k) v (upd H a (.dK (putK kvs k v))) := .inl ⟨kvs, k, e, rfl, hl, rfl⟩
theorem DPut.t {H : Hp} {a b : Addr} {kvs : List (List Key × V)} {k : List Key} {v : V} (e : H a = some (.dT kvs)) (eb : H b = some (.tup (k.map kV))) (hl : kvs.length < sizeLine) :
    DPut H a (.ref b) v (upd H a (.dT (putK kvs k v))) := .inr ⟨kvs, k, b, e, rfl, eb, hl, rfl⟩
section
variable {X : Cx} {pins : List (Addr × Obj)} {σ : St} {H : Hp} {s : Shared} {a : Addr} {y v : V} {u r : Value} {o : Option V} {A : Around} {E : Value → Shared → Prop}
theorem Inv.big (I : Inv X pins σ H s) : sysModules < s.heap.objs.size := by
  have h : mainGlobals < s.heap.objs.size := (I.mod.glob.keeps I.bk).lt
  exact Nat.lt_trans (by decide) h
theorem d_getItem {Q : Value → Shared → Prop} (hu : A.units + 1 < cLine) (I : Inv X pins σ H s) (g : DGet H a y (some v)) (ry : RelV y u) (h : ∀ w' s', Inv X pins σ H s' → RelV v w' → Q w' s') :
    wpAny (model X.prog X.w) A (getItem (.ref a) u) Q E s := by
  rcases g with ⟨kvs, k, e, ey, l⟩ | ⟨kvs, k, b, e, ey, eb, l⟩
  · subst ey
    obtain ⟨z, hd, vs, rel, dd⟩ := dk_rd I.hok e
    obtain ⟨w', hw, rw'⟩ := RelO.some_of (v := v) (o := valueAt vs k) (by rw [l]; exact rel.val k)
    exact wpAny_getItem_of (kV_is ry) dd.mapOf hw (h w' _ (I.tok _) rw')
  · subst ey
    cases (show u = Value.ref b from ry)
    obtain ⟨z, hd, xs, rel, dd⟩ := dt_rd I.hok e
    obtain ⟨w', hw, rw'⟩ := RelO.some_of (v := v) (o := (atKey xs k).map (·.2)) (by rw [l]; exact rel.val k)
    obtain ⟨p, hp, hp2⟩ := Option.map_eq_some_iff.mp hw
    refine wpAny_getItem_heap (tupleKind_room_in1 hu) (key_of I.hok eb) dd hp ?_
    rw [hp2]
    exact h w' _ (I.tok _) rw'
theorem d_in {Q : Value → Shared → Prop} (hu : A.units + 1 < cLine) (I : Inv X pins σ H s) (g : DGet H a y o) (ry : RelV y u) (h : ∀ s', Inv X pins σ H s' → Q (.bool o.isSome) s') :
    wpAny (model X.prog X.w) A (compareOp .In u (.ref a)) Q E s := by
  rcases g with ⟨kvs, k, e, ey, l⟩ | ⟨kvs, k, b, e, ey, eb, l⟩
  · subst ey
    obtain ⟨z, hd, vs, rel, dd⟩ := dk_rd I.hok e
    refine wpAny_in_of (kV_is ry) hd dd.mapOf ?_
    rw [← (rel.val k).isSome_eq, ← l]
    exact h _ (I.tok _)
  · subst ey
    cases (show u = Value.ref b from ry)
    obtain ⟨z, hd, xs, rel, dd⟩ := dt_rd I.hok e
    refine wpAny_in_heap (tupleKind_room_in1 hu) (key_of I.hok eb) hd dd ?_
    have q := (rel.val k).isSome_eq
    rw [Option.isSome_map] at q
    rw [← q, ← l]
    exact h _ (I.tok _)
theorem d_write {h' : Heap} {t' : Nat} {ob : HO} (I : Inv X pins σ H s) (mu : Mut (H a)) (hs : Heap.SameBut a s.heap h') (he : ∃ q, h'.get? a = some q) (new : ObjOk X.prog X.w (upd H a ob) h' a ob) :
    Inv X pins σ (upd H a ob) { s with heap := h', toks := t' } :=
  I.write (x := a) (e := a) mu (.inl rfl) (fun b q hb z => (hs.2 b hb).trans z) he new
theorem dk_new {P : Program} {w : World} {H' : Hp} {h' : Heap} {kvs : List (Key × V)} {vs : List (Key × Value)} (z : kvs.length ≤ sizeLine) (hd : (a == sysModules) = false) (rel : KV kvs vs) (dd : h'.DictOf (mixKind P w) a vs) :
    ObjOk P w H' h' a (.dK kvs) := ⟨z, hd, vs, rel, dd⟩
theorem d_setItem {H' : Hp} {Q : Unit → Shared → Prop} (hu : A.units + 1 < cLine) (I : Inv X pins σ H s) (g : DPut H a y v H') (ry : RelV y u) (rv : RelV v r) (h : ∀ s', Inv X pins σ H' s' → Q () s') :
    wpAny (model X.prog X.w) A (setItem (.ref a) u r) Q E s := by
  rcases g with ⟨kvs, k, e, ey, l, eH⟩ | ⟨kvs, k, b, e, ey, eb, l, eH⟩
  · subst ey eH
    obtain ⟨z, hd, vs, rel, dd⟩ := dk_of I.hok e
    have hz : vs.length ≤ sizeLine := by rw [← rel.length]; exact z
    have hl : (putK kvs k v).length ≤ sizeLine := by have := length_putK kvs k v; omega
    refine wpAny_setItem_pairs (hsz := hz) (kV_is ry) dd fun h' dd' hs => h _ ?_
    have he : ∃ q, h'.get? a = some q := let ⟨q, _, _, hq, _⟩ := dd'; ⟨q, hq⟩
    exact d_write I (by rw [e]; exact True.intro) hs he (dk_new hl hd (rel.put k rv) dd')
  · subst ey eH
    cases (show u = Value.ref b from ry)
    obtain ⟨z, hd, xs, rel, dd⟩ := dt_of I.hok e
    have hz : xs.length ≤ sizeLine := by rw [← Paired.length rel]; exact z
    have hl : (putK kvs k v).length ≤ sizeLine := by have := length_putK kvs k v; omega
    refine wpAny_setItem_heap (hsz := hz) (tupleKind_room_in1 hu) (key_of I.hok eb) dd fun h' dd' hs => h _ ?_
    obtain ⟨q, es, ep, hq, h2, h3, h4, _, h5⟩ := dd'
    refine d_write I (by rw [e]; exact True.intro) hs ⟨q, hq⟩ ⟨hl, hd, _, (rel.put k eb rv).keeps fun c ys ec => ?_, q, es, ep, hq, h2, h3, h4, h5⟩
    rw [upd_ne (ne_of ec e (fun z => nomatch z))]
    exact ec
end
def NoSl (i : Expr) : Prop := ∀ ov iv, subscripted i false ov iv = operate [ov, iv] (getItem ov iv)
theorem subD_of {prog : Program} {w : World} {A : Around} {E : Value → Shared → Prop} {s : Shared} {env : Env} {value slice : Expr} {pos : Pos} {T id : String} {Q : Value → Shared → Prop}
    (hl : typeLookup (.type T) "__getitem__" = pure (some (.builtin id))) (hs : NoSl slice)
    (h : wpAny (model prog w) A (eval value env) (fun o s₁ => wpAny (model prog w) A (eval slice env) (fun i s₂ => s₂.TypeIs o T ∧ wpAny (model prog w) A (getItem o i) Q E s₂) E s₁) E s) :
    wpAny (model prog w) A (eval (.Subscript value slice pos) env) Q E s := by
  refine Subscript_ (wpAny_mono h (fun o s₁ h₁ => wpAny_mono h₁ (fun i s₂ h₂ => ?_) fun _ _ x => x) fun _ _ x => x)
  obtain ⟨hT, h₂⟩ := h₂
  unfold subscriptTail
  refine wpAny_bind ?_
  rw [getitemInPython_of_ne hT.not_modules]
  refine wpAny_bind (wpAny_specialOf hT hl ?_)
  have fin : wpAny (model prog w) A (subscripted slice false o i) (fun r s₃ => wpAny (model prog w) A (letTemporaryGo value o r >>= fun _ => pure r) Q E s₃) E s₂ := by
    rw [hs o i]
    exact wpAny_operating (wpAny_mono h₂ (fun r s₃ h₃ => wpAny_bind (wpAny_letTemporaryGo (wpAny_pure h₃))) fun _ _ x => x)
  first
    | exact wpAny_pure (wpAny_bind fin)
    | exact wpAny_bind (wpAny_pure (wpAny_bind fin))
    | exact wpAny_bind fin
theorem dict_typeIs {X : Cx} {pins : List (Addr × Obj)} {σ : St} {H : Hp} {s : Shared} {a : Addr} {y : V} {o : Option V} (I : Inv X pins σ H s) (g : DGet H a y o) : s.TypeIs (.ref a) "dict" := by
  rcases g with ⟨kvs, k, e, _, _⟩ | ⟨kvs, k, b, e, _, _, _⟩
  · obtain ⟨_, _, vs, _, dd⟩ := dk_rd I.hok e
    exact dd.typeIs
  · obtain ⟨_, _, xs, _, dd⟩ := dt_rd I.hok e
    exact dd.typeIs
def tDGet (td ty : TE) : TE := fun σ H Q => td σ H fun x H1 => ty σ H1 fun y H2 => ∃ a v, x = .ref a ∧ DGet H2 a y (some v) ∧ Q v H2
def tDIn (ty td : TE) : TE := fun σ H Q => ty σ H fun y H1 => td σ H1 fun x H2 => ∃ a o, x = .ref a ∧ DGet H2 a y o ∧ Q (.bl o.isSome) H2
def sDPut (td ty tv : TE) : TS := fun D σ H => tv σ H fun v H1 => td σ H1 fun x H2 => ty σ H2 fun y H3 => ∃ a H4, x = .ref a ∧ DPut H3 a y v H4 ∧ D.nx σ H4
section
variable {X : Cx} {o i e value : Expr} {pos pos' tpos : Pos} {td ty tv : TE}
theorem pe_dget (hu : X.A.units + 1 < cLine) (ho : PE X o td) (hi : PE X i ty) (hs : NoSl i) : PE X (.Subscript o i pos) (tDGet td ty) := by
  intro pins s σ H Q I h
  refine subD_of PySem.F.slot_dict_getitem.lookup hs (thn (ho pins s σ H _ I h) fun u s1 ⟨x, H1, I1, rx, q1⟩ => thn (hi pins s1 σ H1 _ I1 q1) fun iv s2 ⟨y, H2, I2, ry, a, v, ex, g, q2⟩ => ?_)
  subst ex
  obtain rfl : u = Value.ref a := rx
  exact ⟨dict_typeIs I2 g, d_getItem hu I2 g ry fun w' s3 I3 rw' => ⟨v, H2, I3, rw', q2⟩⟩
theorem pc_din (hu : X.A.units + 1 < cLine) (hi : PE X i ty) (ho : PE X o td) : PC X .In i o (tDIn ty td) := by
  intro pins s σ H Q I h
  refine thn (hi pins s σ H _ I h) fun iv s1 ⟨y, H1, I1, ry, q1⟩ => thn (ho pins s1 σ H1 _ I1 q1) fun u s2 ⟨x, H2, I2, rx, a, ov, ex, g, q2⟩ => ?_
  subst ex
  obtain rfl : u = Value.ref a := rx
  exact d_in hu I2 g ry fun s3 I3 => ⟨.bl ov.isSome, H2, I3, rfl, q2⟩
theorem ps_dput (hu : X.A.units + 1 < cLine) (ho : PE X o td) (hi : PE X i ty) (hv : PE X value tv) (hs : swapsWith value (some (.Subscript o i pos')) pos.line X.env = pure false) :
    PS X (.Assign [.Subscript o i pos'] value pos) (sDPut td ty tv) := by
  intro pins s σ H D I h
  refine wpAny_Assign_Subscript (thn (hv pins s σ H _ I h) fun r s1 ⟨v, H1, I1, rv, q1⟩ => thn (ho pins s1 σ H1 _ I1 q1) fun u s2 ⟨x, H2, I2, rx, q2⟩ => thn (hi pins s2 σ H2 _ I2 q2) fun iv s3 ⟨y, H3, I3, ry, a, H4, ex, g, q3⟩ => ?_) hs
  subst ex
  obtain rfl : u = Value.ref a := rx
  exact d_setItem hu I3 g ry rv fun s4 I4 => ⟨σ, H4, I4, q3⟩
end
theorem dk_empty {P : Program} {w : World} {H : Hp} (h : Heap) (hb : sysModules < h.objs.size) : ObjOk P w H (h.push { cls := .type "dict", data := .dict #[] }) h.objs.size (.dK []) :=
  ⟨Nat.zero_le _, beq_eq_false_iff_ne.mpr (Ne.symm (Nat.ne_of_lt hb)), [], .nil, Heap.DictOf.new h⟩
def tDNewK : TE := fun _ H Q => ∀ p, H p = none → Q (.ref p) (upd H p (.dK []))
section
variable {X : Cx} {pos : Pos}
theorem pe_dnewK : PE X (.Dict [] [] pos) tDNewK := fun pins s σ H Q I h =>
  wpAny_Dict_empty ⟨.ref s.heap.objs.size, _, I.laid (a := s.heap.objs.size) (o := .dK []) (t' := s.toks) (fun _ _ q => Heap.get?_push_of_some _ q) (Nat.le_refl _) (dk_empty s.heap I.big), rfl, h _ (I.hok.fresh (Nat.le_refl _))⟩
end
structure M1 (X : Cx) (o : Expr) (m : Str) (apos : Pos) (e : Expr) (cpos : Pos) : Prop where
  base : attributeBase o m X.env (eval o X.env) = eval o X.env
  few : ((backTo cpos (starEach [e] X.env)).all (fun x => !x.1) && (backToKw cpos (keywordEach [] X.env)).all (fun x => x.1.isSome)
    && decide (([e] : List Expr).length + ([] : List Keyword).length + (if ([] : List Keyword).isEmpty then 0 else 1) < 30)) = true
  line : (apos.endLine == cpos.line) = true
  trees : backTo cpos (starEach [e] X.env) = [(false, eval e X.env)]
structure M2 (X : Cx) (o : Expr) (m : Str) (apos : Pos) (e f : Expr) (cpos : Pos) : Prop where
  base : attributeBase o m X.env (eval o X.env) = eval o X.env
  few : ((backTo cpos (starEach [e, f] X.env)).all (fun x => !x.1) && (backToKw cpos (keywordEach [] X.env)).all (fun x => x.1.isSome)
    && decide (([e, f] : List Expr).length + ([] : List Keyword).length + (if ([] : List Keyword).isEmpty then 0 else 1) < 30)) = true
  line : (apos.endLine == cpos.line) = true
  trees : backTo cpos (starEach [e, f] X.env) = [(false, eval e X.env), (false, eval f X.env)]
end L2
namespace Att
open PySem PySem.W PySem.Calls PyProof.Rows
theorem ints_of_wellAll {P : Params} {h : Heap} : ∀ (ns : List Int) (vs : List Value), WellAll P h vs (ns.map WData.int) → IntsAre vs ns := by
  intro ns
  induction ns with
  | nil =>
    intro vs w
    rw [List.map_nil] at w
    cases w
    exact .nil
  | cons n ns ih =>
    intro vs w
    rw [List.map_cons] at w
    cases w with
    | cons a b =>
      cases a
      exact .cons _ _ (ih _ b)
theorem script_of {l : OpenLaw} {n : Nat} (hn : l.most = some n) {P : Params} {h : Heap} {args : List WData} {vals : List Value}
    (hpre : l.row.toRowW.claim.pre args = true) (hwl : WellAll P h vals args) :
    ∃ a vs ns, vals = [Value.ref a] ∧ args = [WData.list (ns.map WData.int)] ∧ h.get? a = some { cls := .type "list", data := .seq vs.toArray } ∧ IntsAre vs ns ∧ ns.length ≤ n := by
  have hsh : WShape.hasAll [] args [.list .int] = true := (pre_splitW hpre).1
  have hc : l.pre.holds [] { args := args } = true := (pre_splitW hpre).2
  obtain ⟨d, r, rfl, h1, h2⟩ := hasAllW_cons hsh
  obtain rfl := hasAllW_nil h2
  obtain ⟨xs, rfl, h3⟩ := hasW_list h1
  obtain ⟨ns, rfl⟩ := items_int h3
  have hlen : ns.length ≤ n := by
    unfold OpenLaw.pre at hc
    have h4 : (WTm.not (.lt (.lit (.int (n : Int))) (.len (.arg 0)))).holds [] { args := [.list (ns.map .int)] } = true := by
      have h4 := (holds_andW hc).1
      rw [hn] at h4
      exact h4
    have h5 := condW_of h4 (w_not (w_lt w_lit (w_len_list (w_arg rfl))))
    rw [List.length_map] at h5
    refine Nat.le_of_not_lt fun q => ?_
    have q' : (n : Int) < ((ns.length : Nat) : Int) := by omega
    first
      | (rw [decide_eq_true q'] at h5; exact absurd h5 (by decide))
      | (simp at h5; omega)
  cases hwl with
  | cons w1 w2 =>
    cases w2
    cases w1 with
    | list ho hall => exact ⟨_, _, ns, rfl, rfl, ho, ints_of_wellAll ns _ hall, hlen⟩
theorem post_true (l : OpenLaw) (args : List WData) : l.row.toRowW.claim.post args (.bool true) args = true :=
  postW_of (r := l.row.toRowW) (X := (true == true))
    (show WShape.has [] (.bool true) .bool = true by first | rfl | decide | simp [WShape.has, WShape.arms, WShape.armsAll])
    (show (WTm.eq .res (.lit (.bool true))).value [] { args := args, res := some (.bool true), after := args } = some (.bool (true == true)) from w_eq_bool (w_res rfl) w_lit) rfl
theorem attach_call {l : OpenLaw} {n : Nat} {q : Program} {loose : List Str} {XP : (Str → Option Value) → Heap → Prop} {YP : World → Heap → Prop} {d : DefRec}
    (hn : l.most = some n) (hdf : d.params.defaults = [])
    (call : ∀ (w : World) (s₀ s₁ : Shared) (mg mb : Str → Option Value) (fa : Addr) (o : Obj) (pm cd doc : Value) (a : Addr) (vs : List Value) (ns : List Int),
      Ground q loose [] XP w s₀ mg mb s₁.heap → YP w s₁.heap →
      s₁.heap.get? fa = some o → o.data = .func (docDef d.name d.params d.body d.scope pm cd doc) → s₁.heap.CodeRec cd d.name → mg d.name = some (.ref fa) →
      s₁.heap.get? a = some { cls := .type "list", data := .seq vs.toArray } → IntsAre vs ns → ns.length ≤ n → s₁.gens = #[] →
      codeAny (model l.prog w) callerA (.call (.ref fa) ⟨[.ref a], []⟩) (fun r s' => r = .ok (.ret (.bool true)) ∧ OldK s₁.heap s'.heap ∧ s'.os = s₁.os ∧ AllBare s'.gens) s₁) :
    WalkO q loose XP YP l.row.toRowW d [] (fun f vs => PySem.call f vs) := by
  intro w s₀ s₁ mg mb G Y fa o pm cd doc dV kV ho hd hcd hD hmg hg args vals as hpre hlay hrd hwl hlo
  obtain rfl : dV = .none := Dflts.none hD hdf
  obtain rfl : kV = .none := Dflts.noKw hD
  obtain ⟨a, vs, ns, rfl, rfl, hobj, hints, hlen⟩ := script_of hn hpre hwl
  refine enter_call (codeAny_mono (call w s₀ s₁ mg mb fa o pm cd doc a vs ns G Y ho (fd_plain hd) hcd hmg hobj hints hlen hg) fun r s' hq => ?_)
  obtain ⟨rfl, h2, h3, h4⟩ := hq
  exact ⟨.inl ⟨.bool true, .bool true, [], rfl, fun _ => rfl, .bool true, post_true l _, fun _ => ⟨List.Pairwise.nil, fun _ hm => (nomatch hm)⟩⟩, h2, h3, h4⟩
end Att
namespace L2
open PySem PySem.Spec PyProof.Rows
theorem vals_ints : ∀ {vs : List Value} {ns : List Int}, IntsAre vs ns → Vals (ns.map V.int) vs
  | _, _, .nil => .nil
  | _, _, .cons n t h => .cons ⟨t, rfl⟩ (vals_ints h)
def Only (H : Hp) : Prop := ∀ b, H b = none ∨ ∃ o xs, H b = some (.frz o (.lst xs))
theorem law_call {P : Program} {w : World} {K : PySem.W.Frag} {mg mb : Str → Option Value} {CX : CXT} {k : Nat} {fa a : Addr} {fd : FuncData} {x : Str} {sp : Sp} {s₁ : Shared} {vs : List Value} {ns : List Int}
    (KX : K.In s₁.heap) (hns : s₁.heap.Ns mainGlobals mg) (hb : s₁.heap.Ns builtinsNs mb) (hbb : ∀ x : Str, x ≠ "__name__" → mb x = bootBuiltins x) (hlim : s₁.heap.NoLimit) (hg : s₁.gens = #[])
    (ha : s₁.heap.get? a = some { cls := .type "list", data := .seq vs.toArray }) (hi : IntsAre vs ns) (hl : ns.length ≤ sizeLine) (hr : Room k callerA)
    (F : ∀ base : Heap, K.In base → base.Ns mainGlobals mg → FnOk P w K mg base CX k fa fd [x] sp) (hbind : ∀ (s : Shared) (u : Value), BindsTo s fd ⟨[u], []⟩ [(x, u)])
    (hsp : ∀ H : Hp, Only H → SqL K H a (ns.map V.int) → sp [.ref a] H (fun v _ => v = .bl true) fun _ _ _ => False)
    (hCX : ∀ H e s', CX [] H s₁ (fun _ _ _ => False) e s' → False) :
    codeAny (model P w) callerA (.call (.ref fa) ⟨[.ref a], []⟩) (fun r s' => r = .ok (.ret (.bool true)) ∧ OldK s₁.heap s'.heap ∧ s'.os = s₁.os ∧ AllBare s'.gens) s₁ := by
  have rv := vals_ints hi
  have lenV := hi.length
  have core : ∀ H : Hp, Only H → SqL K H a (ns.map V.int) → HOk P w H s₁.heap → (∀ b, H b ≠ none → b = a) → (H a ≠ none → K.lookup a = none) →
      codeAny (model P w) callerA (.call (.ref fa) ⟨[.ref a], []⟩) (fun r s' => r = .ok (.ret (.bool true)) ∧ OldK s₁.heap s'.heap ∧ s'.os = s₁.os ∧ AllBare s'.gens) s₁ := by
    intro H hO hS hok hA hK
    have base_of : ∀ {b : Addr} {o : Obj}, s₁.heap.get? b = some o → H b = none → (hidT s₁.heap H).get? b = some o := fun e n => hidT_get e n
    have noA : ∀ {b : Addr} {o : Obj} {es : Array DictEntry} {ep : Nat}, s₁.heap.get? b = some o → o.data = .dict es ep → H b = none := fun {b o es ep} e d => by
      cases q : H b with
      | none => rfl
      | some u =>
        have e' : b = a := hA b (by rw [q]; simp)
        subst e'
        rw [ha] at e; cases e
        have d' : Data.seq vs.toArray _ = Data.dict es ep := d
        cases d'
    have nsK : ∀ {b : Addr} {m : Str → Option Value}, s₁.heap.Ns b m → (hidT s₁.heap H).Ns b m := fun {b m} ⟨o, es, ep, e, d, r⟩ => ⟨o, es, ep, base_of e (noA e d), d, r⟩
    have hKb : K.In (hidT s₁.heap H) := fun b o e => base_of (KX b o e) (by
      cases q : H b with
      | none => rfl
      | some u =>
        have e' : b = a := hA b (by rw [q]; simp)
        subst e'
        rw [hK (by rw [q]; simp)] at e; cases e)
    have hM : Mod K mg (hidT s₁.heap H) := ⟨hKb, nsK hns, ⟨mb, nsK hb, hbb⟩, let ⟨mc, h1, h2⟩ := hlim; ⟨mc, nsK h1, h2⟩⟩
    have e0 : Env0 P w K mg (hidT s₁.heap H) callerA [] s₁ H := ⟨rfl, hM, fun b o e => of_hidT e, Nat.le_of_eq (hidT_size _ _), trivial, fun b hb => absurd (show b ∈ ([] : List Addr) from hb) (by simp), hok, .of_eq hg⟩
    refine codeAny_mono ((F _ hKb (nsK hns)).run callerA [] s₁ H ⟨[.ref a], []⟩ [.ref a] [.ref a] _ _ hr e0 (hbind s₁ (.ref a)) (.cons rfl .nil) (hsp H hO hS)) fun r s' h => ?_
    cases r with
    | error e => exact (hCX H e s' h).elim
    | ok fl =>
      cases fl with
      | next => exact False.elim h
      | brk => exact False.elim h
      | cont => exact False.elim h
      | ret u =>
        obtain ⟨v, H', os, bare, un, hok', r', q⟩ := h
        have q' : v = .bl true := q
        subst q'
        obtain rfl : u = Value.bool true := r'
        refine ⟨rfl, OldK.of_keep fun b o e => ?_, os, bare⟩
        cases q : H b with
        | none => exact un.keep b o e q (by intro z; exact absurd (show b ∈ ([] : List Addr) from z) (by simp)) (by simp)
        | some u =>
          rcases hO b with z | ⟨ob, xs, z⟩
          · rw [q] at z; cases z
          · have z2 := un.frzs b ob _ z
            obtain ⟨e1, _⟩ := hok b _ z
            obtain ⟨e2, _⟩ := hok' b _ z2
            rw [e] at e1; cases e1
            exact e2
  cases hk : K.lookup a with
  | some o =>
    have e := KX a o hk
    rw [ha] at e
    cases e
    refine core (fun _ => none) (fun _ => .inl rfl) (.inr ⟨_, vs.toArray, _, hk, rfl, rfl, rfl, by rw [List.size_toArray, lenV]; exact hl, by simpa using rv⟩) (fun b u z => by have z' : (none : Option HO) = some u := z; cases z') (fun b z => absurd rfl z) fun z => absurd rfl z
  | none =>
    refine core (fun b => if b = a then some (.frz { cls := .type "list", data := .seq vs.toArray } (.lst (ns.map V.int))) else none) (fun b => ?_) (.inl (.inr ⟨{ cls := .type "list", data := .seq vs.toArray }, if_pos rfl⟩)) (fun b u z => ?_) (fun b z => ?_) fun _ => hk
    · by_cases hb : b = a
      · exact .inr ⟨_, _, if_pos hb⟩
      · exact .inl (if_neg hb)
    · by_cases hb : b = a
      · have z' := (if_pos hb).symm.trans z
        cases z'
        subst hb
        exact ⟨ha, by rw [List.length_map]; exact hl, vs, _, rv, ha⟩
      · have z' := (if_neg hb).symm.trans z
        cases z'
    · by_cases hb : b = a
      · exact hb
      · exact absurd (if_neg hb) z
end L2
namespace L2
open PySem PySem.Spec PyProof.Rows
theorem walk_of {l : PySem.W.OpenLaw} {n k : Nat} {q : Program} {loose : List Str} {XP : (Str → Option Value) → Heap → Prop} {YP : World → Heap → Prop} {d : DefRec} {K : Params → PySem.W.Frag} {CX : World → CXT} {sp : World → Sp} {x : Str}
    (hn : l.most = some n) (hn2 : n ≤ sizeLine) (hdf : d.params.defaults = []) (hr : Room k callerA)
    (hY : ∀ (w : World) (h : Heap), YP w h → (K w.params).In h)
    (F : ∀ (w : World) (mg : Str → Option Value) (fa : Addr) (h : Heap), (K w.params).In h → h.Ns mainGlobals mg → mg d.name = some (.ref fa) →
      ∃ fd : FuncData, (∀ (s : Shared) (u : Value), BindsTo s fd ⟨[u], []⟩ [(x, u)]) ∧
        ∀ base : Heap, (K w.params).In base → base.Ns mainGlobals mg → FnOk l.prog w (K w.params) mg base (CX w) k fa fd [x] (sp w))
    (hsp : ∀ (w : World) (H : Hp) (a : Addr) (ns : List Int), ns.length ≤ n → Only H → SqL (K w.params) H a (ns.map V.int) → sp w [.ref a] H (fun v _ => v = .bl true) fun _ _ _ => False)
    (hCX : ∀ (w : World) (H : Hp) (s : Shared) (e : Value) (s' : Shared), CX w [] H s (fun _ _ _ => False) e s' → False) :
    PySem.W.WalkO q loose XP YP l.row.toRowW d [] (fun f vs => PySem.call f vs) := by
  refine Att.attach_call hn hdf fun w s₀ s₁ mg mb fa o pm cd doc a vs ns G Y ho hd hcd hmg hobj hints hlen hg => ?_
  have KX := hY w _ Y
  obtain ⟨fd, hb, hF⟩ := F w mg fa _ KX G.T.g hmg
  exact law_call KX G.T.g G.T.b G.T.builtins G.T.nolimit hg hobj hints (Nat.le_trans hlen hn2) hr hF hb (fun H hO hS => hsp w H a ns hlen hO hS) fun H e s' => hCX w H s₁ e s'
end L2
namespace L2
open PySem PySem.Spec PyProof.Rows
def defArgs (s : Stmt) : Arguments := match s with
  | .FunctionDef _ a _ _ _ _ _ _ _ _ => a
  | _ => { posonlyargs := [], args := [], vararg := none, kwonlyargs := [], kw_defaults := [], kwarg := none, defaults := [] }
def defBody (s : Stmt) : List Stmt := match s with
  | .FunctionDef _ _ b _ _ _ _ _ _ _ => b
  | _ => []
def defScope (s : Stmt) : Scope := match s with
  | .FunctionDef _ _ _ _ _ _ sc _ _ _ => sc
  | _ => { kind := .function, names := [], isGenerator := false, isCoroutine := false }
abbrev CX0 : CXT := fun _ _ _ _ _ _ => False
abbrev E0 : XK := fun _ _ _ => False
theorem pass0 {X : Cx} : Passes CX0 X E0 := fun _ _ _ _ _ _ _ h => h.elim
structure Fun (K : PySem.W.Frag) (x qual : Str) (st : Stmt) (f : Addr) (fd : FuncData) : Prop where
  ex : ∃ (oc : Value) (od : Option Addr) (kV doc pm : Value) (an : Option Addr) (cdv ct : Value) (osl : Array (Option Value)),
    fd = PySem.W.fnOf x qual (defArgs st) (defBody st) (defScope st) .none kV doc pm an cdv ct ∧ K.lookup f = some ⟨oc, od, .func fd, osl⟩ ∧ PySem.W.codeIn K cdv qual = true
  kp : PySem.W.keepIn K (.ref f) = true
section
variable {P : Program} {w : World} {K : PySem.W.Frag} {mg : Str → Option Value} {base : Heap}
theorem Fun.ok {x qual : Str} {st : Stmt} {f : Addr} {fd : FuncData} {N ps : List Str} {k : Nat} {sp : Sp} (F : Fun K x qual st f fd) (S : FnScope N ps (defScope st)) (len : ∀ vs H Q E, sp vs H Q E → vs.length = ps.length)
    (hbody : ∀ (cdv : Value) (A : Around) (outer : List Env) (s : Shared) (H : Hp) (vs : List V) (Q : VK) (E : XK), Room k (A.deeper (envOfC qual (defScope st) s.heap.objs.size f cdv)) → sp vs H Q E →
      ∃ t, PSs (cxOf CX0 P w K mg base N qual (defScope st) f cdv A outer s H E).nox (defBody st) t ∧ t { nx := fun _ H' => Q .non H', rt := Q } (start N vs) H) : FnOk P w K mg base CX0 (k + 1) f fd ps sp := by
  obtain ⟨oc, od, kV, doc, pm, an, cdv, ct, osl, rfl, lk, hcd⟩ := F.ex
  refine fn_of lk hcd S len fun A outer s H vs Q E hr hsp => ?_
  obtain ⟨t, h, q⟩ := hbody cdv A outer s H vs Q E hr hsp
  exact ⟨t, h.nox, q⟩
theorem Fun.binds {x qual : Str} {st : Stmt} {f : Addr} {fd : FuncData} {ps : List Str} (F : Fun K x qual st f fd)
    (h : ∀ (kV doc pm : Value) (an : Option Addr) (cdv ct : Value) (us : List Value), us.length = ps.length → bindArgs (PySem.W.fnOf x qual (defArgs st) (defBody st) (defScope st) .none kV doc pm an cdv ct) ⟨us, []⟩ = pure (ps.zip us)) : Binds K fd ps [] := by
  obtain ⟨oc, od, kV, doc, pm, an, cdv, ct, osl, rfl, lk, hcd⟩ := F.ex
  exact .all (h kV doc pm an cdv ct)
theorem fun_mk {x qual : Str} {st : Stmt} {f : Addr} {oc : Value} {od an : Option Addr} {osl : Array (Option Value)} {kV doc pm cdv ct : Value} (l : K.lookup f = some ⟨oc, od, .func (PySem.W.fnOf x qual (defArgs st) (defBody st) (defScope st) .none kV doc pm an cdv ct), osl⟩)
    (c : PySem.W.codeIn K cdv qual = true) (k : PySem.W.keepIn K (.ref f) = true) : Fun K x qual st f (PySem.W.fnOf x qual (defArgs st) (defBody st) (defScope st) .none kV doc pm an cdv ct) := ⟨⟨oc, od, kV, doc, pm, an, cdv, ct, osl, rfl, l, c⟩, k⟩
end
theorem hu_of {A : Around} {k : Nat} (hr : Room k A) : A.units + 1 < cLine := Nat.lt_of_le_of_lt (Nat.add_le_add_left (by decide : 1 ≤ 64) _) hr.units
def Same (H H' : Hp) : Prop := ∀ b o, H b = some o → H' b = some o
theorem Same.refl (H : Hp) : Same H H := fun _ _ h => h
theorem Same.trans {H H1 H2 : Hp} (a : Same H H1) (b : Same H1 H2) : Same H H2 := fun c o h => b c o (a c o h)
theorem Same.free {H H' : Hp} (e : Same H H') {l : Addr} (h : H' l = Option.none) : H l = Option.none := by
  cases q : H l with
  | none => rfl
  | some o =>
    rw [e l o q] at h
    cases h
theorem Same.seq {K : PySem.W.Frag} {H H' : Hp} {a : Addr} {xs : List V} (e : Same H H') (h : SqL K H a xs) : SqL K H' a xs := by
  rcases h with (h | ⟨o, h⟩) | h
  · exact .inl (.inl (e _ _ h))
  · exact .inl (.inr ⟨o, e _ _ h⟩)
  · exact .inr h
end L2
namespace HT
open PySem PyProof.Rows
section
variable {prog : Program} {w : World} {A : Around} {E : Value → Shared → Prop} {s : Shared}
theorem cat_tup {t b : Addr} {vs ws : List Value} {Q : Value → Shared → Prop} (ht : IsTup s.heap t vs.toArray) (hb : IsTup s.heap b ws.toArray) (hv : vs ≠ [])
    (h1 : ws = [] → Q (.ref t) s) (h2 : ws ≠ [] → Q (.ref s.heap.objs.size) { s with heap := s.heap.push { cls := .type "tuple", data := .seq (vs ++ ws).toArray } })
    (hsz : vs.length + ws.length ≤ sizeLine) : wpAny (model prog w) A (binaryOp .Add (.ref t) (.ref b)) Q E s := by
  obtain ⟨⟨cls, dd, data, sl⟩, ho, hc, n, hd⟩ := id ht
  obtain ⟨⟨cls2, dd2, data2, sl2⟩, ho2, hc2, n2, hd2⟩ := id hb
  simp only at hc hd hc2 hd2
  subst hc hd hc2 hd2
  have e : vs.toArray ++ ws.toArray = (vs ++ ws).toArray := by simp
  by_cases hw : ws = []
  · exact concat_meets ⟨_, ho, rfl⟩ ⟨_, ho2, rfl⟩ noFill_tuple_add seq_tuple_add PySem.F.slot_tuple_add PySem.F.entry_tuple_add (PySem.F.args_tuple_add_2 _ _)
      (tuple_addW1 t b vs.toArray ws.toArray n n2 dd dd2 sl sl2 (by simpa using hv) (by simp [hw])) ⟨ho, ho2, h1 hw⟩
  · refine concat_meets ⟨_, ho, rfl⟩ ⟨_, ho2, rfl⟩ noFill_tuple_add seq_tuple_add PySem.F.slot_tuple_add PySem.F.entry_tuple_add (PySem.F.args_tuple_add_2 _ _)
      (tuple_addW2 t b vs.toArray ws.toArray n n2 dd dd2 sl sl2 (by simpa using hv) (by simpa using hw) (by rw [List.size_toArray, List.size_toArray]; exact hsz)) ⟨ho, ho2, ?_⟩
    rw [e]
    exact h2 hw
def sIx (n d : Nat) : Option Int → Nat
  | none => d
  | some v => if v < 0 then (v + (n : Int)).toNat else min v.toNat n
theorem sIx_le (n d : Nat) (hd : d ≤ n) (o : Option Int) : sIx n d o ≤ n := by
  cases o with
  | none => exact hd
  | some v =>
    show (if v < 0 then (v + (n : Int)).toNat else min v.toNat n) ≤ n
    by_cases hv : v < 0
    · rw [if_pos hv]; omega
    · rw [if_neg hv]; exact Nat.min_le_right _ _
theorem clip_eq (v : Int) (n d : Nat) : (if v < 0 then max (v + (n : Int)) 0 else min v (n : Int)) = ((sIx n d (some v) : Nat) : Int) := by
  show (if v < 0 then max (v + (n : Int)) 0 else min v (n : Int)) = (((if v < 0 then (v + (n : Int)).toNat else min v.toNat n) : Nat) : Int)
  by_cases hv : v < 0
  · simp only [if_pos hv]; omega
  · simp only [if_neg hv]; omega
theorem adjust_gen (lo hi : Option Int) (n : Nat) : Builtin.Slice.sliceAdjust lo hi 1 (n : Int) = (((sIx n 0 lo : Nat) : Int), ((sIx n n hi : Nat) : Int)) := by
  have h1 : ¬ ((1 : Int) < 0) := by omega
  unfold Builtin.Slice.sliceAdjust
  simp only [h1, if_false]
  refine Prod.ext ?_ ?_
  · cases lo with
    | none => rfl
    | some v => exact clip_eq v n 0
  · cases hi with
    | none => rfl
    | some v => exact clip_eq v n n
theorem places_gen (i j : Nat) : Builtin.Slice.slicePlaces (i : Int) (j : Int) 1 = j - i := by
  unfold Builtin.Slice.slicePlaces
  have h1 : (1 : Int) > 0 := by omega
  simp only [h1, if_true, Int.ediv_one]
  split <;> omega
theorem slicePart_ {v : Value} {o : Option Int} {Q : Option Int → Shared → Prop} (p : IsPart v o) (h : Q o s) : wpAny (model prog w) A (Builtin.Slice.slicePartIndex v) Q E s := by
  cases p with
  | none => exact slicePart_none h
  | int i t => exact slicePart_int h
theorem sliceApplied_gen {sl : Addr} {vl vu : Value} {lo hi : Option Int} {n : Nat} {Q : Int × Int × Nat → Shared → Prop} (hs : s.heap.IsSliceOf sl vl vu .none) (pl : IsPart vl lo) (pu : IsPart vu hi)
    (h : Q (((sIx n 0 lo : Nat) : Int), 1, sIx n n hi - sIx n 0 lo) s) : wpAny (model prog w) A (Builtin.Slice.sliceApplied (.ref sl) (pure (n : Int))) Q E s := by
  obtain ⟨os, hos, hcs, hds⟩ := id hs
  unfold Builtin.Slice.sliceApplied Builtin.Slice.sliceFields
  refine wpAny_bind (wpAny_bind (wpAny_field hos hds (x := vl) rfl (wpAny_bind (wpAny_field hos hds (x := vu) rfl (wpAny_bind (wpAny_field hos hds (x := .none) rfl (wpAny_pure ?_)))))))
  refine wpAny_bind (slicePart_none ?_)
  show wpAny _ _ (if ((1 : Int) == 0) = true then _ else _) _ _ s
  rw [if_neg (by decide)]
  refine wpAny_bind (slicePart_ pl (wpAny_bind (slicePart_ pu (wpAny_bind (wpAny_pure ?_)))))
  show wpAny _ _ (match Builtin.Slice.sliceAdjust lo hi 1 (n : Int) with | (lo, hi) => pure (lo, (1 : Int), Builtin.Slice.slicePlaces lo hi 1)) _ _ s
  rw [adjust_gen lo hi n]
  show wpAny _ _ (pure (((sIx n 0 lo : Nat) : Int), (1 : Int), Builtin.Slice.slicePlaces ((sIx n 0 lo : Nat) : Int) ((sIx n n hi : Nat) : Int) 1)) _ _ s
  rw [places_gen]
  exact wpAny_pure h
theorem pick_gen (xs : Array Value) (i k : Nat) : ((List.range k).filterMap fun (m : Nat) => xs[((i : Int) + (m : Int) * 1).toNat]?).toArray = ((xs.toList.drop i).take k).toArray := by
  have e : (fun (m : Nat) => xs[((i : Int) + (m : Int) * 1).toNat]?) = fun m => xs[i + m]? := by
    funext m
    have : ((i : Int) + (m : Int) * 1).toNat = i + m := by omega
    rw [this]
  rw [e]
  have := pick_run xs i k
  rw [List.filterMap_map] at this
  have e2 : ((fun x => xs[x]?) ∘ fun x => i + x) = fun m => xs[i + m]? := rfl
  rw [e2] at this
  rw [this]
theorem getItem_tuple_cut {t sl : Addr} {items : Array Value} {vl vu : Value} {lo hi : Option Int} {Q : Value → Shared → Prop} (ht : IsTup s.heap t items) (hs : s.heap.IsSliceOf sl vl vu .none) (pl : IsPart vl lo) (pu : IsPart vu hi)
    (hw : ¬ (sIx items.size 0 lo = 0 ∧ sIx items.size items.size hi = items.size))
    (h : Q (.ref s.heap.objs.size) { s with heap := s.heap.push { cls := .type "tuple", data := .seq ((items.toList.drop (sIx items.size 0 lo)).take (sIx items.size items.size hi - sIx items.size 0 lo)).toArray } })
    (hsz : items.size ≤ sizeLine) : wpAny (model prog w) A (getItem (.ref t) (.ref sl)) Q E s := by
  have htake : sizeOk (.seq ((items.toList.drop (sIx items.size 0 lo)).take (sIx items.size items.size hi - sIx items.size 0 lo)).toArray) := by
    show ((items.toList.drop (sIx items.size 0 lo)).take (sIx items.size items.size hi - sIx items.size 0 lo)).toArray.size ≤ sizeLine
    rw [List.size_toArray, List.length_take, List.length_drop, Array.length_toList]
    omega
  have hj : sIx items.size items.size hi ≤ items.size := sIx_le _ _ (Nat.le_refl _) hi
  obtain ⟨os, hos, hcs, hds⟩ := id hs
  have hTs : s.TypeIs (.ref sl) "slice" := ⟨os, hos, hcs⟩
  unfold getItem
  try with_reducible refine wpAny_holding ?_
  first | refine wpAny_bind (wpAny_pure ?_) | skip
  refine wpAny_bind (wpAny_sequenceKey ht.typeIs (by decide) ?_)
  refine wpAny_bind (wpAny_callSpecial?_slot (name := Str.ofString "__getitem__") ht.typeIs PyProof.Rows.slot_tuple_getitem
    (wpAny_call_entry PyProof.Rows.slot_tuple_getitem ht.typeIs entry_tuple_getitem ?_ (args_tuple_getitem _ _)))
  show wpAny _ _ (Builtin.Tuple.tupleItemsOf (.ref t) >>= _) _ _ s
  refine wpAny_bind (tupleItemsOf_ ht ?_)
  refine wpAny_bind (wpAny_typeOf hTs ?_)
  rw [if_pos (by decide)]
  refine wpAny_bind (sliceApplied_gen hs pl pu ?_)
  have hno : ¬ ((((sIx items.size 0 lo : Nat) : Int) == 0 && (1 : Int) == 1 && (sIx items.size items.size hi - sIx items.size 0 lo) == items.size) = true) := by
    intro q
    rw [Bool.and_eq_true, Bool.and_eq_true] at q
    have q1 : ((sIx items.size 0 lo : Nat) : Int) = 0 := eq_of_beq q.1.1
    have q2 : sIx items.size items.size hi - sIx items.size 0 lo = items.size := eq_of_beq q.2
    exact hw ⟨by omega, by omega⟩
  show wpAny _ _ (if (((sIx items.size 0 lo : Nat) : Int) == 0 && (1 : Int) == 1 && (sIx items.size items.size hi - sIx items.size 0 lo) == items.size) = true then _ else _) _ _ s
  rw [if_neg hno, pick_gen]
  first
    | exact wpAny_bind (m := Builtin.Tuple.tupleExact _) (wpAny_newObj_type (wpAny_pure ⟨_, rfl, wpAny_pure h⟩) htake)
    | exact wpAny_bind (m := Builtin.Tuple.tupleExact _) (wpAny_newObj_type (wpAny_bind (wpAny_pure (wpAny_pure ⟨_, rfl, wpAny_pure h⟩))) htake)
    | exact wpAny_bind (wpAny_bind (m := Builtin.Tuple.tupleExact _) (wpAny_newObj_type (wpAny_pure (wpAny_pure ⟨_, rfl, wpAny_pure h⟩)) htake))
    | exact wpAny_bind (wpAny_bind (m := Builtin.Tuple.tupleExact _) (wpAny_newObj_type (wpAny_pure ⟨_, rfl, wpAny_pure h⟩) htake))
end
end HT
namespace L2
open PySem PySem.Spec PyProof.Rows
abbrev TO := St → Hp → (Option Int → Hp → Prop) → Prop
def PO (X : Cx) (e : Option Expr) (t : TO) : Prop :=
  ∀ (pins : List (Addr × Obj)) (s : Shared) (σ : St) (H : Hp) (Q : Option Int → Hp → Prop), Inv X pins σ H s → t σ H Q →
    wpAny (model X.prog X.w) X.A (evalPart e X.env) (fun u s' => ∃ o H', Inv X pins σ H' s' ∧ IsPart u o ∧ Q o H') X.xe s
def tNoPart : TO := fun _ H Q => Q none H
def tPart (t : TE) : TO := fun σ H Q => t σ H fun x H1 => ∃ i, x = .int i ∧ Q (some i) H1
theorem intsAre_of {ns : List Int} : ∀ {us : List Value}, Vals (ns.map V.int) us → IntsAre us ns := by
  induction ns with
  | nil => intro us r; rw [List.map_nil] at r; cases r; exact .nil
  | cons n ns ih =>
    intro us r
    rw [List.map_cons] at r
    cases r with
    | cons r1 r2 =>
      obtain ⟨t, e⟩ := r1
      subst e
      exact .cons n t (ih r2)
section
variable {X : Cx} {e : Expr} {te : TE} {lo hi : Option Expr} {tl th : TO} {pos p2 : Pos}
theorem po_none : PO X none tNoPart := by
  intro pins s σ H Q I h
  rw [evalPart_none]
  exact wpAny_pure ⟨none, H, I, .none, h⟩
theorem po_some (h : PE X e te) : PO X (some e) (tPart te) := by
  intro pins s σ H Q I hw
  rw [evalPart_some]
  refine thn (h pins s σ H _ I hw) fun u s1 ⟨x, H1, I1, r1, q1⟩ => ?_
  obtain ⟨i, rfl, q⟩ := q1
  obtain ⟨t, rfl⟩ := r1
  exact ⟨some i, H1, I1, .int i t, q⟩
def SlR (X : Cx) (r : V → Option Int → Option Int → Hp → VK → Prop) : Prop :=
  ∀ (pins : List (Addr × Obj)) (s : Shared) (σ : St) (H : Hp) (x : V) (v vl vu : Value) (lo hi : Option Int) (sl : Addr) (Q : VK), Inv X pins σ H s → RelV x v → s.heap.IsSliceOf sl vl vu .none → IsPart vl lo → IsPart vu hi → r x lo hi H Q →
    ∃ T id, typeLookup (.type T) "__getitem__" = pure (some (.builtin id)) ∧ s.TypeIs v T ∧ wpAny (model X.prog X.w) X.A (getItem v (.ref sl)) (EP X pins σ Q) X.xe s
theorem SlR.or {r r' : V → Option Int → Option Int → Hp → VK → Prop} (h : SlR X r) (h' : SlR X r') : SlR X (fun x lo hi H Q => r x lo hi H Q ∨ r' x lo hi H Q) := by
  intro pins s σ H x v vl vu lo hi sl Q I rx hs pl pu q
  rcases q with q | q
  · exact h pins s σ H x v vl vu lo hi sl Q I rx hs pl pu q
  · exact h' pins s σ H x v vl vu lo hi sl Q I rx hs pl pu q
def tSl (r : V → Option Int → Option Int → Hp → VK → Prop) (te : TE) (tl th : TO) : TE := fun σ H Q => te σ H fun x H1 => tl σ H1 fun l H2 => th σ H2 fun u H3 => r x l u H3 Q
theorem pe_slice {r : V → Option Int → Option Int → Hp → VK → Prop} (hr : SlR X r) (he : PE X e te) (hl : PO X lo tl) (hu : PO X hi th) : PE X (.Subscript e (.Slice lo hi none p2) pos) (tSl r te tl th) := by
  intro pins s σ H Q I h
  refine Subscript_ (thn (he pins s σ H _ I h) fun v s1 ⟨x, H1, I1, r1, q1⟩ => ?_)
  refine wpAny_Slice (thn (hl pins s1 σ H1 _ I1 q1) fun vl s2 ⟨l, H2, I2, pl, q2⟩ => thn (hu pins s2 σ H2 _ I2 q2) fun vu s3 ⟨u, H3, I3, pu, q3⟩ => ?_)
  rw [evalPart_none]
  refine wpAny_pure ?_
  have I4 : Inv X pins σ H3 { s3 with heap := s3.heap.push { cls := .type "slice", data := .fields #[vl, vu, .none] } } := I3.kept (t' := s3.toks) fun b ob q => Heap.get?_push_of_some _ q
  obtain ⟨T, id, hT, ht, hg⟩ := hr pins { s3 with heap := s3.heap.push { cls := .type "slice", data := .fields #[vl, vu, .none] } } σ H3 x v vl vu l u s3.heap.objs.size Q I4 r1 (Heap.IsSliceOf.new ..) pl pu q3
  show wpAny (model X.prog X.w) X.A (subscriptTail e (.Slice lo hi none p2) v (.ref s3.heap.objs.size)) (EP X pins σ Q) X.xe { s3 with heap := s3.heap.push { cls := .type "slice", data := .fields #[vl, vu, .none] } }
  exact tail_any (ops := [.ref s3.heap.objs.size, v]) ht hT hg (by with_unfolding_all rfl)
def cutV (xs : List V) (lo hi : Option Int) : List V := (xs.drop (HT.sIx xs.length 0 lo)).take (HT.sIx xs.length xs.length hi - HT.sIx xs.length 0 lo)
theorem cutV_length (xs : List V) (lo hi : Option Int) : (cutV xs lo hi).length ≤ xs.length := by
  unfold cutV
  rw [List.length_take, List.length_drop]
  omega
def rSlT (K : PySem.W.Frag) : V → Option Int → Option Int → Hp → VK → Prop := fun x lo hi H Q => ∃ a xs, x = .ref a ∧ SqT K H a xs ∧
  ¬ (HT.sIx xs.length 0 lo = 0 ∧ HT.sIx xs.length xs.length hi = xs.length) ∧ ∀ p, H p = none → Q (.ref p) (upd H p (.tup (cutV xs lo hi)))
theorem sl_tup : SlR X (rSlT X.K) := by
  intro pins s σ H x v vl vu lo hi sl Q I rx hs pl pu h
  obtain ⟨a, xs, rfl, hx, hw, q⟩ := h
  cases rx
  obtain ⟨its, r, ht, hz⟩ := I.tuple hx
  have hlen : its.toArray.size = xs.length := by rw [List.size_toArray]; exact r.length.symm
  refine ⟨"tuple", _, PyProof.Rows.slot_tuple_getitem.lookup, ht.typeIs, ?_⟩
  refine HT.getItem_tuple_cut ht hs pl pu (by rw [hlen]; exact hw) ?_ (by rw [hlen]; exact hz)
  rw [hlen]
  refine ⟨.ref s.heap.objs.size, _, I.laid (t' := s.toks) (o := .tup (cutV xs lo hi)) (fun b ob q => Heap.get?_push_of_some _ q) (Nat.le_refl _) ?_, rfl, q _ (I.hok.fresh (Nat.le_refl _))⟩
  exact ⟨Nat.le_trans (cutV_length xs lo hi) hz, _, (r.drop (HT.sIx xs.length 0 lo)).take (HT.sIx xs.length xs.length hi - HT.sIx xs.length 0 lo), IsTup.new _ _⟩
def rCatT (K : PySem.W.Frag) : R2 := fun x y H Q => ∃ a b xs ys, x = .ref a ∧ y = .ref b ∧ SqT K H a xs ∧ SqT K H b ys ∧ xs ≠ [] ∧ xs.length + ys.length ≤ sizeLine ∧
  (ys = [] → Q (.ref a) H) ∧ (ys ≠ [] → ∀ p, H p = none → Q (.ref p) (upd H p (.tup (xs ++ ys))))
theorem Vals.nil_iff {xs : List V} {us : List Value} (r : Vals xs us) : us = [] ↔ xs = [] := by
  cases r with
  | nil => simp
  | cons _ _ => simp
theorem op_catT : OpR X (binaryOp .Add) (rCatT X.K) := by
  intro pins s σ H x y v u Q I rx ry h
  obtain ⟨a, b, xs, ys, rfl, rfl, ha, hb, hx, hz, q1, q2⟩ := h
  cases rx
  cases ry
  obtain ⟨its, r1, p1, _⟩ := I.tuple ha
  obtain ⟨its2, r2, p2, _⟩ := I.tuple hb
  refine HT.cat_tup p1 p2 (fun z => hx (r1.nil_iff.mp z)) (fun z => ⟨.ref a, H, I, rfl, q1 (r2.nil_iff.mp z)⟩) (fun z => ?_) (by rw [← r1.length, ← r2.length]; exact hz)
  refine ⟨.ref s.heap.objs.size, _, I.laid (t' := s.toks) (o := .tup (xs ++ ys)) (fun b ob q => Heap.get?_push_of_some _ q) (Nat.le_refl _) ?_, rfl, q2 (fun w => z (r2.nil_iff.mpr w)) _ (I.hok.fresh (Nat.le_refl _))⟩
  exact ⟨by rw [List.length_append]; exact hz, _, r1.append r2, IsTup.new _ _⟩
end
end L2
namespace L2
open PySem PySem.Spec PyProof.Rows
def ixN (n : Nat) (i : Int) : Option Nat := if 0 ≤ i then (if i < n then some i.toNat else none) else if -(n : Int) ≤ i then some (i + n).toNat else none
def atI {α : Type} (xs : List α) (i : Int) : Option α := (ixN xs.length i).bind fun j => xs[j]?
theorem ixN_seq {n : Nat} {i : Int} {j : Nat} (h : ixN n i = some j) : seqIndex? i n = some j ∧ j < n ∧ -(n : Int) ≤ i ∧ i < n := by
  unfold ixN at h
  by_cases h0 : 0 ≤ i
  · rw [if_pos h0] at h
    by_cases h1 : i < n
    · rw [if_pos h1] at h
      have e : i.toNat = j := Option.some.inj h
      exact ⟨by rw [seqIndex_of h0 h1, e], by omega, by omega, h1⟩
    · rw [if_neg h1] at h; cases h
  · rw [if_neg h0] at h
    by_cases h1 : -(n : Int) ≤ i
    · rw [if_pos h1] at h
      have e : (i + n).toNat = j := Option.some.inj h
      exact ⟨by rw [seqIndex_neg (by omega) h1, e], by omega, h1, by omega⟩
    · rw [if_neg h1] at h; cases h
theorem atI_get {α : Type} {xs : List α} {i : Int} {v : α} (h : atI xs i = some v) : ∃ j, seqIndex? i xs.length = some j ∧ xs[j]? = some v ∧ j < xs.length ∧ -(xs.length : Int) ≤ i ∧ i < xs.length := by
  unfold atI at h
  cases e : ixN xs.length i with
  | none => rw [e] at h; cases h
  | some j =>
    rw [e] at h
    obtain ⟨h1, h2, h3, h4⟩ := ixN_seq e
    exact ⟨j, h1, h, h2, h3, h4⟩
def PlainIx (b : Expr) : Prop := ∀ o i, subscripted b false o i = operate [o, i] (getItem o i)
def IxR (X : Cx) (r : R2) : Prop :=
  ∀ (value slice : Expr) (pins : List (Addr × Obj)) (s : Shared) (σ : St) (H : Hp) (x y : V) (v u : Value) (Q : VK), Inv X pins σ H s → RelV x v → RelV y u → r x y H Q →
    subscripted slice false v u = operate [v, u] (getItem v u) → wpAny (model X.prog X.w) X.A (subscriptTail value slice v u) (EP X pins σ Q) X.xe s
def MtR (X : Cx) (id : String) (r : V → List V → Hp → VK → Prop) : Prop :=
  ∀ (pins : List (Addr × Obj)) (s : Shared) (σ : St) (H : Hp) (x : V) (xs : List V) (v : Value) (us : List Value) (Q : VK), Inv X pins σ H s → RelV x v → Vals xs us → r x xs H Q →
    wpAny (model X.prog X.w) X.A (call (.builtin id) (v :: us)) (EP X pins σ Q) X.xe s
section
variable {X : Cx} {a b : Expr} {ta tb : TE} {pos : Pos}
theorem IxR.or {r r' : R2} (h : IxR X r) (h' : IxR X r') : IxR X (fun x y H Q => r x y H Q ∨ r' x y H Q) := by
  intro value slice pins s σ H x y v u Q I rx ry q hs
  rcases q with q | q
  · exact h value slice pins s σ H x y v u Q I rx ry q hs
  · exact h' value slice pins s σ H x y v u Q I rx ry q hs
theorem MtR.or {id : String} {r r' : V → List V → Hp → VK → Prop} (h : MtR X id r) (h' : MtR X id r') : MtR X id (fun x xs H Q => r x xs H Q ∨ r' x xs H Q) := by
  intro pins s σ H x xs v us Q I rx rs q
  rcases q with q | q
  · exact h pins s σ H x xs v us Q I rx rs q
  · exact h' pins s σ H x xs v us Q I rx rs q
theorem pe_ix {r : R2} (hr : IxR X r) (ha : PE X a ta) (hb : PE X b tb) (hs : PlainIx b) : PE X (.Subscript a b pos) (tOp r ta tb) := by
  intro pins s σ H Q I h
  exact Subscript_ (binT ha hb I h fun v u s2 x y H2 I2 rx ry q => hr a b pins s2 σ H2 x y v u Q I2 rx ry q (hs _ _))
def rIxL (K : PySem.W.Frag) : R2 := fun x y H Q => ∃ p xs i v, x = .ref p ∧ y = .int i ∧ SqL K H p xs ∧ atI xs i = some v ∧ Q v H
def rIxT (K : PySem.W.Frag) : R2 := fun x y H Q => ∃ p xs i v, x = .ref p ∧ y = .int i ∧ SqT K H p xs ∧ atI xs i = some v ∧ Q v H
def rIxS : R2 := fun x y H Q => ∃ z i c, x = .str z ∧ y = .int i ∧ z.length ≤ sizeLine ∧ atI z.cps.toList i = some c ∧ Q (.str ⟨#[c]⟩) H
theorem ix_list : IxR X (rIxL X.K) := by
  intro value slice pins s σ H x y v u Q I rx ry h hs
  obtain ⟨p, xs, i, z, rfl, rfl, hq, he, q⟩ := h
  cases rx
  obtain ⟨t, rfl⟩ := ry
  obtain ⟨its, r, pl, hz⟩ := I.list hq
  obtain ⟨j, h1, h2, h3, h4, h5⟩ := atI_get he
  obtain ⟨w, ew, rw'⟩ := r.get h2
  have hl := r.length
  have hn := line63
  have fin : EP X pins σ Q w s := ⟨z, H, I, rw', q⟩
  by_cases h0 : 0 ≤ i
  · have hj : i.toNat = j := by
      rw [seqIndex_of h0 h5] at h1
      exact Option.some.inj h1
    exact item_listR pl.isList h0 (by omega) (by rw [hj]; simpa using ew) fin hs
  · have hj : (i + (its.toArray.size : Int)).toNat = j := by
      rw [seqIndex_neg (by omega) h4] at h1
      rw [List.size_toArray, ← hl]
      exact Option.some.inj h1
    exact subscriptTail_builtinR (x := w) pl.isList.typeIs slot_list_getitem.lookup
      (wpAny_getItem_list_neg (Q := fun r s' => r = w ∧ EP X pins σ Q r s') pl.isList (by omega) (by rw [List.size_toArray] <;> omega) (by omega) (by rw [hj]; simpa using ew) ⟨rfl, fin⟩) hs
theorem ix_tup : IxR X (rIxT X.K) := by
  intro value slice pins s σ H x y v u Q I rx ry h hs
  obtain ⟨p, xs, i, z, rfl, rfl, hq, he, q⟩ := h
  cases rx
  obtain ⟨t, rfl⟩ := ry
  obtain ⟨its, r, pl, hz⟩ := I.tuple hq
  obtain ⟨j, h1, h2, h3, h4, h5⟩ := atI_get he
  obtain ⟨w, ew, rw'⟩ := r.get h2
  have hl := r.length
  have hn := line63
  have fin : EP X pins σ Q w s := ⟨z, H, I, rw', q⟩
  exact subscriptTail_builtinR (x := w) pl.typeIs slot_tuple_getitem.lookup
    (getItem_tuple (j := j) (Q := fun r s' => r = w ∧ EP X pins σ Q r s') pl (by omega) (by omega) (by rw [List.size_toArray, ← hl]; exact h1) (by simpa using ew) ⟨rfl, fin⟩) hs
theorem ix_str : IxR X rIxS := by
  intro value slice pins s σ H x y v u Q I rx ry h hs
  obtain ⟨z, i, c, rfl, rfl, hz, he, q⟩ := h
  obtain ⟨t, rfl⟩ := rx
  obtain ⟨t', rfl⟩ := ry
  obtain ⟨j, h1, h2, h3, h4, h5⟩ := atI_get he
  have hl : z.cps.toList.length = z.length := by simp [Str.length]
  rw [hl] at h1 h4 h5
  have hn := line63
  exact tail_any (typeIs_str s z t) slot_str_getitem.lookup (getItem_str (c := c) (by
    have e1 : decide (i < -(2 ^ 63 : Int)) = false := decide_eq_false (by omega)
    have e2 : decide (i ≥ 2 ^ 63) = false := decide_eq_false (by omega)
    rw [e1, e2, Bool.or_false]) (by rw [h1]; simpa using h2) ⟨.str ⟨#[c]⟩, H, I.tok _, ⟨_, rfl⟩, q⟩) hs
theorem Inv.lst {pins : List (Addr × Obj)} {σ : St} {H : Hp} {s : Shared} {p : Addr} {xs : List V} (I : Inv X pins σ H s) (h : H p = some (.lst xs)) :
    ∃ (its : List Value) (n : Nat), Vals xs its ∧ s.heap.get? p = some { cls := .type "list", data := .seq its.toArray n } ∧ xs.length ≤ sizeLine := by
  obtain ⟨z, its, n, r, e⟩ := I.hok p _ h
  exact ⟨its, n, r, e, z⟩
theorem slice_bounds (lo hi : Option Int) (n : Nat) : (sliceBounds lo hi none n).1 = ((HT.sIx n 0 lo : Nat) : Int) ∧ (sliceBounds lo hi none n).2.1 = ((HT.sIx n n hi : Nat) : Int) ∧ (sliceBounds lo hi none n).2.2 = 1 := by
  refine ⟨?_, ?_, rfl⟩
  · cases lo with
    | none => simp [sliceBounds, HT.sIx]
    | some i =>
      simp only [sliceBounds, HT.sIx, Option.getD_none, show (1 : Int) > 0 by decide, if_true]
      by_cases h : i < 0
      · simp only [h, if_true] <;> omega
      · simp only [h, if_false] <;> omega
  · cases hi with
    | none => simp [sliceBounds, HT.sIx]
    | some i =>
      simp only [sliceBounds, HT.sIx, Option.getD_none, show (1 : Int) > 0 by decide, if_true]
      by_cases h : i < 0
      · simp only [h, if_true] <;> omega
      · simp only [h, if_false] <;> omega
theorem slicePick_cut (its : List Value) (lo hi : Option Int) : slicePick its.toArray lo hi none = ((its.drop (HT.sIx its.length 0 lo)).take (HT.sIx its.length its.length hi - HT.sIx its.length 0 lo)).toArray := by
  obtain ⟨h1, h2, h3⟩ := slice_bounds lo hi its.toArray.size
  unfold slicePick
  rw [h1, h2, h3]
  simp only [sliceRange_one, pick_run, List.size_toArray] <;> rfl
def rSlL (K : PySem.W.Frag) : V → Option Int → Option Int → Hp → VK → Prop := fun x lo hi H Q => ∃ a xs, x = .ref a ∧ SqL K H a xs ∧ ∀ p, H p = none → Q (.ref p) (upd H p (.lst (cutV xs lo hi)))
theorem sl_list : SlR X (rSlL X.K) := by
  intro pins s σ H x v vl vu lo hi sl Q I rx hs pl pu h
  obtain ⟨a, xs, rfl, hx, q⟩ := h
  cases rx
  obtain ⟨its, r, ht, hz⟩ := I.list hx
  have hlen := r.length
  refine ⟨"list", _, slot_list_getitem.lookup, ht.isList.typeIs, ?_⟩
  refine wpAny_getItem_list_slice ht.isList hs pl pu .none (by simp) ?_ (by rw [List.size_toArray] <;> omega)
  rw [slicePick_cut, ← hlen]
  refine ⟨.ref s.heap.objs.size, _, I.laid (t' := s.toks) (o := .lst (cutV xs lo hi)) (fun b ob q => Heap.get?_push_of_some _ q) (Nat.le_refl _) ?_, rfl, q _ (I.hok.fresh (Nat.le_refl _))⟩
  exact ⟨Nat.le_trans (cutV_length xs lo hi) hz, _, 0, (r.drop (HT.sIx xs.length 0 lo)).take (HT.sIx xs.length xs.length hi - HT.sIx xs.length 0 lo), Heap.get?_push_size _ rfl⟩
theorem call_len_seq : CallR X (.builtin "len") (fun xs H Q => ∃ p ys, xs = [.ref p] ∧ (SqL X.K H p ys ∨ SqT X.K H p ys) ∧ Q (.int ys.length) H) := by
  intro pins s σ H xs us Q I r h
  obtain ⟨p, ys, rfl, hq, q⟩ := h
  obtain ⟨u, rfl, rx⟩ := vals1 r
  cases rx
  have hn := line63
  rcases hq with hq | hq
  · obtain ⟨its, r', pl, hz⟩ := I.list hq
    have hlen := r'.length
    exact Calls.call_len_list pl.isList (by simp only [List.size_toArray] <;> omega) ⟨.int ys.length, H, I.tok _, ⟨s.toks + 1, by rw [List.size_toArray, hlen]⟩, q⟩
  · obtain ⟨its, r', pl, hz⟩ := I.tuple hq
    have hlen := r'.length
    exact len_tuple pl (by simp only [List.size_toArray] <;> omega) ⟨.int ys.length, H, I.tok _, ⟨s.toks + 1, by rw [List.size_toArray, hlen]⟩, q⟩
theorem call_len_str : CallR X (.builtin "len") (fun xs H Q => ∃ z, xs = [.str z] ∧ z.length ≤ sizeLine ∧ Q (.int z.length) H) := by
  intro pins s σ H xs us Q I r h
  obtain ⟨z, rfl, hz, q⟩ := h
  obtain ⟨u, rfl, t, rfl⟩ := vals1 r
  have hn := line63
  exact len_str (by omega) ⟨.int z.length, H, I.tok _, ⟨_, rfl⟩, q⟩
theorem CallR.or {f : Value} {r r' : List V → Hp → VK → Prop} (h : CallR X f r) (h' : CallR X f r') : CallR X f (fun xs H Q => r xs H Q ∨ r' xs H Q) := by
  intro pins s σ H xs us Q I rs q
  rcases q with q | q
  · exact h pins s σ H xs us Q I rs q
  · exact h' pins s σ H xs us Q I rs q
theorem call_list_of : CallR X (.type "list") (fun xs H Q => ∃ p ys, xs = [.ref p] ∧ (SqL X.K H p ys ∨ SqT X.K H p ys) ∧ ∀ l, H l = none → Q (.ref l) (upd H l (.lst ys))) := by
  intro pins s σ H xs us Q I r h
  obtain ⟨p, ys, rfl, hq, q⟩ := h
  obtain ⟨u, rfl, rx⟩ := vals1 r
  cases rx
  have fin : ∀ (its : List Value), Vals ys its → ys.length ≤ sizeLine → ∀ (h' : Heap) (c' : Nat), (∀ b o', s.heap.get? b = some o' → h'.get? b = some o') →
      h'.get? s.heap.objs.size = some { cls := .type "list", dict := none, data := .seq its.toArray c', slots := #[] } → EP X pins σ Q (.ref s.heap.objs.size) { s with heap := h' } := fun its r' hz h' c' kp e =>
    ⟨.ref s.heap.objs.size, _, I.laid (t' := s.toks) kp (Nat.le_refl _) (show ObjOk X.prog X.w _ h' _ (.lst ys) from ⟨hz, its, c', r', e⟩), rfl, q _ (I.hok.fresh (Nat.le_refl _))⟩
  rcases hq with hq | hq
  · obtain ⟨its, r', pl, hz⟩ := I.list hq
    have hlen := r'.length
    obtain ⟨o, ho, hc, n, hd⟩ := pl.isList
    exact call_list_seq p (.inl rfl) ho hc hd (fun h' c' kp e => fin its r' hz h' c' kp e) (by simp only [List.size_toArray] <;> omega)
  · obtain ⟨its, r', pl, hz⟩ := I.tuple hq
    have hlen := r'.length
    obtain ⟨o, ho, hc, n, hd⟩ := pl
    exact call_list_seq p (.inr rfl) ho hc hd (fun h' c' kp e => fin its r' hz h' c' kp e) (by simp only [List.size_toArray] <;> omega)
theorem call_tuple_of : CallR X (.type "tuple") (fun xs H Q => ∃ p ys, xs = [.ref p] ∧ ((SqL X.K H p ys ∧ ∀ l, H l = none → Q (.ref l) (upd H l (.tup ys))) ∨ (SqT X.K H p ys ∧ Q (.ref p) H))) := by
  intro pins s σ H xs us Q I r h
  obtain ⟨p, ys, rfl, h⟩ := h
  obtain ⟨u, rfl, rx⟩ := vals1 r
  cases rx
  rcases h with ⟨hq, q⟩ | ⟨hq, q⟩
  · obtain ⟨its, r', pl, hz⟩ := I.list hq
    have hlen := r'.length
    refine call_tuple_list pl.isList (fun h' kp => ?_) (by simp only [List.size_toArray] <;> omega)
    have I1 : Inv X pins σ H { s with heap := h' } := I.kept (t' := s.toks) kp
    have I2 : Inv X pins σ (upd H h'.objs.size (.tup ys)) { s with heap := h'.push { cls := .type "tuple", data := .seq its.toArray } } :=
      I1.laid (t' := s.toks) (fun b o e => Heap.get?_push_of_some _ e) (Nat.le_refl _) (show ObjOk X.prog X.w _ _ _ (.tup ys) from ⟨hz, its, r', IsTup.new _ _⟩)
    exact ⟨.ref h'.objs.size, _, I2, rfl, q _ (I1.hok.fresh (Nat.le_refl _))⟩
  · obtain ⟨its, r', pl, hz⟩ := I.tuple hq
    exact call_tuple_same pl ⟨.ref p, H, I, rfl, q⟩
def tyV (K : PySem.W.Frag) (T : String) (x : V) (H : Hp) : Prop := match x with
  | .str _ => T = "str"
  | .int _ => T = "int"
  | .ref p => (T = "list" ∧ ∃ xs, SqL K H p xs) ∨ (T = "tuple" ∧ ∃ o, K.lookup p = some o ∧ o.cls = .type "tuple" ∧ o.dict = none) ∨
      (T = "dict" ∧ ((∃ kvs, H p = some (.dK kvs)) ∨ ∃ kvs, H p = some (.dT kvs))) ∨ (T = "set" ∧ ∃ S n, H p = some (.set S n))
  | _ => False
theorem tyV_is {pins : List (Addr × Obj)} {σ : St} {H : Hp} {s : Shared} {T : String} {x : V} {v : Value} (I : Inv X pins σ H s) (r : RelV x v) (ty : tyV X.K T x H) :
    s.TypeIs v T ∧ ∀ a, v = .ref a → ∃ ob, s.heap.get? a = some ob ∧ ob.dict = none := by
  cases x with
  | str z =>
    obtain ⟨t, rfl⟩ := r
    cases (show T = "str" from ty)
    exact ⟨typeIs_str s z t, fun _ e => nomatch e⟩
  | int i =>
    obtain ⟨t, rfl⟩ := r
    cases (show T = "int" from ty)
    exact ⟨typeIs_int s i t, fun _ e => nomatch e⟩
  | ref p =>
    cases r
    rcases ty with ⟨rfl, xs, hq⟩ | ⟨rfl, o, hk, hc, hd⟩ | ⟨rfl, hk⟩ | ⟨rfl, S, n, hk⟩
    · obtain ⟨its, _, pl, _⟩ := I.list hq
      refine ⟨pl.isList.typeIs, fun a e => ?_⟩
      cases e
      obtain ⟨o, n, e, c, hd, _⟩ := pl
      exact ⟨o, e, hd⟩
    · refine ⟨⟨o, I.kIn p o hk, hc⟩, fun a e => ?_⟩
      cases e
      exact ⟨o, I.kIn _ o hk, hd⟩
    · have z : ∃ o, s.heap.get? p = some o ∧ o.ExactDict := by
        rcases hk with ⟨kvs, hk⟩ | ⟨kvs, hk⟩
        · obtain ⟨_, _, _, _, o, _, _, e, ex, _⟩ := I.hok p _ hk
          exact ⟨o, e, ex⟩
        · obtain ⟨_, _, _, _, o, _, _, e, ex, _⟩ := I.hok p _ hk
          exact ⟨o, e, ex⟩
      obtain ⟨o, e, ex⟩ := z
      refine ⟨⟨o, e, ex.1⟩, fun a e2 => ?_⟩
      cases e2
      exact ⟨o, e, ex.2.1⟩
    · obtain ⟨o, _, _, _, e, ex, _⟩ := I.hok p _ hk
      refine ⟨⟨o, e, ex.1⟩, fun a e2 => ?_⟩
      cases e2
      exact ⟨o, e, ex.2.1⟩
  | _ => exact False.elim ty
def tBM0 (K : PySem.W.Frag) (T : String) (r : V → List V → Hp → VK → Prop) (to : TE) : TE := fun σ H Q => to σ H fun x H1 => tyV K T x H1 ∧ r x [] H1 Q
def tBM (K : PySem.W.Frag) (T : String) (r : V → List V → Hp → VK → Prop) (to : TE) (t : TA) : TE := fun σ H Q => to σ H fun x H1 => tyV K T x H1 ∧ t σ H1 fun xs H2 => r x xs H2 Q
variable {o e : Expr} {es : List Expr} {to : TE} {t : TA} {name : Str} {apos cpos : Pos} {T id : String} {r : V → List V → Hp → VK → Prop}
theorem pe_bm0 (pa : PlainAttrs T) (slot : Slot T name id) (hty : typeOf (.builtin id) = pure (.type "method_descriptor")) (hm : MtR X id r) (ho : PE X o to)
    (hbase : attributeBase o name X.env (eval o X.env) = eval o X.env := by rfl) (hline : (apos.endLine == cpos.line) = true := by rfl) : PE X (.Call (.Attribute o name apos) [] [] cpos) (tBM0 X.K T r to) := by
  intro pins s σ H Q I h
  refine wpAny_Call_method0_late hbase hline (thn (ho pins s σ H _ I h) fun v s1 ⟨x, H1, I1, r1, ty, q1⟩ => ?_)
  obtain ⟨h1, h2⟩ := tyV_is I1 r1 ty
  exact ⟨T, id, pa, slot, hty, h1, h2, Calls.callWith_builtin rfl (PySem.evalArgs_none (hm pins s1 σ H1 x [] v [] Q I1 r1 .nil q1))⟩
theorem pe_bm (pa : PlainAttrs T) (slot : Slot T name id) (hty : typeOf (.builtin id) = pure (.type "method_descriptor")) (hm : MtR X id r) (ho : PE X o to) (ha : PA X (e :: es) t)
    (hbase : attributeBase o name X.env (eval o X.env) = eval o X.env := by rfl)
    (hfew : ((backTo cpos (starEach (e :: es) X.env)).all (fun x => !x.1) && (backToKw cpos (keywordEach [] X.env)).all (fun x => x.1.isSome)
      && decide ((e :: es).length + ([] : List Keyword).length + (if ([] : List Keyword).isEmpty then 0 else 1) < 30)) = true := by rfl)
    (hline : (apos.endLine == cpos.line) = true := by rfl) (hs : starEach (e :: es) X.env = (false, eval e X.env) :: starEach es X.env := by rfl) (hplain : (backTo cpos (starEach es X.env)).any (·.1) = false := by rfl) :
    PE X (.Call (.Attribute o name apos) (e :: es) [] cpos) (tBM X.K T r to t) := by
  intro pins s σ H Q I h
  refine wpAny_Call_method_late hbase hfew hline rfl (thn (ho pins s σ H _ I h) fun v s1 ⟨x, H1, I1, r1, ty, q1⟩ => ?_)
  obtain ⟨h1, h2⟩ := tyV_is I1 r1 ty
  refine ⟨T, id, pa, slot, hty, h1, h2, ?_⟩
  have hA := ha cpos pins s1 σ H1 _ I1 q1
  rw [hs] at hA ⊢
  refine Calls.callWith_builtin (by show (false || (backTo cpos (starEach es X.env)).any (·.1)) = false; rw [hplain] <;> rfl) (Calls.evalArgs_plain ?_)
  exact thn hA fun us s2 ⟨vs, H2, I2, r2, q2⟩ => hm pins s2 σ H2 x vs v us Q I2 r1 r2 q2
end
end L2
namespace L2
open PySem PySem.Spec PyProof.Rows
theorem Vals.one : ∀ {x : V} {us : List Value}, Vals [x] us → ∃ u, us = [u] ∧ RelV x u
  | _, _, .cons r .nil => ⟨_, rfl, r⟩
theorem Vals.zero : ∀ {us : List Value}, Vals [] us → us = []
  | _, .nil => rfl
theorem Vals.eraseIdx : ∀ {xs : List V} {us : List Value} (i : Nat), Vals xs us → Vals (xs.eraseIdx i) (us.eraseIdx i)
  | _, _, _, .nil => .nil
  | _, _, 0, .cons _ t => t
  | _, _, i + 1, .cons r t => .cons r (Vals.eraseIdx i t)
theorem Vals.reverse {xs : List V} {us : List Value} (h : Vals xs us) : Vals xs.reverse us.reverse := by
  induction h with
  | nil => exact .nil
  | cons r t ih => rw [List.reverse_cons, List.reverse_cons]; exact Vals.append ih (.cons r .nil)
theorem Vals.rep {xs : List V} {us : List Value} (h : Vals xs us) : ∀ k : Nat, Vals (List.replicate k xs).flatten (List.replicate k us).flatten
  | 0 => .nil
  | k + 1 => by
    rw [List.replicate_succ, List.replicate_succ, List.flatten_cons, List.flatten_cons]
    exact Vals.append h (Vals.rep h k)
theorem foldl_rep (its : List Value) : ∀ (k : Nat) (acc : List Value),
    List.foldl (fun x1 x2 => x1 ++ x2) acc.toArray (List.replicate k its.toArray) = (acc ++ (List.replicate k its).flatten).toArray
  | 0, acc => by simp
  | k + 1, acc => by
    have e : acc.toArray ++ its.toArray = (acc ++ its).toArray := by simp
    have e2 : (acc ++ its) ++ (List.replicate k its).flatten = acc ++ (List.replicate (k + 1) its).flatten := by
      rw [List.replicate_succ, List.flatten_cons, List.append_assoc]
    rw [← e2, ← foldl_rep its k (acc ++ its), ← e, List.replicate_succ, List.foldl_cons]
section
variable {X : Cx} {pins : List (Addr × Obj)} {σ : St} {H : Hp} {s : Shared} {l b : Addr} {xs ys zs : List V}
theorem Inv.lnew {its : List Value} {t' : Nat} (I : Inv X pins σ H s) (hv : Vals ys its) (hz : ys.length ≤ sizeLine) :
    Inv X pins σ (upd H s.heap.objs.size (.lst ys)) { s with heap := s.heap.push { cls := .type "list", data := .seq its.toArray }, toks := t' } :=
  I.laid (fun _ _ q => Heap.get?_push_of_some _ q) (Nat.le_refl _) ⟨hz, its, 0, hv, Heap.get?_push_size _ rfl⟩
theorem Inv.fresh (I : Inv X pins σ H s) : H s.heap.objs.size = none := I.hok.fresh (Nat.le_refl _)
end
section
variable {X : Cx}
theorem len_rep {α : Type} (xs : List α) (k : Nat) : (List.replicate k xs).flatten.length = k * xs.length := by
  induction k with
  | zero => simp
  | succ k ih => rw [List.replicate_succ, List.flatten_cons, List.length_append, ih, Nat.succ_mul, Nat.add_comm]
end
end L2
namespace L2
open PySem PySem.Spec PyProof.Rows
inductive D where
  | non | bl (b : Bool) | int (i : Int) | str (x : Str)
  | tup (xs : List D) | lst (xs : List D) | set (xs : List D) | loc (l : Nat)
  deriving Inhabited
def TQ (K : PySem.W.Frag) (H : Hp) (J : List Addr) (a : Addr) (xs : List V) : Prop :=
  (Rd H a (.tup xs) ∧ a ∉ J ∧ xs.length ≤ sizeLine) ∨ ∃ (o : Obj) (its : Array Value) (n : Nat), K.lookup a = some o ∧ o.cls = .type "tuple" ∧ o.data = .seq its n ∧ its.size ≤ sizeLine ∧ Vals xs its.toList
def LQ (K : PySem.W.Frag) (H : Hp) (J : List Addr) (a : Addr) (xs : List V) : Prop :=
  (Rd H a (.lst xs) ∧ a ∉ J ∧ xs.length ≤ sizeLine) ∨ ∃ (o : Obj) (its : Array Value) (n : Nat), K.lookup a = some o ∧ o.cls = .type "list" ∧ o.dict = none ∧ o.data = .seq its n ∧ its.size ≤ sizeLine ∧ Vals xs its.toList
theorem TQ.sq {K : PySem.W.Frag} {H : Hp} {J : List Addr} {a : Addr} {xs : List V} (h : TQ K H J a xs) : SqT K H a xs := h.elim (fun z => .inl z.1) .inr
theorem LQ.sq {K : PySem.W.Frag} {H : Hp} {J : List Addr} {a : Addr} {xs : List V} (h : LQ K H J a xs) : SqL K H a xs := h.elim (fun z => .inl z.1) .inr
def SetO (a : Addr) (us : List Value) : HO := HO.ext fun h => ∃ o es ep t, h.get? a = some o ∧ o.ExactSet ∧ o.data = .set es ep t ∧ (es.toList.map (·.2)) = us ∧ t.fits es.size = true ∧ es.size ≤ sizeLine
def okS (x : Str) : Prop := x.length ≤ sizeLine ∧ PyData.strOk x = true
mutual
def At (K : PySem.W.Frag) (H : Hp) (J : List Addr) : D → V → Prop
  | .non, v => v = .non
  | .bl b, v => v = .bl b
  | .int i, v => v = .int i
  | .str x, v => v = .str x ∧ okS x
  | .tup ds, v => ∃ a xs, v = .ref a ∧ TQ K H J a xs ∧ Ats K H J ds xs
  | .lst ds, v => ∃ a xs, v = .ref a ∧ LQ K H J a xs ∧ Ats K H J ds xs
  | .set ds, v => ∃ a us xs, v = .ref a ∧ H a = some (SetO a us) ∧ a ∉ J ∧ Vals xs us ∧ Ats K H J ds xs
  | .loc l, v => ∃ a, v = .ref a ∧ J[l]? = some a
def Ats (K : PySem.W.Frag) (H : Hp) (J : List Addr) : List D → List V → Prop
  | [], vs => vs = []
  | d :: ds, vs => ∃ v r, vs = v :: r ∧ At K H J d v ∧ Ats K H J ds r
end
structure Ex (J : List Addr) (H : Hp) (J' : List Addr) (H' : Hp) : Prop where
  pre : J <+: J'
  keep : ∀ b o, H b = some o → b ∉ J → H' b = some o ∧ b ∉ J'
theorem Ex.refl {J : List Addr} {H : Hp} : Ex J H J H := ⟨List.prefix_refl _, fun _ _ h n => ⟨h, n⟩⟩
theorem Ex.trans {J J1 J2 : List Addr} {H H1 H2 : Hp} (a : Ex J H J1 H1) (b : Ex J1 H1 J2 H2) : Ex J H J2 H2 :=
  ⟨a.pre.trans b.pre, fun c o h n => let ⟨h1, n1⟩ := a.keep c o h n; b.keep c o h1 n1⟩
theorem Ex.same {J : List Addr} {H H' : Hp} (s : Same H H') : Ex J H J H' := ⟨List.prefix_refl _, fun b o h n => ⟨s b o h, n⟩⟩
section
variable {K : PySem.W.Frag} {H H' : Hp} {J J' : List Addr}
theorem Rd.ex {a : Addr} {u : HO} (e : Ex J H J' H') (h : Rd H a u) (n : a ∉ J) : Rd H' a u ∧ a ∉ J' := by
  rcases h with h | ⟨o, h⟩
  · exact ⟨.inl (e.keep a _ h n).1, (e.keep a _ h n).2⟩
  · exact ⟨.inr ⟨o, (e.keep a _ h n).1⟩, (e.keep a _ h n).2⟩
theorem TQ.ex {a : Addr} {xs : List V} (e : Ex J H J' H') (h : TQ K H J a xs) : TQ K H' J' a xs := h.elim (fun z => .inl ⟨(z.1.ex e z.2.1).1, (z.1.ex e z.2.1).2, z.2.2⟩) .inr
theorem LQ.ex {a : Addr} {xs : List V} (e : Ex J H J' H') (h : LQ K H J a xs) : LQ K H' J' a xs := h.elim (fun z => .inl ⟨(z.1.ex e z.2.1).1, (z.1.ex e z.2.1).2, z.2.2⟩) .inr
theorem TQ.len {a : Addr} {xs : List V} (h : TQ K H J a xs) : xs.length ≤ sizeLine := by
  rcases h with ⟨_, _, z⟩ | ⟨o, its, n, _, _, _, z, r⟩
  · exact z
  · have e := Vals.length r
    simp only [Array.length_toList] at e
    omega
theorem LQ.len {a : Addr} {xs : List V} (h : LQ K H J a xs) : xs.length ≤ sizeLine := by
  rcases h with ⟨_, _, z⟩ | ⟨o, its, n, _, _, _, _, z, r⟩
  · exact z
  · have e := Vals.length r
    simp only [Array.length_toList] at e
    omega
theorem pre_get {α : Type} {l l' : List α} (h : l <+: l') {i : Nat} {x : α} (e : l[i]? = some x) : l'[i]? = some x := by
  obtain ⟨t, rfl⟩ := h
  rw [List.getElem?_append_left (List.getElem?_eq_some_iff.mp e).1]; exact e
mutual
theorem At.ex (e : Ex J H J' H') : ∀ {d : D} {v : V}, At K H J d v → At K H' J' d v
  | .non, _, h => by unfold At at h ⊢; exact h
  | .bl _, _, h => by unfold At at h ⊢; exact h
  | .int _, _, h => by unfold At at h ⊢; exact h
  | .str _, _, h => by unfold At at h ⊢; exact h
  | .tup ds, _, h => by unfold At at h ⊢; obtain ⟨a, xs, rfl, q, r⟩ := h; exact ⟨a, xs, rfl, q.ex e, Ats.ex e r⟩
  | .lst ds, _, h => by unfold At at h ⊢; obtain ⟨a, xs, rfl, q, r⟩ := h; exact ⟨a, xs, rfl, q.ex e, Ats.ex e r⟩
  | .set ds, _, h => by unfold At at h ⊢; obtain ⟨a, us, xs, rfl, q, n, r, z⟩ := h; exact ⟨a, us, xs, rfl, (e.keep a _ q n).1, (e.keep a _ q n).2, r, Ats.ex e z⟩
  | .loc l, _, h => by unfold At at h ⊢; obtain ⟨a, rfl, q⟩ := h; exact ⟨a, rfl, pre_get e.pre q⟩
theorem Ats.ex (e : Ex J H J' H') : ∀ {ds : List D} {vs : List V}, Ats K H J ds vs → Ats K H' J' ds vs
  | [], _, h => by unfold Ats at h ⊢; exact h
  | d :: ds, _, h => by unfold Ats at h ⊢; obtain ⟨v, r, rfl, p, q⟩ := h; exact ⟨v, r, rfl, At.ex e p, Ats.ex e q⟩
end
theorem At.non_iff {v : V} : At K H J .non v ↔ v = .non := by unfold At; exact Iff.rfl
theorem At.bl_iff {b : Bool} {v : V} : At K H J (.bl b) v ↔ v = .bl b := by unfold At; exact Iff.rfl
theorem At.int_iff {i : Int} {v : V} : At K H J (.int i) v ↔ v = .int i := by unfold At; exact Iff.rfl
theorem At.str_iff {x : Str} {v : V} : At K H J (.str x) v ↔ v = .str x ∧ okS x := by unfold At; exact Iff.rfl
theorem At.tup_iff {ds : List D} {v : V} : At K H J (.tup ds) v ↔ ∃ a xs, v = .ref a ∧ TQ K H J a xs ∧ Ats K H J ds xs := by unfold At; exact Iff.rfl
theorem At.lst_iff {ds : List D} {v : V} : At K H J (.lst ds) v ↔ ∃ a xs, v = .ref a ∧ LQ K H J a xs ∧ Ats K H J ds xs := by unfold At; exact Iff.rfl
theorem At.loc_iff {l : Nat} {v : V} : At K H J (.loc l) v ↔ ∃ a, v = .ref a ∧ J[l]? = some a := by unfold At; exact Iff.rfl
theorem Ats.nil_iff {vs : List V} : Ats K H J [] vs ↔ vs = [] := by unfold Ats; exact Iff.rfl
theorem Ats.cons_iff {d : D} {ds : List D} {vs : List V} : Ats K H J (d :: ds) vs ↔ ∃ v r, vs = v :: r ∧ At K H J d v ∧ Ats K H J ds r := by
  constructor
  · intro h; unfold Ats at h; exact h
  · intro h; unfold Ats; exact h
theorem Ats.nil : Ats K H J [] [] := Ats.nil_iff.mpr rfl
theorem Ats.cons {d : D} {v : V} {ds : List D} {vs : List V} (h : At K H J d v) (r : Ats K H J ds vs) : Ats K H J (d :: ds) (v :: vs) := Ats.cons_iff.mpr ⟨v, vs, rfl, h, r⟩
theorem Ats.uncons {d : D} {v : V} {ds : List D} {vs : List V} (h : Ats K H J (d :: ds) (v :: vs)) : At K H J d v ∧ Ats K H J ds vs := by
  obtain ⟨_, _, e, p, q⟩ := Ats.cons_iff.mp h; cases e; exact ⟨p, q⟩
theorem Ats.length : ∀ {ds : List D} {vs : List V}, Ats K H J ds vs → ds.length = vs.length
  | [], _, h => by rw [Ats.nil_iff.mp h]; rfl
  | d :: ds, _, h => by obtain ⟨v, r, rfl, _, q⟩ := Ats.cons_iff.mp h; rw [List.length_cons, List.length_cons, Ats.length q]
theorem Ats.append : ∀ {ds es : List D} {vs us : List V}, Ats K H J ds vs → Ats K H J es us → Ats K H J (ds ++ es) (vs ++ us)
  | [], _, _, _, h, k => by rw [Ats.nil_iff.mp h]; exact k
  | d :: ds, _, _, _, h, k => by obtain ⟨v, r, rfl, p, q⟩ := Ats.cons_iff.mp h; exact .cons p (Ats.append q k)
theorem Ats.get : ∀ {ds : List D} {vs : List V} {i : Nat} {d : D}, Ats K H J ds vs → ds[i]? = some d → ∃ v, vs[i]? = some v ∧ At K H J d v
  | [], _, _, _, _, e => by simp at e
  | d :: ds, _, 0, _, h, e => by obtain ⟨v, r, rfl, p, q⟩ := Ats.cons_iff.mp h; simp at e; subst e; exact ⟨v, rfl, p⟩
  | d :: ds, _, i + 1, _, h, e => by obtain ⟨v, r, rfl, p, q⟩ := Ats.cons_iff.mp h; exact Ats.get (i := i) q (by simpa using e)
theorem Ats.get' : ∀ {ds : List D} {vs : List V} {i : Nat} {v : V}, Ats K H J ds vs → vs[i]? = some v → ∃ d, ds[i]? = some d ∧ At K H J d v
  | [], _, _, _, h, e => by rw [Ats.nil_iff.mp h] at e; simp at e
  | d :: ds, _, 0, _, h, e => by obtain ⟨v, r, rfl, p, q⟩ := Ats.cons_iff.mp h; simp at e; subst e; exact ⟨d, rfl, p⟩
  | d :: ds, _, i + 1, _, h, e => by obtain ⟨v, r, rfl, p, q⟩ := Ats.cons_iff.mp h; exact Ats.get' (i := i) q (by simpa using e)
theorem Ats.take : ∀ {ds : List D} {vs : List V} (n : Nat), Ats K H J ds vs → Ats K H J (ds.take n) (vs.take n)
  | _, _, 0, _ => by simpa using Ats.nil
  | [], _, _ + 1, h => by rw [Ats.nil_iff.mp h]; simpa using Ats.nil
  | d :: ds, _, n + 1, h => by obtain ⟨v, r, rfl, p, q⟩ := Ats.cons_iff.mp h; exact .cons p (Ats.take n q)
theorem Ats.drop : ∀ {ds : List D} {vs : List V} (n : Nat), Ats K H J ds vs → Ats K H J (ds.drop n) (vs.drop n)
  | _, _, 0, h => h
  | [], _, _ + 1, h => by rw [Ats.nil_iff.mp h]; simpa using Ats.nil
  | d :: ds, _, n + 1, h => by obtain ⟨v, r, rfl, p, q⟩ := Ats.cons_iff.mp h; exact Ats.drop n q
theorem Ats.reverse : ∀ {ds : List D} {vs : List V}, Ats K H J ds vs → Ats K H J ds.reverse vs.reverse
  | [], _, h => by rw [Ats.nil_iff.mp h]; exact Ats.nil
  | d :: ds, _, h => by obtain ⟨v, r, rfl, p, q⟩ := Ats.cons_iff.mp h; rw [List.reverse_cons, List.reverse_cons]; exact (Ats.reverse q).append (.cons p .nil)
theorem Ats.rep {ds : List D} {vs : List V} (h : Ats K H J ds vs) : ∀ k : Nat, Ats K H J (List.replicate k ds).flatten (List.replicate k vs).flatten
  | 0 => Ats.nil
  | k + 1 => by rw [List.replicate_succ, List.replicate_succ, List.flatten_cons, List.flatten_cons]; exact h.append (Ats.rep h k)
theorem Ats.mem {ds : List D} {vs : List V} (h : Ats K H J ds vs) {v : V} (m : v ∈ vs) : ∃ d ∈ ds, At K H J d v := by
  obtain ⟨i, e⟩ := List.getElem?_of_mem m
  obtain ⟨d, e', a⟩ := h.get' e
  exact ⟨d, List.mem_of_getElem? e', a⟩
theorem Ats.ofInts : ∀ (ns : List Int), Ats K H J (ns.map D.int) (ns.map V.int)
  | [] => .nil
  | n :: ns => .cons (At.int_iff.mpr rfl) (Ats.ofInts ns)
theorem Ats.toInts : ∀ {ns : List Int} {vs : List V}, Ats K H J (ns.map D.int) vs → vs = ns.map V.int
  | [], _, h => Ats.nil_iff.mp h
  | n :: ns, _, h => by obtain ⟨v, r, rfl, p, q⟩ := Ats.cons_iff.mp h; rw [At.int_iff.mp p, Ats.toInts q]; rfl
end
inductive MO where
  | dict (kvs : List (D × D)) | lst (xs : List D)
  deriving Inhabited
abbrev Sto := List MO
def keyD : D → Option Key
  | .int i => some (.inl i)
  | .str x => some (.inr x)
  | _ => none
def MAt (K : PySem.W.Frag) (H : Hp) (J : List Addr) : MO → Addr → Prop
  | .lst ds, a => ∃ xs, H a = some (.lst xs) ∧ Ats K H J ds xs
  | .dict kvs, a => ∃ ps : List (Key × V), H a = some (.dK ps) ∧ Paired (fun (p : D × D) (q : Key × V) => (keyD p.1 = some q.1 ∧ At K H J p.1 (kV q.1)) ∧ At K H J p.2 q.2) kvs ps
structure StoOk (K : PySem.W.Frag) (J : List Addr) (S : Sto) (H : Hp) : Prop where
  len : J.length = S.length
  nd : J.Nodup
  at_ : ∀ (l : Nat) (a : Addr) (o : MO), J[l]? = some a → S[l]? = some o → MAt K H J o a
section
variable {K : PySem.W.Frag} {H H' : Hp} {J J' : List Addr} {S : Sto}
theorem MAt.ne_none {o : MO} {a : Addr} (h : MAt K H J o a) : H a ≠ none := by
  cases o with
  | dict kvs => obtain ⟨_, e, _⟩ := h; rw [e]; simp
  | lst xs => obtain ⟨_, e, _⟩ := h; rw [e]; simp
theorem StoOk.tracked (s : StoOk K J S H) {a : Addr} (h : a ∈ J) : H a ≠ none := by
  obtain ⟨l, e⟩ := List.getElem?_of_mem h
  have hl : l < S.length := by rw [← s.len]; exact (List.getElem?_eq_some_iff.mp e).1
  exact (s.at_ l a _ e (List.getElem?_eq_getElem hl)).ne_none
theorem StoOk.fresh (s : StoOk K J S H) {a : Addr} (h : H a = none) : a ∉ J := fun m => s.tracked m h
theorem MAt.ex {o : MO} {a : Addr} (e : Ex J H J' H') (k : H' a = H a) (h : MAt K H J o a) : MAt K H' J' o a := by
  cases o with
  | dict kvs => obtain ⟨ps, q, r⟩ := h; exact ⟨ps, k.trans q, Paired.mapP r fun p q z => ⟨⟨z.1.1, z.1.2.ex e⟩, z.2.ex e⟩⟩
  | lst xs => obtain ⟨ys, q, r⟩ := h; exact ⟨ys, k.trans q, r.ex e⟩
theorem StoOk.same (s : StoOk K J S H) (e : Same H H') : StoOk K J S H' := ⟨s.len, s.nd, fun l a o h1 h2 => by
  have q := s.at_ l a o h1 h2
  refine q.ex (Ex.same e) ?_
  obtain ⟨u, hu⟩ := Option.ne_none_iff_exists'.mp q.ne_none
  rw [hu]; exact e a u hu⟩
end
theorem same_upd {H : Hp} {p : Addr} (h : H p = none) (o : HO) : Same H (upd H p o) := fun b u q => by rw [upd_ne (ne_of_none q h)]; exact q
abbrev Rho := List (Option D)
abbrev Out (α : Type) := Option (Except Str α × Sto)
abbrev WT := Str → List Addr → Sto → Hp → Prop
def bindO {α β : Type} (m : Out α) (k : α → Sto → Out β) : Out β :=
  match m with
  | none => none
  | some (.error c, S) => some (.error c, S)
  | some (.ok a, S) => k a S
def okO {α : Type} (a : α) (S : Sto) : Out α := some (.ok a, S)
@[simp] theorem bindO_ok {α β : Type} (a : α) (S : Sto) (k : α → Sto → Out β) : bindO (okO a S) k = k a S := rfl
@[simp] theorem bindO_some {α β : Type} (a : α) (S : Sto) (k : α → Sto → Out β) : bindO (some (.ok a, S)) k = k a S := rfl
@[simp] theorem bindO_err {α β : Type} (c : Str) (S : Sto) (k : α → Sto → Out β) : bindO (some (.error c, S)) k = some (.error c, S) := rfl
@[simp] theorem bindO_none {α β : Type} (k : α → Sto → Out β) : bindO none k = none := rfl
def valO {α : Type} (a : Option α) (S : Sto) : Out α := a.map fun a => (.ok a, S)
@[simp] theorem valO_some {α : Type} (a : α) (S : Sto) : valO (some a) S = okO a S := rfl
@[simp] theorem valO_none {α : Type} (S : Sto) : valO (none : Option α) S = none := rfl
structure Cf (X : Cx) (J : List Addr) (ρ : Rho) (S : Sto) (σ : St) (H : Hp) : Prop where
  len : ρ.length = σ.length
  env : ∀ (i : Nat) (d : D), ρ[i]? = some (some d) → ∃ v, σ[i]? = some (some v) ∧ At X.K H J d v
  sto : StoOk X.K J S H
theorem Cf.re {X : Cx} {J J' : List Addr} {ρ : Rho} {S S' : Sto} {σ : St} {H H' : Hp} (c : Cf X J ρ S σ H) (e : Ex J H J' H') (s : StoOk X.K J' S' H') : Cf X J' ρ S' σ H' :=
  ⟨c.len, fun i d h => let ⟨v, h1, h2⟩ := c.env i d h; ⟨v, h1, h2.ex e⟩, s⟩
def EndE {α β : Type} (X : Cx) (W : WT) (R : List Addr → Hp → α → β → Prop) (J : List Addr) (H : Hp) (r : Except Str α) (S' : Sto) (Q : β → Hp → Prop) : Prop :=
  match r with
  | .ok a => ∀ J' H' b, Ex J H J' H' → StoOk X.K J' S' H' → R J' H' a b → Q b H'
  | .error c => ∀ J' H', Ex J H J' H' → StoOk X.K J' S' H' → W c J' S' H'
def tG {α β : Type} (X : Cx) (W : WT) (R : List Addr → Hp → α → β → Prop) (ds : List D) (vs : List V) (g : Rho → Sto → Out α) : St → Hp → (β → Hp → Prop) → Prop := fun σ H Q =>
  ∃ J ρ S r S', Cf X J ρ S σ H ∧ Ats X.K H J ds vs ∧ g ρ S = some (r, S') ∧ EndE X W R J H r S' Q
abbrev RD (X : Cx) : List Addr → Hp → D → V → Prop := fun J H d v => At X.K H J d v
abbrev RDs (X : Cx) : List Addr → Hp → List D → List V → Prop := fun J H d v => Ats X.K H J d v
abbrev RB : List Addr → Hp → Bool → Bool → Prop := fun _ _ a b => a = b
def tE (X : Cx) (W : WT) (g : Rho → Sto → Out D) : TE := tG X W (RD X) [] [] g
def tA (X : Cx) (W : WT) (g : Rho → Sto → Out (List D)) : TA := tG X W (RDs X) [] [] g
def tT (X : Cx) (W : WT) (g : Rho → Sto → Out Bool) : TT := tG X W RB [] [] g
def SE (X : Cx) (W : WT) (e : Expr) (g : Rho → Sto → Out D) : Prop := PE X e (tE X W g)
def SA (X : Cx) (W : WT) (es : List Expr) (g : Rho → Sto → Out (List D)) : Prop := PA X es (tA X W g)
def TS1 (X : Cx) (W : WT) (e : Expr) (g : Rho → Sto → Out Bool) : Prop := PT X e (tT X W g)
def SW (X : Cx) (W : WT) (e : Expr) (g : Rho → Sto → Out Bool) : Prop := PW X e (tT X W g)
theorem PE.imp {X : Cx} {e : Expr} {t t' : TE} (h : PE X e t) (i : ∀ σ H Q, t' σ H Q → t σ H Q) : PE X e t' := fun pins s σ H Q I z => h pins s σ H Q I (i σ H Q z)
theorem PT.imp {X : Cx} {e : Expr} {t t' : TT} (h : PT X e t) (i : ∀ σ H Q, t' σ H Q → t σ H Q) : PT X e t' := fun pins s σ H Q I z => h pins s σ H Q I (i σ H Q z)
theorem PW.imp {X : Cx} {e : Expr} {t t' : TT} (h : PW X e t) (i : ∀ σ H Q, t' σ H Q → t σ H Q) : PW X e t' := fun wh pins s σ H Q I z => h wh pins s σ H Q I (i σ H Q z)
theorem PA.imp {X : Cx} {e : List Expr} {t t' : TA} (h : PA X e t) (i : ∀ σ H Q, t' σ H Q → t σ H Q) : PA X e t' := fun pos pins s σ H Q I z => h pos pins s σ H Q I (i σ H Q z)
section
variable {X : Cx} {W : WT} {α β γ : Type} {R : List Addr → Hp → γ → β → Prop}
theorem tG.bindE {fa : Rho → Sto → Out D} {k : D → Rho → Sto → Out γ} {ds : List D} {vs : List V} {σ : St} {H : Hp} {Q : β → Hp → Prop}
    (h : tG X W R ds vs (fun ρ S => bindO (fa ρ S) fun d S1 => k d ρ S1) σ H Q) : tE X W fa σ H fun v H1 => ∃ d, tG X W R (d :: ds) (v :: vs) (k d) σ H1 Q := by
  obtain ⟨J, ρ, S, r, S', c, a, e, z⟩ := h
  cases q : fa ρ S with
  | none => simp [q] at e
  | some o =>
    obtain ⟨ro, S1⟩ := o
    simp only [q] at e
    cases ro with
    | error x =>
      cases e
      exact ⟨J, ρ, S, .error x, _, c, .nil, q, z⟩
    | ok d =>
      refine ⟨J, ρ, S, .ok d, S1, c, .nil, q, fun J1 H1 v x s1 m => ⟨d, J1, ρ, S1, r, S', c.re x s1, .cons m (a.ex x), e, ?_⟩⟩
      cases r with
      | ok g => exact fun J2 H2 b x2 s2 r2 => z J2 H2 b (x.trans x2) s2 r2
      | error g => exact fun J2 H2 x2 s2 => z J2 H2 (x.trans x2) s2
theorem tG.bindA {fa : Rho → Sto → Out (List D)} {k : List D → Rho → Sto → Out γ} {ds : List D} {vs : List V} {σ : St} {H : Hp} {Q : β → Hp → Prop}
    (h : tG X W R ds vs (fun ρ S => bindO (fa ρ S) fun d S1 => k d ρ S1) σ H Q) : tA X W fa σ H fun us H1 => ∃ es, es.length = us.length ∧ tG X W R (es ++ ds) (us ++ vs) (k es) σ H1 Q := by
  obtain ⟨J, ρ, S, r, S', c, a, e, z⟩ := h
  cases q : fa ρ S with
  | none => simp [q] at e
  | some o =>
    obtain ⟨ro, S1⟩ := o
    simp only [q] at e
    cases ro with
    | error x =>
      cases e
      exact ⟨J, ρ, S, .error x, _, c, .nil, q, z⟩
    | ok d =>
      refine ⟨J, ρ, S, .ok d, S1, c, .nil, q, fun J1 H1 v x s1 m => ⟨d, Ats.length m, J1, ρ, S1, r, S', c.re x s1, Ats.append m (a.ex x), e, ?_⟩⟩
      cases r with
      | ok g => exact fun J2 H2 b x2 s2 r2 => z J2 H2 b (x.trans x2) s2 r2
      | error g => exact fun J2 H2 x2 s2 => z J2 H2 (x.trans x2) s2
theorem tG.bindT {fa : Rho → Sto → Out Bool} {k : Bool → Rho → Sto → Out γ} {ds : List D} {vs : List V} {σ : St} {H : Hp} {Q : β → Hp → Prop}
    (h : tG X W R ds vs (fun ρ S => bindO (fa ρ S) fun d S1 => k d ρ S1) σ H Q) : tT X W fa σ H fun b H1 => tG X W R ds vs (k b) σ H1 Q := by
  obtain ⟨J, ρ, S, r, S', c, a, e, z⟩ := h
  cases q : fa ρ S with
  | none => simp [q] at e
  | some o =>
    obtain ⟨ro, S1⟩ := o
    simp only [q] at e
    cases ro with
    | error x =>
      cases e
      exact ⟨J, ρ, S, .error x, _, c, .nil, q, z⟩
    | ok d =>
      refine ⟨J, ρ, S, .ok d, S1, c, .nil, q, fun J1 H1 v x s1 m => ?_⟩
      cases m
      refine ⟨J1, ρ, S1, r, S', c.re x s1, a.ex x, e, ?_⟩
      cases r with
      | ok g => exact fun J2 H2 b x2 s2 r2 => z J2 H2 b (x.trans x2) s2 r2
      | error g => exact fun J2 H2 x2 s2 => z J2 H2 (x.trans x2) s2
end
end L2
namespace L2
open PySem PySem.Spec PyProof.Rows
mutual
def toPy : D → Option PyData
  | .non => some .none
  | .bl b => some (.bool b)
  | .int i => some (.int i)
  | .str x => some (.str x)
  | .tup ds => (toPys ds).map .tuple
  | .lst ds => (toPys ds).map .list
  | .set _ => none
  | .loc _ => none
def toPys : List D → Option (List PyData)
  | [] => some []
  | d :: ds => (toPy d).bind fun p => (toPys ds).map fun r => p :: r
end
section
variable {X : Cx} {pins : List (Addr × Obj)} {σ : St} {H : Hp} {s : Shared} {J : List Addr}
mutual
theorem At.reads (I : Inv X pins σ H s) : ∀ {d : D} {v : V} {u : Value} {p : PyData}, At X.K H J d v → RelV v u → toPy d = some p → p.canLay0 = true ∧ ∃ as, Reads s.heap u p as
  | .non, _, _, _, h, r, e => by
    have h := At.non_iff.mp h; subst h; simp [toPy] at e; subst e; cases r; exact ⟨rfl, [], .none⟩
  | .bl b, _, _, _, h, r, e => by
    have h := At.bl_iff.mp h; subst h; simp [toPy] at e; subst e; cases r; exact ⟨rfl, [], .bool b⟩
  | .int i, _, _, _, h, r, e => by
    have h := At.int_iff.mp h; subst h; simp [toPy] at e; subst e; obtain ⟨t, rfl⟩ := r; exact ⟨rfl, [], .int i t⟩
  | .str x, _, _, _, h, r, e => by
    obtain ⟨ev, hk⟩ := At.str_iff.mp h; subst ev; simp [toPy] at e; subst e; obtain ⟨t, rfl⟩ := r
    exact ⟨by rw [PyData.canLay0]; exact hk.2, [], .str x t⟩
  | .tup ds, _, _, _, h, r, e => by
    obtain ⟨a, xs, rfl, q, z⟩ := At.tup_iff.mp h
    rw [toPy] at e
    obtain ⟨ps, e1, e2⟩ := Option.map_eq_some_iff.mp e
    subst e2
    cases r
    obtain ⟨its, rv, ⟨o, ho, hc, n, hd⟩, _⟩ := I.tuple q.sq
    obtain ⟨c, as, ra⟩ := Ats.readsAll I z rv e1
    exact ⟨by rw [PyData.canLay0]; exact c, _, .tuple ho hc hd (by simpa using ra)⟩
  | .lst ds, _, _, _, h, r, e => by
    obtain ⟨a, xs, rfl, q, z⟩ := At.lst_iff.mp h
    rw [toPy] at e
    obtain ⟨ps, e1, e2⟩ := Option.map_eq_some_iff.mp e
    subst e2
    cases r
    obtain ⟨its, rv, ⟨o, n, ho, hc, _, hd⟩, _⟩ := I.list q.sq
    obtain ⟨c, as, ra⟩ := Ats.readsAll I z rv e1
    exact ⟨by rw [PyData.canLay0]; exact c, _, .list ho hc hd (by simpa using ra)⟩
  | .set _, _, _, _, _, _, e => by simp [toPy] at e
  | .loc _, _, _, _, _, _, e => by simp [toPy] at e
theorem Ats.readsAll (I : Inv X pins σ H s) : ∀ {ds : List D} {vs : List V} {us : List Value} {ps : List PyData}, Ats X.K H J ds vs → Vals vs us → toPys ds = some ps → PyData.canLayAll0 ps = true ∧ ∃ as, ReadsAll s.heap us ps as
  | [], _, _, _, h, r, e => by
    have h := Ats.nil_iff.mp h; subst h; simp [toPys] at e; subst e; cases r; exact ⟨rfl, [], .nil⟩
  | d :: ds, _, _, _, h, r, e => by
    obtain ⟨v, vs, rfl, p, q⟩ := Ats.cons_iff.mp h
    rw [toPys] at e
    obtain ⟨pd, e1, e2⟩ := Option.bind_eq_some_iff.mp e
    obtain ⟨pr, e3, e4⟩ := Option.map_eq_some_iff.mp e2
    subst e4
    cases r with
    | cons r1 r2 =>
      obtain ⟨c1, as, ra⟩ := At.reads I p r1 e1
      obtain ⟨c2, bs, rb⟩ := Ats.readsAll I q r2 e3
      exact ⟨by rw [PyData.canLayAll0, c1, c2]; rfl, _, .cons ra rb⟩
end
end
section
variable {K : PySem.W.Frag}
def rD1 (K : PySem.W.Frag) (g : D → Option D) : V → Hp → VK → Prop := fun x H Q => ∃ J dx d, (∀ a ∈ J, H a ≠ none) ∧ At K H J dx x ∧ g dx = some d ∧ ∀ H' v, Same H H' → At K H' J d v → Q v H'
def rD2 (K : PySem.W.Frag) (g : D → D → Option D) : R2 := fun x y H Q => ∃ J dx dy d, (∀ a ∈ J, H a ≠ none) ∧ At K H J dx x ∧ At K H J dy y ∧ g dx dy = some d ∧ ∀ H' v, Same H H' → At K H' J d v → Q v H'
def rDs (K : PySem.W.Frag) (g : List D → Option D) : List V → Hp → VK → Prop := fun xs H Q => ∃ J ds d, (∀ a ∈ J, H a ≠ none) ∧ Ats K H J ds xs ∧ g ds = some d ∧ ∀ H' v, Same H H' → At K H' J d v → Q v H'
end
theorem fresh_J {H : Hp} {J : List Addr} (h : ∀ a ∈ J, H a ≠ none) {p : Addr} (n : H p = none) : p ∉ J := fun m => h p m n
theorem At.newTup {K : PySem.W.Frag} {H : Hp} {J : List Addr} {p : Addr} {ds : List D} {xs : List V} (h : Ats K H J ds xs) (n : H p = none) (hJ : ∀ a ∈ J, H a ≠ none) (hz : xs.length ≤ sizeLine) : At K (upd H p (.tup xs)) J (.tup ds) (.ref p) :=
  At.tup_iff.mpr ⟨p, xs, rfl, .inl ⟨.inl upd_same, fresh_J hJ n, hz⟩, h.ex (Ex.same (same_upd n _))⟩
theorem At.newLst {K : PySem.W.Frag} {H : Hp} {J : List Addr} {p : Addr} {ds : List D} {xs : List V} (h : Ats K H J ds xs) (n : H p = none) (hJ : ∀ a ∈ J, H a ≠ none) (hz : xs.length ≤ sizeLine) : At K (upd H p (.lst xs)) J (.lst ds) (.ref p) :=
  At.lst_iff.mpr ⟨p, xs, rfl, .inl ⟨.inl upd_same, fresh_J hJ n, hz⟩, h.ex (Ex.same (same_upd n _))⟩
section
variable {X : Cx} {W : WT}
theorem tG.mono {α β : Type} {R : List Addr → Hp → α → β → Prop} {ds : List D} {vs : List V} {g : Rho → Sto → Out α} {σ : St} {H : Hp} {Q Q' : β → Hp → Prop} (h : tG X W R ds vs g σ H Q) (i : ∀ b H', Q b H' → Q' b H') : tG X W R ds vs g σ H Q' := by
  obtain ⟨J, ρ, S, r, S', c, a, e, z⟩ := h
  refine ⟨J, ρ, S, r, S', c, a, e, ?_⟩
  cases r with
  | ok g => exact fun J' H' b x s r => i _ _ (z J' H' b x s r)
  | error g => exact z
theorem StoOk.all {K : PySem.W.Frag} {J : List Addr} {S : Sto} {H : Hp} (s : StoOk K J S H) : ∀ a ∈ J, H a ≠ none := fun _ m => s.tracked m
theorem tG.op1 {g : D → Option D} {dx : D} {x : V} {σ : St} {H : Hp} {Q : VK} (h : tG X W (RD X) [dx] [x] (fun _ S => valO (g dx) S) σ H Q) : rD1 X.K g x H Q := by
  obtain ⟨J, ρ, S, r, S', c, a, e, z⟩ := h
  obtain ⟨ax, _⟩ := a.uncons
  cases q : g dx with
  | none => simp [q] at e
  | some d =>
    simp only [q, valO_some, okO] at e
    cases e
    exact ⟨J, dx, d, c.sto.all, ax, q, fun H' v s m => z J H' v (Ex.same s) (c.sto.same s) m⟩
theorem tG.op2 {g : D → D → Option D} {dx dy : D} {x y : V} {σ : St} {H : Hp} {Q : VK} (h : tG X W (RD X) [dy, dx] [y, x] (fun _ S => valO (g dx dy) S) σ H Q) : rD2 X.K g x y H Q := by
  obtain ⟨J, ρ, S, r, S', c, a, e, z⟩ := h
  obtain ⟨ay, a⟩ := a.uncons
  obtain ⟨ax, _⟩ := a.uncons
  cases q : g dx dy with
  | none => simp [q] at e
  | some d =>
    simp only [q, valO_some, okO] at e
    cases e
    exact ⟨J, dx, dy, d, c.sto.all, ax, ay, q, fun H' v s m => z J H' v (Ex.same s) (c.sto.same s) m⟩
theorem tG.opS {g : List D → Option D} {ds : List D} {xs : List V} {σ : St} {H : Hp} {Q : VK} (h : tG X W (RD X) ds xs (fun _ S => valO (g ds) S) σ H Q) : rDs X.K g xs H Q := by
  obtain ⟨J, ρ, S, r, S', c, a, e, z⟩ := h
  cases q : g ds with
  | none => simp [q] at e
  | some d =>
    simp only [q, valO_some, okO] at e
    cases e
    exact ⟨J, ds, d, c.sto.all, a, q, fun H' v s m => z J H' v (Ex.same s) (c.sto.same s) m⟩
theorem OpR.imp {f : Value → Value → Sem Value} {r r' : R2} (h : OpR X f r) (i : ∀ x y H Q, r' x y H Q → r x y H Q) : OpR X f r' := fun pins s σ H x y v u Q I rx ry q => h pins s σ H x y v u Q I rx ry (i _ _ _ _ q)
theorem UnR.imp {f : Value → Sem Value} {r r' : V → Hp → VK → Prop} (h : UnR X f r) (i : ∀ x H Q, r' x H Q → r x H Q) : UnR X f r' := fun pins s σ H x v Q I rx q => h pins s σ H x v Q I rx (i _ _ _ q)
theorem CallR.imp {f : Value} {r r' : List V → Hp → VK → Prop} (h : CallR X f r) (i : ∀ xs H Q, r' xs H Q → r xs H Q) : CallR X f r' := fun pins s σ H xs us Q I rx q => h pins s σ H xs us Q I rx (i _ _ _ q)
abbrev OpD (X : Cx) (f : Value → Value → Sem Value) (g : D → D → Option D) : Prop := OpR X f (rD2 X.K g)
abbrev UnD (X : Cx) (f : Value → Sem Value) (g : D → Option D) : Prop := UnR X f (rD1 X.K g)
abbrev CallD (X : Cx) (f : Value) (g : List D → Option D) : Prop := CallR X f (rDs X.K g)
def cVar (i : Nat) : Rho → Sto → Out D := fun ρ S => match ρ[i]? with
  | some (some d) => okO d S
  | _ => none
theorem se_var {i : Nat} {x : Str} {pos : Pos} (hN : X.N[i]? = some x := by rfl) (hv : Vis X.env.scope x := by first | exact Or.inl rfl | exact Or.inr (Or.inl rfl) | exact Or.inr (Or.inr rfl)) (hd : (x == ("__debug__" : Str)) = false := by decide)
    (hcd : (x == ("__classdict__" : Str)) = false := by decide) : SE X W (.Name x pos) (cVar i) := (pe_var hN hv hd hcd).imp fun σ H Q h => by
  obtain ⟨J, ρ, S, r, S', c, _, e, z⟩ := h
  unfold cVar at e
  split at e
  · rename_i d q
    obtain ⟨v, h1, h2⟩ := c.env i d q
    cases e
    exact ⟨v, h1, z J H v Ex.refl c.sto h2⟩
  · cases e
def cCon (d : D) : Rho → Sto → Out D := fun _ S => okO d S
theorem con_end {d : D} {v : V} {σ : St} {H : Hp} {Q : VK} (h : tE X W (cCon d) σ H Q) (a : ∀ J, At X.K H J d v) : Q v H := by
  obtain ⟨J, ρ, S, r, S', c, _, e, z⟩ := h
  cases e
  exact z J H v Ex.refl c.sto (a J)
theorem se_int {i j pos} : SE X W (.Constant (.int i) j pos) (cCon (.int i)) := pe_int.imp fun σ H Q h => con_end h fun _ => At.int_iff.mpr rfl
theorem se_bl {b j pos} : SE X W (.Constant (.bool b) j pos) (cCon (.bl b)) := pe_bl.imp fun σ H Q h => con_end h fun _ => At.bl_iff.mpr rfl
theorem se_non {j pos} : SE X W (.Constant .none j pos) (cCon .non) := pe_non.imp fun σ H Q h => con_end h fun _ => At.non_iff.mpr rfl
theorem se_str {x j pos} (hx : okS x := by exact ⟨by decide, by decide +kernel⟩) : SE X W (.Constant (.str x) j pos) (cCon (.str x)) := pe_str.imp fun σ H Q h => con_end h fun _ => At.str_iff.mpr ⟨rfl, hx⟩
def ConAt (K : PySem.W.Frag) (u : Value) (d : D) : Prop := ∃ v, RelV v u ∧ ∀ H J, At K H J d v
theorem se_glob {x : Str} {d : D} {u : Value} {pos : Pos} (hm : X.mg x = some u) (ha : ConAt X.K u d) (hg : Gl X x := by rfl) (hd : (x == ("__debug__" : Str)) = false := by decide) : SE X W (.Name x pos) (cCon d) := by
  obtain ⟨v, r, a⟩ := ha
  exact (pe_glob hg hm r hd).imp fun σ H Q h => con_end h fun J => a H J
def cBin (g : D → D → Option D) (fa fb : Rho → Sto → Out D) : Rho → Sto → Out D := fun ρ S => bindO (fa ρ S) fun x S1 => bindO (fb ρ S1) fun y S2 => valO (g x y) S2
def cUn (g : D → Option D) (fa : Rho → Sto → Out D) : Rho → Sto → Out D := fun ρ S => bindO (fa ρ S) fun x S1 => valO (g x) S1
variable {a b c : Expr} {fa fb fc : Rho → Sto → Out D} {pos : Pos}
theorem bin_read {g : D → D → Option D} {σ : St} {H : Hp} {Q : VK} (h : tE X W (cBin g fa fb) σ H Q) : tOp (rD2 X.K g) (tE X W fa) (tE X W fb) σ H Q :=
  (tG.bindE h).mono fun v H1 ⟨d, h1⟩ => (tG.bindE h1).mono fun v2 H2 ⟨d2, h2⟩ => tG.op2 h2
theorem se_bin {op : Operator} {g : D → D → Option D} (ho : OpD X (binaryOp op) g) (ha : SE X W a fa) (hb : SE X W b fb) : SE X W (.BinOp a op b pos) (cBin g fa fb) :=
  (pe_op ho ha hb).imp fun σ H Q h => bin_read h
theorem se_un {op : UnaryOp} {g : D → Option D} (ho : UnD X (unaryOp op) g) (ha : SE X W a fa) : SE X W (.UnaryOp op a pos) (cUn g fa) :=
  (pe_un ho ha).imp fun σ H Q h => (tG.bindE h).mono fun v H1 ⟨d, h1⟩ => tG.op1 h1
theorem se_cmp {op : CmpOp} {g : D → D → Option D} (ho : OpD X (compareOp op) g) (ha : SE X W a fa) (hb : SE X W b fb) (hm : behindInMarks op b = false := by first | exact nomark _ (by decide) (by decide) | with_unfolding_all rfl) : SE X W (.Compare a [op] [b] pos) (cBin g fa fb) :=
  (pe_cmpR ho ha hb hm).imp fun σ H Q h => bin_read h
def blO : D → Option Bool
  | .bl b => some b
  | _ => none
def cTst (f : Rho → Sto → Out D) : Rho → Sto → Out Bool := fun ρ S => bindO (f ρ S) fun x S1 => valO (blO x) S1
theorem tst_read {f : Rho → Sto → Out D} {σ : St} {H : Hp} {Q : Bool → Hp → Prop} (h : tT X W (cTst f) σ H Q) : tTest (tE X W f) σ H Q :=
  (tG.bindE h).mono fun v H1 ⟨d, h1⟩ => by
    obtain ⟨J, ρ, S, r, S', c, m, e, z⟩ := h1
    obtain ⟨m, _⟩ := m.uncons
    cases d with
    | bl k =>
      cases e
      exact ⟨k, At.bl_iff.mp m, z J H1 k Ex.refl c.sto rfl⟩
    | _ => simp [blO] at e
theorem tTest.mono {t t' : TE} (i : ∀ σ H Q, t' σ H Q → t σ H Q) {σ : St} {H : Hp} {Q : Bool → Hp → Prop} (h : tTest t' σ H Q) : tTest t σ H Q := i _ _ _ h
theorem ts_cmp {op : CmpOp} {g : D → D → Option D} (ho : OpD X (compareOp op) g) (ha : SE X W a fa) (hb : SE X W b fb) (hm : behindInMarks op b = false := by first | exact nomark _ (by decide) (by decide) | with_unfolding_all rfl) :
    TS1 X W (.Compare a [op] [b] pos) (cTst (cBin g fa fb)) :=
  (pt_cmpR ho ha hb hm).imp fun σ H Q h => tTest.mono (fun _ _ _ => bin_read) (tst_read h)
theorem ts_val (ha : SE X W a fa) (he : ∀ whole, isTrue a X.env whole = (do let v ← whole; standAt a.pos; holding [v] (truthy v)) := by intro _; rfl) : TS1 X W a (cTst fa) :=
  (pt_val ha he).imp fun σ H Q h => tst_read h
def cChain (g g' : D → D → Option D) (fa fb fc : Rho → Sto → Out D) : Rho → Sto → Out D := fun ρ S => bindO (fa ρ S) fun x S1 => bindO (fb ρ S1) fun y S2 => bindO (valO ((g x y).bind blO) S2) fun k S3 =>
  if k = true then bindO (fc ρ S3) fun z S4 => valO (g' y z) S4 else okO (.bl false) S3
theorem chain_read {g g' : D → D → Option D} {σ : St} {H : Hp} {Q : VK} (h : tE X W (cChain g g' fa fb fc) σ H Q) : tChain (rD2 X.K g) (rD2 X.K g') (tE X W fa) (tE X W fb) (tE X W fc) σ H Q :=
  (tG.bindE h).mono fun x H1 ⟨dx, h1⟩ => (tG.bindE h1).mono fun y H2 ⟨dy, h2⟩ => by
    obtain ⟨J, ρ, S, r, S', c, m, e, z⟩ := h2
    obtain ⟨my, m'⟩ := m.uncons
    obtain ⟨mx, _⟩ := m'.uncons
    cases q : g dx dy with
    | none => simp [q] at e
    | some d =>
      cases d with
      | bl k =>
        simp only [q, Option.bind_some, blO, valO_some, bindO_ok] at e
        refine ⟨J, dx, dy, _, c.sto.all, mx, my, q, fun H3 v s3 m3 => ?_⟩
        cases At.bl_iff.mp m3
        refine ⟨k, rfl, ?_⟩
        have x3 : Ex J H2 J H3 := Ex.same s3
        have z3 : EndE X W (RD X) J H3 r S' Q := by
          cases r with
          | ok w => exact fun J' H' b x s r => z J' H' b (x3.trans x) s r
          | error w => exact fun J' H' x s => z J' H' (x3.trans x) s
        cases k with
        | true =>
          rw [if_pos rfl]
          rw [if_pos rfl] at e
          have h3 : tG X W (RD X) [dy] [y] (fun ρ S3 => bindO (fc ρ S3) fun z S4 => valO (g' dy z) S4) σ H3 Q := ⟨J, ρ, S, r, S', c.re x3 (c.sto.same s3), .cons (my.ex x3) .nil, e, z3⟩
          exact (tG.bindE h3).mono fun w H4 ⟨dw, h4⟩ => tG.op2 h4
        | false =>
          rw [if_neg (by decide)]
          rw [if_neg (by decide)] at e
          cases e
          exact z3 J H3 _ Ex.refl (c.sto.same s3) (At.bl_iff.mpr rfl)
      | _ => simp [q, blO] at e
theorem se_chain {op op' : CmpOp} {g g' : D → D → Option D} (ho : OpD X (compareOp op) g) (ho' : OpD X (compareOp op') g') (ha : SE X W a fa) (hb : SE X W b fb) (hc : SE X W c fc)
    (hm : lastMarks [op, op'] [b, c] = false := by with_unfolding_all rfl) : SE X W (.Compare a [op, op'] [b, c] pos) (cChain g g' fa fb fc) :=
  (pe_chain ho ho' ha hb hc hm).imp fun σ H Q h => chain_read h
theorem ts_chain {op op' : CmpOp} {g g' : D → D → Option D} (ho : OpD X (compareOp op) g) (ho' : OpD X (compareOp op') g') (ha : SE X W a fa) (hb : SE X W b fb) (hc : SE X W c fc)
    (hm : lastMarks [op, op'] [b, c] = false := by with_unfolding_all rfl) : TS1 X W (.Compare a [op, op'] [b, c] pos) (cTst (cChain g g' fa fb fc)) :=
  (pt_chain ho ho' ha hb hc hm).imp fun σ H Q h => tTest.mono (fun _ _ _ => chain_read) (tst_read h)
def cAndT (f g : Rho → Sto → Out Bool) : Rho → Sto → Out Bool := fun ρ S => bindO (f ρ S) fun k S1 => if k = true then g ρ S1 else okO false S1
def cOrT (f g : Rho → Sto → Out Bool) : Rho → Sto → Out Bool := fun ρ S => bindO (f ρ S) fun k S1 => if k = true then okO true S1 else g ρ S1
def cNotT (f : Rho → Sto → Out Bool) : Rho → Sto → Out Bool := fun ρ S => bindO (f ρ S) fun k S1 => okO (!k) S1
variable {ga gb : Rho → Sto → Out Bool} {rest : List Expr}
theorem ok_bool {k : Bool} {σ : St} {H : Hp} {Q : Bool → Hp → Prop} (h : tG X W RB [] [] (fun _ S => okO k S) σ H Q) : Q k H := by
  obtain ⟨J, ρ, S, r, S', c, _, e, z⟩ := h
  cases e
  exact z J H k Ex.refl c.sto rfl
theorem sw_and1 (ha : TS1 X W a ga) : SW X W (.BoolOp .And [a] pos) ga := pw_and1 ha
theorem sw_or1 (ha : TS1 X W a ga) : SW X W (.BoolOp .Or [a] pos) ga := pw_or1 ha
theorem sw_and (ha : TS1 X W a ga) (hb : SW X W (.BoolOp .And (b :: rest) pos) gb) : SW X W (.BoolOp .And (a :: b :: rest) pos) (cAndT ga gb) :=
  (pw_and ha hb).imp fun σ H Q h => (tG.bindT h).mono fun k H1 h1 => by
    cases k with
    | true => rw [if_pos rfl]; exact h1
    | false => rw [if_neg (by decide)]; exact ok_bool h1
theorem sw_or (ha : TS1 X W a ga) (hb : SW X W (.BoolOp .Or (b :: rest) pos) gb) : SW X W (.BoolOp .Or (a :: b :: rest) pos) (cOrT ga gb) :=
  (pw_or ha hb).imp fun σ H Q h => (tG.bindT h).mono fun k H1 h1 => by
    cases k with
    | true => rw [if_pos rfl]; exact ok_bool h1
    | false => rw [if_neg (by decide)]; exact h1
theorem ts_bool {e : Expr} (h : SW X W e ga) : TS1 X W e ga := PW.pt h
theorem ts_not (ha : TS1 X W a ga) : TS1 X W (.UnaryOp .Not a pos) (cNotT ga) := (pt_not ha).imp fun σ H Q h => (tG.bindT h).mono fun k H1 h1 => ok_bool h1
def cAnd (f g : Rho → Sto → Out D) : Rho → Sto → Out D := fun ρ S => bindO (f ρ S) fun x S1 => bindO (valO (blO x) S1) fun k S2 => if k = true then g ρ S2 else okO (.bl false) S2
def cOr (f g : Rho → Sto → Out D) : Rho → Sto → Out D := fun ρ S => bindO (f ρ S) fun x S1 => bindO (valO (blO x) S1) fun k S2 => if k = true then okO (.bl true) S2 else g ρ S2
def cNot (f : Rho → Sto → Out D) : Rho → Sto → Out D := fun ρ S => bindO (f ρ S) fun x S1 => bindO (valO (blO x) S1) fun k S2 => okO (.bl (!k)) S2
theorem blv {f : Rho → Sto → Out D} {k : Bool → Rho → Sto → Out D} {σ : St} {H : Hp} {Q : VK} (h : tE X W (fun ρ S => bindO (f ρ S) fun x S1 => bindO (valO (blO x) S1) fun b S2 => k b ρ S2) σ H Q) :
    tE X W f σ H fun x H1 => ∃ c, x = .bl c ∧ tE X W (k c) σ H1 Q := (tG.bindE h).mono fun v H1 ⟨d, h1⟩ => by
  obtain ⟨J, ρ, S, r, S', c, m, e, z⟩ := h1
  obtain ⟨m, _⟩ := m.uncons
  cases d with
  | bl b => exact ⟨b, At.bl_iff.mp m, J, ρ, S, r, S', c, .nil, e, z⟩
  | _ => simp [blO] at e
theorem ok_blD {k : Bool} {σ : St} {H : Hp} {Q : VK} (h : tE X W (fun _ S => okO (.bl k) S) σ H Q) : Q (.bl k) H := con_end (d := .bl k) h fun _ => At.bl_iff.mpr rfl
theorem se_one {op} (ha : SE X W a fa) : SE X W (.BoolOp op [a] pos) fa := pe_one ha
theorem se_and (ha : SE X W a fa) (hb : SE X W (.BoolOp .And (b :: rest) pos) fb) : SE X W (.BoolOp .And (a :: b :: rest) pos) (cAnd fa fb) :=
  (pe_and ha hb).imp fun σ H Q h => (blv (k := fun k ρ S => if k = true then fb ρ S else okO (.bl false) S) h).mono fun v H1 ⟨k, e, h1⟩ => ⟨k, e, by
    cases k with
    | true => rw [if_pos rfl]; exact h1
    | false => rw [if_neg (by decide)]; exact ok_blD h1⟩
theorem se_not (ha : SE X W a fa) : SE X W (.UnaryOp .Not a pos) (cNot fa) :=
  (pe_not ha).imp fun σ H Q h => (blv (k := fun k _ S => okO (.bl (!k)) S) h).mono fun v H1 ⟨k, e, h1⟩ => ⟨k, e, ok_blD h1⟩
def cIte (t : Rho → Sto → Out Bool) (f g : Rho → Sto → Out D) : Rho → Sto → Out D := fun ρ S => bindO (t ρ S) fun k S1 => if k = true then f ρ S1 else g ρ S1
def cNil : Rho → Sto → Out (List D) := fun _ S => okO [] S
def cCons (f : Rho → Sto → Out D) (g : Rho → Sto → Out (List D)) : Rho → Sto → Out (List D) := fun ρ S => bindO (f ρ S) fun d S1 => bindO (g ρ S1) fun ds S2 => okO (d :: ds) S2
variable {es : List Expr} {gs : Rho → Sto → Out (List D)}
theorem sa_nil : SA X W [] cNil := pa_nil.imp fun σ H Q h => by
  obtain ⟨J, ρ, S, r, S', c, _, e, z⟩ := h
  cases e
  exact z J H _ Ex.refl c.sto .nil
theorem sa_cons {e : Expr} (ha : SE X W e fa) (hr : SA X W es gs) (hs : starEach (e :: es) X.env = (false, eval e X.env) :: starEach es X.env := by rfl) : SA X W (e :: es) (cCons fa gs) :=
  (pa_cons ha hr hs).imp fun σ H Q h => (tG.bindE h).mono fun v H1 ⟨d, h1⟩ => (tG.bindA h1).mono fun us H2 ⟨ds, hl, h2⟩ => by
    obtain ⟨J, ρ, S, r, S', c, m, e, z⟩ := h2
    cases e
    refine z J H2 _ Ex.refl c.sto ?_
    have split : ∀ {ds : List D} {us : List V}, ds.length = us.length → Ats X.K H2 J (ds ++ [d]) (us ++ [v]) → Ats X.K H2 J ds us ∧ At X.K H2 J d v := by
      intro ds
      induction ds with
      | nil => intro us hl m; cases us with
        | nil => exact ⟨.nil, m.uncons.1⟩
        | cons _ _ => simp at hl
      | cons x xs ih => intro us hl m; cases us with
        | nil => simp at hl
        | cons y ys =>
          have q := Ats.uncons (show Ats X.K H2 J (x :: (xs ++ [d])) (y :: (ys ++ [v])) from m)
          have q2 := ih (by simpa using hl) q.2
          exact ⟨.cons q.1 q2.1, q2.2⟩
    have q := split hl m
    exact .cons q.2 q.1
def szO (ds : List D) (d : D) : Option D := if ds.length ≤ sizeLine then some d else none
def cTup (g : Rho → Sto → Out (List D)) : Rho → Sto → Out D := fun ρ S => bindO (g ρ S) fun ds S1 => valO (szO ds (.tup ds)) S1
def cLst (g : Rho → Sto → Out (List D)) : Rho → Sto → Out D := fun ρ S => bindO (g ρ S) fun ds S1 => valO (szO ds (.lst ds)) S1
theorem se_tup {k} (h : SA X W es gs) : SE X W (.Tuple es k pos) (cTup gs) := (pe_tup h).imp fun σ H Q h => (tG.bindA h).mono fun us H1 ⟨ds, hl, h1⟩ => by
  rw [List.append_nil, List.append_nil] at h1
  obtain ⟨J, ρ, S, r, S', c, m, e, z⟩ := h1
  unfold szO at e
  split at e
  · rename_i le
    cases e
    exact ⟨by rw [← hl]; exact le, fun p hp => z J _ _ (Ex.same (same_upd hp _)) (c.sto.same (same_upd hp _)) (At.newTup m hp c.sto.all (by rw [← hl]; exact le))⟩
  · cases e
theorem se_lst (h : SA X W es gs) : SE X W (.List es pos) (cLst gs) := (pe_lst h).imp fun σ H Q h => (tG.bindA h).mono fun us H1 ⟨ds, hl, h1⟩ => by
  rw [List.append_nil, List.append_nil] at h1
  obtain ⟨J, ρ, S, r, S', c, m, e, z⟩ := h1
  unfold szO at e
  split at e
  · rename_i le
    cases e
    exact ⟨by rw [← hl]; exact le, fun p hp => z J _ _ (Ex.same (same_upd hp _)) (c.sto.same (same_upd hp _)) (At.newLst m hp c.sto.all (by rw [← hl]; exact le))⟩
  · cases e
def cCall (g : List D → Option D) (t : Rho → Sto → Out (List D)) : Rho → Sto → Out D := fun ρ S => bindO (t ρ S) fun ds S1 => valO (g ds) S1
theorem callB_read {g : List D → Option D} {σ : St} {H : Hp} {Q : VK} (h : tE X W (cCall g gs) σ H Q) : tCB (rDs X.K g) (tA X W gs) σ H Q :=
  (tG.bindA h).mono fun us H1 ⟨ds, hl, h1⟩ => by
    rw [List.append_nil, List.append_nil] at h1
    exact tG.opS h1
theorem se_callB {g : List D → Option D} {id : String} {x : Str} {p : Pos} {e : Expr} (hc : CallD X (.builtin id) g) (hm : X.mg x = none) (hv : bootBuiltins x = some (.builtin id)) (ha : SA X W (e :: es) gs) (hg : Gl X x := by rfl)
    (hn : x ≠ "__name__" := by decide) (hdb : (x == ("__debug__" : Str)) = false := by decide) (he : starEach (e :: es) X.env = (false, eval e X.env) :: starEach es X.env := by rfl) (hpl : (backTo pos (starEach es X.env)).any (·.1) = false := by rfl) :
    SE X W (.Call (.Name x p) (e :: es) [] pos) (cCall g gs) := by
  refine PE.imp (pe_callB hc hg hm hv ha hn hdb he hpl) fun σ H Q h => callB_read h
theorem se_callTy {g : List D → Option D} {T : String} {x : Str} {p : Pos} {e : Expr} (hc : CallD X (.type T) g) (hm : X.mg x = none) (hv : bootBuiltins x = some (.type T)) (ha : SA X W (e :: es) gs) (hg : Gl X x := by rfl)
    (hn : x ≠ "__name__" := by decide) (hdb : (x == ("__debug__" : Str)) = false := by decide) (he : starEach (e :: es) X.env = (false, eval e X.env) :: starEach es X.env := by rfl) (hpl : (backTo pos (starEach es X.env)).any (·.1) = false := by rfl) :
    SE X W (.Call (.Name x p) (e :: es) [] pos) (cCall g gs) := by
  refine PE.imp (pe_callTy hc hg hm hv ha hn hdb he hpl) fun σ H Q h => callB_read h
end
end L2
namespace L2
open PySem PySem.Spec PyProof.Rows
section
variable {X : Cx}
theorem strOk_append {x y : Str} (hx : PyData.strOk x = true) (hy : PyData.strOk y = true) : PyData.strOk (x ++ y) = true := by
  unfold PyData.strOk at *
  rw [show (x ++ y).cps = x.cps ++ y.cps from rfl, Array.all_append, hx, hy]; rfl
def addD : D → D → Option D
  | .int i, .int j => some (.int (i + j))
  | .str x, .str y => if x.length + y.length ≤ sizeLine then some (.str (x ++ y)) else none
  | .tup xs, .tup ys => if xs.length + ys.length ≤ sizeLine then some (.tup (xs ++ ys)) else none
  | .lst xs, .lst ys => if xs.length + ys.length ≤ sizeLine then some (.lst (xs ++ ys)) else none
  | _, _ => none
theorem cat_tup0 {prog : Program} {w : World} {A : Around} {E : Value → Shared → Prop} {s : Shared} {t b : Addr} {vs ws : List Value} {Q : Value → Shared → Prop} (ht : IsTup s.heap t vs.toArray) (hb : IsTup s.heap b ws.toArray) (hv : vs = [])
    (h1 : Q (.ref b) s) : wpAny (model prog w) A (binaryOp .Add (.ref t) (.ref b)) Q E s := by
  obtain ⟨⟨cls, dd, data, sl⟩, ho, hc, n, hd⟩ := id ht
  obtain ⟨⟨cls2, dd2, data2, sl2⟩, ho2, hc2, n2, hd2⟩ := id hb
  simp only at hc hd hc2 hd2
  subst hc hd hc2 hd2
  exact concat_meets ⟨_, ho, rfl⟩ ⟨_, ho2, rfl⟩ noFill_tuple_add seq_tuple_add PySem.F.slot_tuple_add PySem.F.entry_tuple_add (PySem.F.args_tuple_add_2 _ _)
      (tuple_addW0 t b vs.toArray ws.toArray n n2 dd dd2 sl sl2 (by simp [hv])) ⟨ho, ho2, h1⟩
theorem catL_lists {prog : Program} {w : World} {A : Around} {E : Value → Shared → Prop} {s : Shared} {t b : Addr} {vs ws : Array Value} {Q : Value → Shared → Prop} (ht : PlainL s.heap t vs) (hb : PlainL s.heap b ws)
    (h : Q (.ref s.heap.objs.size) { s with heap := s.heap.push { cls := .type "list", data := .seq (vs ++ ws) } }) (hsz : vs.size + ws.size ≤ sizeLine) : wpAny (model prog w) A (binaryOp .Add (.ref t) (.ref b)) Q E s := by
  obtain ⟨⟨cls, dd, data, sl⟩, n, ho, hc, _, hd⟩ := id ht
  obtain ⟨⟨cls2, dd2, data2, sl2⟩, n2, ho2, hc2, _, hd2⟩ := id hb
  simp only at hc hd hc2 hd2
  subst hc hd hc2 hd2
  exact concat_meets ⟨_, ho, rfl⟩ ⟨_, ho2, rfl⟩ noFill_list_add seq_list_add PySem.F.slot_list_add PySem.F.entry_list_add (PySem.F.args_list_add_2 _ _)
      (list_addW t b vs ws n n2 dd dd2 sl sl2 hsz) ⟨ho, ho2, h⟩
theorem str_len_append (x y : Str) : (x ++ y).length = x.length + y.length := by
  show (x.cps ++ y.cps).size = _
  rw [Array.size_append]; rfl
theorem od_add : OpD X (binaryOp .Add) addD := by
  intro pins s σ H x y v u Q I rx ry h
  obtain ⟨J, dx, dy, d, hJ, ax, ay, e, q⟩ := h
  unfold addD at e
  split at e
  · rename_i i j
    cases e
    cases At.int_iff.mp ax; cases At.int_iff.mp ay
    exact op_add pins s σ H _ _ v u Q I rx ry ⟨i, j, rfl, rfl, q H _ (Same.refl H) (At.int_iff.mpr rfl)⟩
  · rename_i a b
    split at e
    · rename_i le
      cases e
      obtain ⟨ex, kx⟩ := At.str_iff.mp ax; obtain ⟨ey, ky⟩ := At.str_iff.mp ay
      subst ex ey
      exact op_add_str pins s σ H _ _ v u Q I rx ry ⟨a, b, rfl, rfl, le, q H _ (Same.refl H) (At.str_iff.mpr ⟨rfl, by rw [str_len_append]; exact le, strOk_append kx.2 ky.2⟩)⟩
    · cases e
  · rename_i xs ys
    split at e
    · rename_i le
      cases e
      obtain ⟨a, us, rfl, t1, m1⟩ := At.tup_iff.mp ax
      obtain ⟨b, ws, rfl, t2, m2⟩ := At.tup_iff.mp ay
      by_cases hu : us = []
      · subst hu
        cases rx; cases ry
        obtain ⟨its, r1, p1, _⟩ := I.tuple t1.sq
        obtain ⟨its2, r2, p2, _⟩ := I.tuple t2.sq
        have xs0 : xs = [] := List.length_eq_zero_iff.mp m1.length
        subst xs0
        refine cat_tup0 p1 p2 (r1.nil_iff.mpr rfl) ⟨.ref b, H, I, rfl, q H _ (Same.refl H) ay⟩
      · refine op_catT pins s σ H _ _ v u Q I rx ry ⟨a, b, us, ws, rfl, rfl, t1.sq, t2.sq, hu, by rw [← m1.length, ← m2.length]; exact le, fun hw => ?_, fun hw p hp => ?_⟩
        · subst hw
          have ys0 : ys = [] := List.length_eq_zero_iff.mp m2.length
          subst ys0
          exact q H _ (Same.refl H) (by rw [List.append_nil]; exact ax)
        · exact q _ _ (same_upd hp _) (At.newTup (m1.append m2) hp hJ (by rw [List.length_append, ← m1.length, ← m2.length]; exact le))
    · cases e
  · rename_i xs ys
    split at e
    · rename_i le
      cases e
      obtain ⟨a, us, rfl, t1, m1⟩ := At.lst_iff.mp ax
      obtain ⟨b, ws, rfl, t2, m2⟩ := At.lst_iff.mp ay
      cases rx; cases ry
      obtain ⟨its, r1, p1, _⟩ := I.list t1.sq
      obtain ⟨its2, r2, p2, _⟩ := I.list t2.sq
      have hz : us.length + ws.length ≤ sizeLine := by rw [← m1.length, ← m2.length]; exact le
      have hp := I.fresh
      refine catL_lists p1 p2 ?_ (by rw [List.size_toArray, List.size_toArray, ← r1.length, ← r2.length]; exact hz)
      show EP X pins σ Q (.ref s.heap.objs.size) { s with heap := s.heap.push { cls := .type "list", data := .seq (its.toArray ++ its2.toArray) } }
      refine ⟨.ref s.heap.objs.size, _, ?_, rfl, q _ _ (same_upd hp (.lst (us ++ ws))) (At.newLst (m1.append m2) hp hJ (by rw [List.length_append]; exact hz))⟩
      have z := I.lnew (its := its ++ its2) (t' := s.toks) (r1.append r2) (by rw [List.length_append]; exact hz)
      simpa using z
    · cases e
  · cases e
def subD : D → D → Option D
  | .int i, .int j => some (.int (i - j))
  | _, _ => none
def mulOk (i j : Int) : Bool := (decide (-(2 ^ 64) < i) && decide (i < 2 ^ 64)) || (decide (-(2 ^ 64) < j) && decide (j < 2 ^ 64))
theorem mulOk_C {i j : Int} (h : mulOk i j = true) : CMul i j := by
  unfold mulOk at h
  rw [Bool.or_eq_true, Bool.and_eq_true, Bool.and_eq_true] at h
  rcases h with ⟨a, b⟩ | ⟨a, b⟩
  · exact .inl ⟨of_decide_eq_true a, of_decide_eq_true b⟩
  · exact .inr ⟨of_decide_eq_true a, of_decide_eq_true b⟩
def fdivD : D → D → Option D
  | .int i, .int j => if 0 < j ∧ j < 1073741824 then some (.int (i / j)) else none
  | _, _ => none
def modD : D → D → Option D
  | .int i, .int j => if 0 < j then some (.int (i % j)) else none
  | _, _ => none
def negD : D → Option D
  | .int i => some (.int (-i))
  | _ => none
theorem od_sub : OpD X (binaryOp .Sub) subD := by
  intro pins s σ H x y v u Q I rx ry h
  obtain ⟨J, dx, dy, d, hJ, ax, ay, e, q⟩ := h
  unfold subD at e
  split at e
  · rename_i i j
    cases e
    cases At.int_iff.mp ax; cases At.int_iff.mp ay
    exact op_sub pins s σ H _ _ v u Q I rx ry ⟨i, j, rfl, rfl, q H _ (Same.refl H) (At.int_iff.mpr rfl)⟩
  · cases e
theorem od_fdiv : OpD X (binaryOp .FloorDiv) fdivD := by
  intro pins s σ H x y v u Q I rx ry h
  obtain ⟨J, dx, dy, d, hJ, ax, ay, e, q⟩ := h
  unfold fdivD at e
  split at e
  · rename_i i j
    split at e
    · rename_i c
      cases e
      cases At.int_iff.mp ax; cases At.int_iff.mp ay
      exact op_fdiv pins s σ H _ _ v u Q I rx ry ⟨i, j, rfl, rfl, c, q H _ (Same.refl H) (At.int_iff.mpr rfl)⟩
    · cases e
  · cases e
theorem od_mod : OpD X (binaryOp .Mod) modD := by
  intro pins s σ H x y v u Q I rx ry h
  obtain ⟨J, dx, dy, d, hJ, ax, ay, e, q⟩ := h
  unfold modD at e
  split at e
  · rename_i i j
    split at e
    · rename_i c
      cases e
      cases At.int_iff.mp ax; cases At.int_iff.mp ay
      exact op_mod pins s σ H _ _ v u Q I rx ry ⟨i, j, rfl, rfl, c, q H _ (Same.refl H) (At.int_iff.mpr rfl)⟩
    · cases e
  · cases e
theorem ud_neg : UnD X (unaryOp .USub) negD := by
  intro pins s σ H x v Q I rx h
  obtain ⟨J, dx, d, hJ, ax, e, q⟩ := h
  unfold negD at e
  split at e
  · rename_i i
    cases e
    cases At.int_iff.mp ax
    exact un_neg pins s σ H _ v Q I rx ⟨i, rfl, q H _ (Same.refl H) (At.int_iff.mpr rfl)⟩
  · cases e
def eqD (x y : D) : Option D := match toPy x, toPy y with
  | some p, some q => if min p.depth q.depth ≤ 150 then some (.bl (PyData.eqv p q)) else none
  | _, _ => none
def neD (x y : D) : Option D := match toPy x, toPy y with
  | some p, some q => if min p.depth q.depth ≤ 150 then some (.bl (!PyData.eqv p q)) else none
  | _, _ => none
theorem od_eq (hu : X.A.units + 150 < cLine) : OpD X (compareOp .Eq) eqD := by
  intro pins s σ H x y v u Q I rx ry h
  obtain ⟨J, dx, dy, d, hJ, ax, ay, e, q⟩ := h
  unfold eqD at e
  split at e
  · rename_i p p' e1 e2
    split at e
    · rename_i le
      cases e
      obtain ⟨c1, as, r1⟩ := ax.reads I rx e1
      obtain ⟨c2, bs, r2⟩ := ay.reads I ry e2
      exact SeqAt.compareEq_reads r1 r2 c1 c2 (by omega) ⟨.bl (PyData.eqv p p'), H, I, rfl, q H _ (Same.refl H) (At.bl_iff.mpr rfl)⟩
    · cases e
  · cases e
theorem od_ne (hu : X.A.units + 150 < cLine) : OpD X (compareOp .NotEq) neD := by
  intro pins s σ H x y v u Q I rx ry h
  obtain ⟨J, dx, dy, d, hJ, ax, ay, e, q⟩ := h
  unfold neD at e
  split at e
  · rename_i p p' e1 e2
    split at e
    · rename_i le
      cases e
      obtain ⟨c1, as, r1⟩ := ax.reads I rx e1
      obtain ⟨c2, bs, r2⟩ := ay.reads I ry e2
      exact SeqAt.compareNe_reads r1 r2 c1 c2 (by omega) ⟨.bl (!PyData.eqv p p'), H, I, rfl, q H _ (Same.refl H) (At.bl_iff.mpr rfl)⟩
    · cases e
  · cases e
def ltS (x y : Str) : Bool := decide (x.cps.toList < y.cps.toList)
def ltD : D → D → Option D
  | .int i, .int j => some (.bl (decide (i < j)))
  | .str x, .str y => some (.bl (ltS x y))
  | _, _ => none
def leD : D → D → Option D
  | .int i, .int j => some (.bl (decide (i ≤ j)))
  | .str x, .str y => some (.bl (!ltS y x))
  | _, _ => none
def gtD : D → D → Option D
  | .int i, .int j => some (.bl (decide (j < i)))
  | .str x, .str y => some (.bl (ltS y x))
  | _, _ => none
theorem od_lt : OpD X (compareOp .Lt) ltD := by
  intro pins s σ H x y v u Q I rx ry h
  obtain ⟨J, dx, dy, d, hJ, ax, ay, e, q⟩ := h
  unfold ltD at e
  split at e
  · rename_i i j
    cases e
    cases At.int_iff.mp ax; cases At.int_iff.mp ay
    exact op_lt pins s σ H _ _ v u Q I rx ry ⟨i, j, rfl, rfl, q H _ (Same.refl H) (At.bl_iff.mpr rfl)⟩
  · rename_i a b
    cases e
    cases (At.str_iff.mp ax).1; cases (At.str_iff.mp ay).1
    exact op_lt_str pins s σ H _ _ v u Q I rx ry ⟨a, b, rfl, rfl, q H _ (Same.refl H) (At.bl_iff.mpr rfl)⟩
  · cases e
theorem od_le : OpD X (compareOp .LtE) leD := by
  intro pins s σ H x y v u Q I rx ry h
  obtain ⟨J, dx, dy, d, hJ, ax, ay, e, q⟩ := h
  unfold leD at e
  split at e
  · rename_i i j
    cases e
    cases At.int_iff.mp ax; cases At.int_iff.mp ay
    exact op_le pins s σ H _ _ v u Q I rx ry ⟨i, j, rfl, rfl, q H _ (Same.refl H) (At.bl_iff.mpr rfl)⟩
  · rename_i a b
    cases e
    cases (At.str_iff.mp ax).1; cases (At.str_iff.mp ay).1
    obtain ⟨t, rfl⟩ := rx; obtain ⟨t', rfl⟩ := ry
    exact PySem.P.le_str ⟨.bl (!ltS b a), H, I, rfl, q H _ (Same.refl H) (At.bl_iff.mpr rfl)⟩
  · cases e
theorem od_gt : OpD X (compareOp .Gt) gtD := by
  intro pins s σ H x y v u Q I rx ry h
  obtain ⟨J, dx, dy, d, hJ, ax, ay, e, q⟩ := h
  unfold gtD at e
  split at e
  · rename_i i j
    cases e
    cases At.int_iff.mp ax; cases At.int_iff.mp ay
    exact op_gt pins s σ H _ _ v u Q I rx ry ⟨i, j, rfl, rfl, q H _ (Same.refl H) (At.bl_iff.mpr rfl)⟩
  · rename_i a b
    cases e
    cases (At.str_iff.mp ax).1; cases (At.str_iff.mp ay).1
    obtain ⟨t, rfl⟩ := rx; obtain ⟨t', rfl⟩ := ry
    exact PySem.P.gt_str ⟨.bl (ltS b a), H, I, rfl, q H _ (Same.refl H) (At.bl_iff.mpr rfl)⟩
  · cases e
end
end L2
namespace L2
open PySem PySem.Spec PyProof.Rows
section
variable {X : Cx} {W : WT}
def seqD : D → Option (List D)
  | .tup xs => some xs
  | .lst xs => some xs
  | _ => none
def hasD (x y : D) : Option Bool := match toPy x, (seqD y).bind toPys with
  | some p, some qs => if p.depth ≤ 150 then some (qs.any fun q => PyData.eqv q p) else none
  | _, _ => none
def inD (x y : D) : Option D := (hasD x y).map .bl
def notInD (x y : D) : Option D := (hasD x y).map fun b => .bl (!b)
noncomputable def eqvU (h : Heap) (p : PyData) (u : Value) : Bool := by
  classical exact if H : ∃ q as, Reads h u q as ∧ q.canLay0 = true then PyData.eqv H.choose p else false
theorem eqvU_of {h : Heap} {p q : PyData} {u : Value} {as : List Addr} (r : Reads h u q as) (c : q.canLay0 = true) : eqvU h p u = PyData.eqv q p := by
  unfold eqvU
  have H : ∃ q as, Reads h u q as ∧ q.canLay0 = true := ⟨q, as, r, c⟩
  rw [dif_pos H]
  obtain ⟨as', r', c'⟩ := H.choose_spec
  rw [SeqAt.Reads.unique _ _ _ _ _ c r r']
theorem any_eqv {h : Heap} {p : PyData} : ∀ {us : List Value} {qs : List PyData} {as : List Addr}, ReadsAll h us qs as → PyData.canLayAll0 qs = true → us.any (eqvU h p) = qs.any fun q => PyData.eqv q p
  | _, _, _, .nil, _ => rfl
  | _, _, _, .cons r t, c => by
    rw [PyData.canLayAll0, Bool.and_eq_true] at c
    rw [List.any_cons, List.any_cons, eqvU_of r c.1, any_eqv t c.2]
theorem mem_reads {h : Heap} : ∀ {us : List Value} {qs : List PyData} {as : List Addr}, ReadsAll h us qs as → PyData.canLayAll0 qs = true → ∀ u ∈ us, ∃ q bs, Reads h u q bs ∧ q.canLay0 = true
  | _, _, _, .nil, _, u, m => by simp at m
  | _, _, _, .cons r t, c, u, m => by
    rw [PyData.canLayAll0, Bool.and_eq_true] at c
    rcases List.mem_cons.mp m with e | m
    · subst e; exact ⟨_, _, r, c.1⟩
    · exact mem_reads t c.2 u m
theorem in_core {neg : Bool} {op : CmpOp} (hu : X.A.units + 151 < cLine)
    (hL : ∀ {s : Shared} {l : Addr} {items : Array Value} {x : Value} {Q : Value → Shared → Prop} (e : Value → Bool), s.heap.IsList l items → (∀ y ∈ items, SeqAt.EqAt X.A.in1 s y x (e y)) → Q (.bool (if neg then !items.any e else items.any e)) s → wpAny (model X.prog X.w) X.A (compareOp op x (.ref l)) Q X.xe s)
    (hT : ∀ {s : Shared} {l : Addr} {items : Array Value} {x : Value} {Q : Value → Shared → Prop} (e : Value → Bool), IsTup s.heap l items → (∀ y ∈ items, SeqAt.EqAt X.A.in1 s y x (e y)) → Q (.bool (if neg then !items.any e else items.any e)) s → wpAny (model X.prog X.w) X.A (compareOp op x (.ref l)) Q X.xe s) :
    OpD X (compareOp op) (fun x y => (hasD x y).map fun b => .bl (if neg then !b else b)) := by
  intro pins s σ H x y v u Q I rx ry h
  obtain ⟨J, dx, dy, d, hJ, ax, ay, e, q⟩ := h
  obtain ⟨b, e1, e2⟩ := Option.map_eq_some_iff.mp e
  subst e2
  unfold hasD at e1
  split at e1
  · rename_i p qs ep eq
    split at e1
    · rename_i le
      cases e1
      obtain ⟨ds, es, ed⟩ := Option.bind_eq_some_iff.mp eq
      obtain ⟨c1, as, r1⟩ := ax.reads I rx ep
      have fin : ∀ {us : List Value} {as : List Addr}, ReadsAll s.heap us qs as → PyData.canLayAll0 qs = true → EP X pins σ Q (.bool (if neg then !us.toArray.any (eqvU s.heap p) else us.toArray.any (eqvU s.heap p))) s := fun {us as} ra c => by
        rw [show us.toArray.any (eqvU s.heap p) = us.any (eqvU s.heap p) by simp, any_eqv ra c]
        exact ⟨.bl _, H, I, rfl, q H _ (Same.refl H) (At.bl_iff.mpr rfl)⟩
      have ev : ∀ {us : List Value} {as : List Addr}, ReadsAll s.heap us qs as → PyData.canLayAll0 qs = true → ∀ y ∈ us.toArray, SeqAt.EqAt X.A.in1 s y v (eqvU s.heap p y) := fun {us as} ra c y hy => by
        obtain ⟨q', bs, r', c'⟩ := mem_reads ra c y (by simpa using hy)
        rw [eqvU_of r' c']
        exact SeqAt.eqAt_reads q' p X.A.in1 s y v bs _ r' r1 c' c1 (by show X.A.units + 1 + min q'.depth p.depth < cLine; omega)
      cases dy with
      | tup ys =>
        cases es
        obtain ⟨a, xs, rfl, t, m⟩ := At.tup_iff.mp ay
        cases ry
        obtain ⟨its, rv, pl, _⟩ := I.tuple t.sq
        obtain ⟨c2, bs, r2⟩ := Ats.readsAll I m rv ed
        exact hT (eqvU s.heap p) pl (ev r2 c2) (fin r2 c2)
      | lst ys =>
        cases es
        obtain ⟨a, xs, rfl, t, m⟩ := At.lst_iff.mp ay
        cases ry
        obtain ⟨its, rv, pl, _⟩ := I.list t.sq
        obtain ⟨c2, bs, r2⟩ := Ats.readsAll I m rv ed
        exact hL (eqvU s.heap p) pl.isList (ev r2 c2) (fin r2 c2)
      | _ => simp [seqD] at es
    · cases e1
  · cases e1
theorem od_in (hu : X.A.units + 151 < cLine) : OpD X (compareOp .In) inD :=
  in_core (neg := false) hu (fun e hl he q => SeqAt.in_listAt e hl he q) (fun e hl he q => SeqAt.in_tupleAt e hl he q)
theorem strOk_mem {x : Str} (h : PyData.strOk x = true) {c : Nat} (m : c ∈ x.cps.toList) : c < 0x110000 := by
  unfold PyData.strOk at h
  rw [Array.all_eq_true'] at h
  exact of_decide_eq_true (h c (Array.mem_toList_iff.mp m))
theorem strOk_of {l : List Nat} (h : ∀ c ∈ l, c < 0x110000) : PyData.strOk ⟨l.toArray⟩ = true := by
  unfold PyData.strOk
  rw [Array.all_eq_true']
  intro c m
  exact decide_eq_true (h c (by simpa using m))
def ixD : D → D → Option D
  | .tup xs, .int i => atI xs i
  | .lst xs, .int i => atI xs i
  | .str x, .int i => (atI x.cps.toList i).map fun c => .str ⟨#[c]⟩
  | _, _ => none
theorem atI_At {K : PySem.W.Frag} {H : Hp} {J : List Addr} {ds : List D} {vs : List V} {i : Int} {d : D} (m : Ats K H J ds vs) (h : atI ds i = some d) : ∃ v, atI vs i = some v ∧ At K H J d v := by
  unfold atI at h ⊢
  rw [← m.length]
  obtain ⟨j, e1, e2⟩ := Option.bind_eq_some_iff.mp h
  obtain ⟨v, e3, a⟩ := m.get e2
  exact ⟨v, by rw [e1]; exact e3, a⟩
def IxD (X : Cx) (g : D → D → Option D) : Prop := IxR X (rD2 X.K g)
theorem ixd : IxD X ixD := by
  intro value slice pins s σ H x y v u Q I rx ry h hs
  obtain ⟨J, dx, dy, d, hJ, ax, ay, e, q⟩ := h
  unfold ixD at e
  split at e
  · rename_i xs i
    obtain ⟨a, us, rfl, t, m⟩ := At.tup_iff.mp ax
    cases At.int_iff.mp ay
    obtain ⟨w, e1, a1⟩ := atI_At m e
    exact ix_tup value slice pins s σ H _ _ v u Q I rx ry ⟨a, us, i, w, rfl, rfl, t.sq, e1, q H _ (Same.refl H) a1⟩ hs
  · rename_i xs i
    obtain ⟨a, us, rfl, t, m⟩ := At.lst_iff.mp ax
    cases At.int_iff.mp ay
    obtain ⟨w, e1, a1⟩ := atI_At m e
    exact ix_list value slice pins s σ H _ _ v u Q I rx ry ⟨a, us, i, w, rfl, rfl, t.sq, e1, q H _ (Same.refl H) a1⟩ hs
  · rename_i z i
    obtain ⟨ex, kx⟩ := At.str_iff.mp ax
    subst ex
    cases At.int_iff.mp ay
    obtain ⟨c, e1, e2⟩ := Option.map_eq_some_iff.mp e
    subst e2
    refine ix_str value slice pins s σ H _ _ v u Q I rx ry ⟨z, i, c, rfl, rfl, kx.1, e1, q H _ (Same.refl H) (At.str_iff.mpr ⟨rfl, by show 1 ≤ sizeLine; decide, strOk_of (l := [c]) fun c' m => ?_⟩)⟩ hs
    obtain ⟨j, _, e4, _⟩ := atI_get e1
    rw [List.mem_singleton.mp m]
    exact strOk_mem kx.2 (List.mem_of_getElem? e4)
  · cases e
variable {a b c : Expr} {fa fb fc : Rho → Sto → Out D} {pos : Pos}
theorem se_ix {g : D → D → Option D} (hr : IxD X g) (ha : SE X W a fa) (hb : SE X W b fb) (hs : PlainIx b := by exact fun _ _ => rfl) : SE X W (.Subscript a b pos) (cBin g fa fb) :=
  (pe_ix hr ha hb hs).imp fun σ H Q h => bin_read h
def cutL {α : Type} (xs : List α) (lo hi : Option Int) : List α := (xs.drop (HT.sIx xs.length 0 lo)).take (HT.sIx xs.length xs.length hi - HT.sIx xs.length 0 lo)
def cutS (x : Str) (lo hi : Option Int) : Str := ⟨(cutL x.cps.toList lo hi).toArray⟩
def slD (d : D) (lo hi : Option Int) : Option D := match d with
  | .tup xs => some (.tup (cutL xs lo hi))
  | .lst xs => some (.lst (cutL xs lo hi))
  | .str x => some (.str (cutS x lo hi))
  | _ => none
theorem Ats.cut {K : PySem.W.Frag} {H : Hp} {J : List Addr} {ds : List D} {vs : List V} (m : Ats K H J ds vs) (lo hi : Option Int) : Ats K H J (cutL ds lo hi) (cutV vs lo hi) := by
  unfold cutL cutV
  rw [← m.length]
  exact (m.drop _).take _
theorem cutL_whole {α : Type} {xs : List α} {lo hi : Option Int} (h : HT.sIx xs.length 0 lo = 0 ∧ HT.sIx xs.length xs.length hi = xs.length) : cutL xs lo hi = xs := by
  unfold cutL
  rw [h.1, h.2]; simp
theorem str_indices (n : Nat) (lo hi : Option Int) : Builtin.Str.strSliceIndices lo hi 1 n = sliceRange ((HT.sIx n 0 lo : Nat) : Int) ((HT.sIx n n hi : Nat) : Int) 1 := by
  unfold Builtin.Str.strSliceIndices
  have h := slice_bounds lo hi n
  unfold sliceBounds at h
  simp only [Option.getD_none] at h
  have h1 := h.1
  have h2 := h.2.1
  show sliceRange _ _ 1 = _
  rw [← h1, ← h2]
  cases lo <;> cases hi <;> rfl
theorem str_picked (x : Str) (lo hi : Option Int) : (Builtin.Str.strSliceIndices lo hi 1 x.length).filterMap (x.cps[·]?) = cutL x.cps.toList lo hi := by
  have hl : x.cps.toList.length = x.length := by simp [Str.length]
  rw [str_indices, sliceRange_one, pick_run]
  unfold cutL
  rw [hl]
theorem slice_text (x : Str) (t : Tok) (lo hi : Option (Int × Tok)) {Q : Value → Shared → Prop} {s : Shared} (hsz : x.length ≤ sizeLine) (h : ∀ t' k, Q (.str (cutS x (lo.map (·.1)) (hi.map (·.1))) t') { s with toks := k }) : (sliceMade x t lo hi none).post Q s := by
  unfold sliceMade
  have ep : slicePicked x lo hi none = Builtin.Str.strSliceIndices (lo.map (·.1)) (hi.map (·.1)) 1 x.length := rfl
  have eq : ((slicePicked x lo hi none).filterMap (x.cps[·]?)) = cutL x.cps.toList (lo.map (·.1)) (hi.map (·.1)) := by rw [ep]; exact str_picked x _ _
  have hl : x.cps.toList.length = x.length := by simp [Str.length]
  have len : (cutS x (lo.map (·.1)) (hi.map (·.1))).length ≤ sizeLine := by
    unfold cutS cutL
    show (List.toArray _).size ≤ _
    rw [List.size_toArray, List.length_take, List.length_drop, hl]
    omega
  have same : (((none : Option (Int × Tok)).map (·.1)).getD 1 == 1 && (slicePicked x lo hi none).length == x.length) = true → x = cutS x (lo.map (·.1)) (hi.map (·.1)) := fun c => by
    have c2 : (slicePicked x lo hi none).length = x.length := by
      rw [Bool.and_eq_true] at c
      exact eq_of_beq c.2
    rw [ep, str_indices, sliceRange_one, List.length_map, List.length_range] at c2
    have b1 := HT.sIx_le x.length x.length (Nat.le_refl _) (hi.map (·.1))
    have b2 := HT.sIx_le x.length 0 (Nat.zero_le _) (lo.map (·.1))
    have w := cutL_whole (xs := x.cps.toList) (lo := lo.map (·.1)) (hi := hi.map (·.1)) (by rw [hl]; omega)
    unfold cutS
    rw [w]
  refine post_val_or_str ⟨?_, fun t' k => ?_⟩
  · split
    · rename_i c; exact hsz
    · rw [eq]; exact len
  · split
    · rename_i c
      have z := h t' k
      rw [← same c] at z
      exact z
    · rw [eq]; exact h t' k
theorem part_of {v : Value} {o : Option Int} (p : IsPart v o) : ∃ q : Option (Int × Tok), v = partValue q ∧ o = q.map (·.1) := by
  cases p with
  | none => exact ⟨none, rfl, rfl⟩
  | int i t => exact ⟨some (i, t), rfl, rfl⟩
def rDl (K : PySem.W.Frag) (g : D → Option Int → Option Int → Option D) : V → Option Int → Option Int → Hp → VK → Prop := fun x lo hi H Q => ∃ J dx d, (∀ a ∈ J, H a ≠ none) ∧ At K H J dx x ∧ g dx lo hi = some d ∧ ∀ H' v, Same H H' → At K H' J d v → Q v H'
theorem getItem_tuple_whole {prog : Program} {w : World} {A : Around} {E : Value → Shared → Prop} {s : Shared} {t sl : Addr} {items : Array Value} {vl vu : Value} {lo hi : Option Int} {Q : Value → Shared → Prop} (ht : IsTup s.heap t items) (hs : s.heap.IsSliceOf sl vl vu .none) (pl : IsPart vl lo) (pu : IsPart vu hi)
    (hw : HT.sIx items.size 0 lo = 0 ∧ HT.sIx items.size items.size hi = items.size) (h : Q (.ref t) s) : wpAny (model prog w) A (getItem (.ref t) (.ref sl)) Q E s := by
  obtain ⟨os, hos, hcs, hds⟩ := id hs
  have hTs : s.TypeIs (.ref sl) "slice" := ⟨os, hos, hcs⟩
  unfold getItem
  try with_reducible refine wpAny_holding ?_
  first | refine wpAny_bind (wpAny_pure ?_) | skip
  refine wpAny_bind (wpAny_sequenceKey ht.typeIs (by decide) ?_)
  refine wpAny_bind (wpAny_callSpecial?_slot (name := Str.ofString "__getitem__") ht.typeIs PyProof.Rows.slot_tuple_getitem
    (wpAny_call_entry PyProof.Rows.slot_tuple_getitem ht.typeIs entry_tuple_getitem ?_ (args_tuple_getitem _ _)))
  show wpAny _ _ (Builtin.Tuple.tupleItemsOf (.ref t) >>= _) _ _ s
  refine wpAny_bind (tupleItemsOf_ ht ?_)
  refine wpAny_bind (wpAny_typeOf hTs ?_)
  rw [if_pos (by decide)]
  refine wpAny_bind (HT.sliceApplied_gen hs pl pu ?_)
  show wpAny _ _ (if (((HT.sIx items.size 0 lo : Nat) : Int) == 0 && (1 : Int) == 1 && (HT.sIx items.size items.size hi - HT.sIx items.size 0 lo) == items.size) = true then _ else _) _ _ s
  rw [if_pos (by rw [hw.1, hw.2]; simp)]
  unfold Builtin.Tuple.tupleIsExact
  refine wpAny_bind (wpAny_bind (wpAny_typeOf ht.typeIs (wpAny_pure ?_)))
  rw [if_pos (by decide)]
  exact wpAny_bind (wpAny_rule (wpAny_pure ⟨_, rfl, wpAny_pure h⟩))
def SlD (X : Cx) (g : D → Option Int → Option Int → Option D) : Prop := SlR X (rDl X.K g)
theorem strOk_cut {x : Str} (h : PyData.strOk x = true) (lo hi : Option Int) : PyData.strOk (cutS x lo hi) = true := strOk_of fun c m => strOk_mem h (by
  unfold cutL at m
  exact List.mem_of_mem_drop (List.mem_of_mem_take m))
theorem len_cut (x : Str) (lo hi : Option Int) : (cutS x lo hi).length ≤ x.length := by
  unfold cutS cutL
  show (List.toArray _).size ≤ _
  rw [List.size_toArray, List.length_take, List.length_drop]
  have hl : x.cps.toList.length = x.length := by simp [Str.length]
  omega
theorem sld : SlD X slD := by
  intro pins s σ H x v vl vu lo hi sl Q I rx hs pl pu h
  obtain ⟨J, dx, d, hJ, ax, e, q⟩ := h
  unfold slD at e
  split at e
  · rename_i xs
    cases e
    obtain ⟨a, us, rfl, t, m⟩ := At.tup_iff.mp ax
    have hl := m.length
    by_cases hw : HT.sIx us.length 0 lo = 0 ∧ HT.sIx us.length us.length hi = us.length
    · cases rx
      obtain ⟨its, r, ht, hz⟩ := I.tuple t.sq
      have hlen : its.toArray.size = us.length := by rw [List.size_toArray]; exact r.length.symm
      refine ⟨"tuple", _, PyProof.Rows.slot_tuple_getitem.lookup, ht.typeIs, ?_⟩
      refine getItem_tuple_whole ht hs pl pu (by rw [hlen]; exact hw) ⟨.ref a, H, I, rfl, q H _ (Same.refl H) ?_⟩
      rw [cutL_whole (by rw [hl]; exact hw)]
      exact ax
    · exact sl_tup pins s σ H _ v vl vu lo hi sl Q I rx hs pl pu ⟨a, us, rfl, t.sq, hw, fun p hp => q _ _ (same_upd hp _) (At.newTup (m.cut lo hi) hp hJ (Nat.le_trans (cutV_length us lo hi) t.len))⟩
  · rename_i xs
    cases e
    obtain ⟨a, us, rfl, t, m⟩ := At.lst_iff.mp ax
    exact sl_list pins s σ H _ v vl vu lo hi sl Q I rx hs pl pu ⟨a, us, rfl, t.sq, fun p hp => q _ _ (same_upd hp _) (At.newLst (m.cut lo hi) hp hJ (Nat.le_trans (cutV_length us lo hi) t.len))⟩
  · rename_i z
    cases e
    obtain ⟨ex, kx⟩ := At.str_iff.mp ax
    subst ex
    obtain ⟨tk, rfl⟩ := rx
    obtain ⟨pl', e1, e2⟩ := part_of pl
    obtain ⟨pu', e3, e4⟩ := part_of pu
    subst e1 e2 e3 e4
    refine ⟨"str", _, F.slot_str_getitem.lookup, typeIs_str _ _ _, wpAny_getItem_str_slice (l := pl') (u := pu') (st := none) hs rfl (slice_text z tk pl' pu' kx.1 fun t' k => ?_)⟩
    exact ⟨.str _, H, I.tok _, ⟨t', rfl⟩, q H _ (Same.refl H) (At.str_iff.mpr ⟨rfl, Nat.le_trans (len_cut z _ _) kx.1, strOk_cut kx.2 _ _⟩)⟩
  · cases e
def intO : D → Option (Option Int)
  | .int i => some (some i)
  | _ => none
def cPart (f : Option (Rho → Sto → Out D)) : Rho → Sto → Out (Option Int) := match f with
  | none => fun _ S => okO none S
  | some f => fun ρ S => bindO (f ρ S) fun d S1 => valO (intO d) S1
def SO (X : Cx) (W : WT) (e : Option Expr) (f : Option (Rho → Sto → Out D)) : Prop := match e, f with
  | none, none => True
  | some e, some f => SE X W e f
  | _, _ => False
def cSl (g : D → Option Int → Option Int → Option D) (f : Rho → Sto → Out D) (lo hi : Option (Rho → Sto → Out D)) : Rho → Sto → Out D := fun ρ S => bindO (f ρ S) fun x S1 => bindO (cPart lo ρ S1) fun l S2 => bindO (cPart hi ρ S2) fun u S3 => valO (g x l u) S3
def tPt (X : Cx) (W : WT) (f : Option (Rho → Sto → Out D)) : TO := tG X W (fun _ _ a b => a = b) [] [] (cPart f)
theorem tG.bindP {α β : Type} {R : List Addr → Hp → α → β → Prop} {f : Option (Rho → Sto → Out D)} {k : Option Int → Rho → Sto → Out α} {ds : List D} {vs : List V} {σ : St} {H : Hp} {Q : β → Hp → Prop}
    (h : tG X W R ds vs (fun ρ S => bindO (cPart f ρ S) fun d S1 => k d ρ S1) σ H Q) : tPt X W f σ H fun b H1 => tG X W R ds vs (k b) σ H1 Q := by
  obtain ⟨J, ρ, S, r, S', c, a, e, z⟩ := h
  cases q : cPart f ρ S with
  | none => simp [q] at e
  | some o =>
    obtain ⟨ro, S1⟩ := o
    simp only [q] at e
    cases ro with
    | error x =>
      cases e
      exact ⟨J, ρ, S, .error x, _, c, .nil, q, z⟩
    | ok d =>
      refine ⟨J, ρ, S, .ok d, S1, c, .nil, q, fun J1 H1 v x s1 m => ?_⟩
      cases m
      refine ⟨J1, ρ, S1, r, S', c.re x s1, a.ex x, e, ?_⟩
      cases r with
      | ok g => exact fun J2 H2 b x2 s2 r2 => z J2 H2 b (x.trans x2) s2 r2
      | error g => exact fun J2 H2 x2 s2 => z J2 H2 (x.trans x2) s2
theorem po_of {e : Option Expr} {f : Option (Rho → Sto → Out D)} (h : SO X W e f) : PO X e (tPt X W f) := by
  cases e with
  | none =>
    cases f with
    | none =>
      intro pins s σ H Q I z
      refine po_none pins s σ H Q I ?_
      obtain ⟨J, ρ, S, r, S', c, _, e, z⟩ := z
      cases e
      exact z J H _ Ex.refl c.sto rfl
    | some _ => exact h.elim
  | some e =>
    cases f with
    | none => exact h.elim
    | some f =>
      intro pins s σ H Q I z
      refine po_some h pins s σ H Q I ?_
      refine (tG.bindE z).mono fun v H1 ⟨d, h1⟩ => ?_
      obtain ⟨J, ρ, S, r, S', c, m, e, z⟩ := h1
      obtain ⟨m, _⟩ := m.uncons
      cases d with
      | int i =>
        cases e
        exact ⟨i, At.int_iff.mp m, z J H1 _ Ex.refl c.sto rfl⟩
      | _ => simp [intO] at e
theorem se_sl {g : D → Option Int → Option Int → Option D} {lo hi : Option Expr} {fl fh : Option (Rho → Sto → Out D)} {p2 : Pos} (hr : SlD X g) (ha : SE X W a fa) (hl : SO X W lo fl) (hh : SO X W hi fh) : SE X W (.Subscript a (.Slice lo hi none p2) pos) (cSl g fa fl fh) :=
  (pe_slice hr ha (po_of hl) (po_of hh)).imp fun σ H Q h => (tG.bindE h).mono fun v H1 ⟨d, h1⟩ => (tG.bindP h1).mono fun l H2 h2 => (tG.bindP h2).mono fun u H3 h3 => by
    obtain ⟨J, ρ, S, r, S', c, m, e, z⟩ := h3
    obtain ⟨m, _⟩ := m.uncons
    cases q : g d l u with
    | none => simp [q] at e
    | some d' =>
      simp only [q, valO_some, okO] at e
      cases e
      exact ⟨J, d, d', c.sto.all, m, q, fun H' v' s m' => z J H' v' (Ex.same s) (c.sto.same s) m'⟩
def revD : D → Option D
  | .tup xs => some (.tup xs.reverse)
  | .lst xs => some (.lst xs.reverse)
  | .str x => some (.str ⟨x.cps.toList.reverse.toArray⟩)
  | _ => none
end
end L2
namespace L2
open PySem PySem.Spec PyProof.Rows PySem.W
section
variable {X : Cx} {W : WT}
theorem rev_places (n : Nat) : Builtin.Slice.slicePlaces ((n : Int) - 1) (-1) (-1) = n := by
  unfold Builtin.Slice.slicePlaces
  rw [if_neg (by decide)]
  by_cases h : (n : Int) - 1 > -1
  · rw [if_pos h]
    have : ((n : Int) - 1 - -1 - 1) / (- -1) + 1 = n := by
      rw [show (- (-1 : Int)) = 1 by decide, Int.ediv_one]; omega
    rw [this]; simp
  · rw [if_neg h]
    have : n = 0 := by omega
    subst this; rfl
theorem sliceApplied_rev {prog : Program} {w : World} {A : Around} {E : Value → Shared → Prop} {s : Shared} {sl : Addr} {tk : Tok} {n : Nat} {Q : Int × Int × Nat → Shared → Prop} (hs : s.heap.IsSliceOf sl .none .none (.int (-1) tk))
    (h : Q ((n : Int) - 1, -1, n) s) : wpAny (model prog w) A (Builtin.Slice.sliceApplied (.ref sl) (pure (n : Int))) Q E s := by
  obtain ⟨os, hos, hcs, hds⟩ := id hs
  unfold Builtin.Slice.sliceApplied Builtin.Slice.sliceFields
  refine wpAny_bind (wpAny_bind (wpAny_field hos hds (x := .none) rfl (wpAny_bind (wpAny_field hos hds (x := .none) rfl (wpAny_bind (wpAny_field hos hds (x := .int (-1) tk) rfl (wpAny_pure ?_)))))))
  refine wpAny_bind (slicePart_int ?_)
  show wpAny _ _ (if ((-1 : Int) == 0) = true then _ else _) _ _ s
  rw [if_neg (by decide)]
  refine wpAny_bind (slicePart_none (wpAny_bind (slicePart_none (wpAny_bind (wpAny_pure ?_)))))
  show wpAny _ _ (match Builtin.Slice.sliceAdjust none none (-1) (n : Int) with | (lo, hi) => pure (lo, (-1 : Int), Builtin.Slice.slicePlaces lo hi (-1))) _ _ s
  show wpAny _ _ (pure ((n : Int) - 1, (-1 : Int), Builtin.Slice.slicePlaces ((n : Int) - 1) (-1) (-1))) _ _ s
  rw [rev_places]
  exact wpAny_pure h
theorem pick_all {α : Type} (xs : List α) : (List.range xs.length).filterMap (fun (k : Nat) => xs[k]?) = xs := by
  have h := pick_run xs.toArray 0 xs.length
  have e : (List.range xs.length).map (0 + ·) = List.range xs.length := by
    have : (fun x : Nat => 0 + x) = id := funext fun x => Nat.zero_add x
    rw [this]; simp
  rw [e] at h
  simpa using h
theorem rev_pick {α : Type} (xs : List α) : (List.range xs.length).filterMap (fun (k : Nat) => xs[(((xs.length : Int) - 1) + (k : Int) * (-1)).toNat]?) = xs.reverse := by
  have h := pick_all xs.reverse
  rw [List.length_reverse] at h
  refine Eq.trans ?_ h
  have cong : ∀ (l : List Nat) (f g : Nat → Option α), (∀ k ∈ l, f k = g k) → l.filterMap f = l.filterMap g := by
    intro l f g
    induction l with
    | nil => intro _; rfl
    | cons x r ih =>
      intro hh
      rw [List.filterMap_cons, List.filterMap_cons, hh x (List.mem_cons_self ..), ih fun k m => hh k (List.mem_cons_of_mem _ m)]
  refine cong _ _ _ fun k hk => ?_
  have hk := List.mem_range.mp hk
  rw [List.getElem?_reverse hk]
  have : (((xs.length : Int) - 1) + (k : Int) * (-1)).toNat = xs.length - 1 - k := by omega
  rw [this]
theorem getItem_tuple_rev {prog : Program} {w : World} {A : Around} {E : Value → Shared → Prop} {s : Shared} {t sl : Addr} {items : List Value} {tk : Tok} {Q : Value → Shared → Prop} (ht : IsTup s.heap t items.toArray) (hs : s.heap.IsSliceOf sl .none .none (.int (-1) tk))
    (hsz : items.length ≤ sizeLine)
    (h : Q (.ref s.heap.objs.size) { s with heap := s.heap.push { cls := .type "tuple", data := .seq items.reverse.toArray } }) : wpAny (model prog w) A (getItem (.ref t) (.ref sl)) Q E s := by
  obtain ⟨os, hos, hcs, hds⟩ := id hs
  have hTs : s.TypeIs (.ref sl) "slice" := ⟨os, hos, hcs⟩
  unfold getItem
  try with_reducible refine wpAny_holding ?_
  first | refine wpAny_bind (wpAny_pure ?_) | skip
  refine wpAny_bind (wpAny_sequenceKey ht.typeIs (by decide) ?_)
  refine wpAny_bind (wpAny_callSpecial?_slot (name := Str.ofString "__getitem__") ht.typeIs PyProof.Rows.slot_tuple_getitem
    (wpAny_call_entry PyProof.Rows.slot_tuple_getitem ht.typeIs entry_tuple_getitem ?_ (args_tuple_getitem _ _)))
  show wpAny _ _ (Builtin.Tuple.tupleItemsOf (.ref t) >>= _) _ _ s
  refine wpAny_bind (tupleItemsOf_ ht ?_)
  refine wpAny_bind (wpAny_typeOf hTs ?_)
  rw [if_pos (by decide)]
  refine wpAny_bind (sliceApplied_rev hs ?_)
  have hno : ¬ (((((items.toArray.size : Nat) : Int) - 1) == 0 && (-1 : Int) == 1 && items.toArray.size == items.toArray.size) = true) := by
    intro q
    rw [Bool.and_eq_true, Bool.and_eq_true] at q
    exact absurd q.1.2 (by decide)
  show wpAny _ _ (if ((((items.toArray.size : Nat) : Int) - 1) == 0 && (-1 : Int) == 1 && items.toArray.size == items.toArray.size) = true then _ else _) _ _ s
  rw [if_neg hno]
  have e : (List.filterMap (fun (k : Nat) => items.toArray[(((items.toArray.size : Nat) : Int) - 1 + (k : Int) * (-1)).toNat]?) (List.range items.toArray.size)) = items.reverse := by
    have := rev_pick items
    simpa using this
  rw [e]
  have htake : sizeOk (.seq items.reverse.toArray) := by
    show items.reverse.toArray.size ≤ sizeLine
    rw [List.size_toArray, List.length_reverse]; exact hsz
  first
    | exact wpAny_bind (m := Builtin.Tuple.tupleExact _) (wpAny_newObj_type (wpAny_pure ⟨_, rfl, wpAny_pure h⟩) htake)
    | exact wpAny_bind (m := Builtin.Tuple.tupleExact _) (wpAny_newObj_type (wpAny_bind (wpAny_pure (wpAny_pure ⟨_, rfl, wpAny_pure h⟩))) htake)
    | exact wpAny_bind (wpAny_bind (m := Builtin.Tuple.tupleExact _) (wpAny_newObj_type (wpAny_pure (wpAny_pure ⟨_, rfl, wpAny_pure h⟩)) htake))
    | exact wpAny_bind (wpAny_bind (m := Builtin.Tuple.tupleExact _) (wpAny_newObj_type (wpAny_pure ⟨_, rfl, wpAny_pure h⟩) htake))
theorem rev_text (x : Str) (t tk : Tok) {Q : Value → Shared → Prop} {s : Shared} (hsz : x.length ≤ sizeLine) (h : ∀ t' k, Q (.str ⟨x.cps.toList.reverse.toArray⟩ t') { s with toks := k }) : (sliceMade x t none none (some (-1, tk))).post Q s := by
  unfold sliceMade
  rw [if_neg (by rw [show ((((some ((-1 : Int), tk)).map (·.1)).getD 1 : Int) == 1) = false from rfl]; simp)]
  have hl : x.cps.toList.length = x.length := by simp [Str.length]
  have e : (slicePicked x none none (some (-1, tk))).filterMap (x.cps[·]?) = x.cps.toList.reverse := by
    show (sliceRange ((x.length : Int) - 1) (-1) (-1)).filterMap (x.cps[·]?) = _
    rw [krv_sliceRange, krv_range, List.filterMap_reverse]
    congr 1
    have := pick_all x.cps.toList
    rw [hl] at this
    simpa using this
  rw [e]
  refine ⟨?_, h s.toks (s.toks + 1)⟩
  show (List.toArray _).size ≤ _
  rw [List.size_toArray, List.length_reverse, hl]; exact hsz
variable {a b c : Expr} {fa fb fc : Rho → Sto → Out D} {pos : Pos}
theorem se_rev {st : Expr} {p2 : Pos} (ha : SE X W a fa) (hst : ∀ (E : Value → Shared → Prop) (s : Shared) (Q : Value → Shared → Prop), (∀ t k, Q (.int (-1) t) { s with toks := k }) → wpAny (model X.prog X.w) X.A (eval st X.env) Q E s)
    (hsu : ∀ o i, subscripted (.Slice none none (some st) p2) false o i = operate [o, i] (getItem o i) := by exact fun _ _ => rfl) : SE X W (.Subscript a (.Slice none none (some st) p2) pos) (cUn revD fa) := by
  intro pins s σ H Q I h
  have h := (tG.bindE (k := fun d _ S => valO (revD d) S) h).mono fun v H1 ⟨d, h1⟩ => tG.op1 h1
  refine Subscript_ (thn (ha pins s σ H _ I h) fun v s1 ⟨x, H1, I1, r1, q1⟩ => ?_)
  refine wpAny_Slice ?_
  rw [evalPart_none]
  refine wpAny_pure (wpAny_pure ?_)
  rw [evalPart_some]
  refine hst _ _ _ fun t k => ?_
  have I4 : Inv X pins σ H1 { s1 with heap := s1.heap.push { cls := .type "slice", data := .fields #[.none, .none, .int (-1) t] }, toks := k } := I1.kept fun b ob q => Heap.get?_push_of_some _ q
  have hs : ({ s1 with heap := s1.heap.push { cls := .type "slice", data := .fields #[.none, .none, .int (-1) t] }, toks := k } : Shared).heap.IsSliceOf s1.heap.objs.size .none .none (.int (-1) t) := Heap.IsSliceOf.new ..
  show wpAny (model X.prog X.w) X.A (subscriptTail a (.Slice none none (some st) p2) v (.ref s1.heap.objs.size)) (EP X pins σ Q) X.xe { s1 with heap := s1.heap.push { cls := .type "slice", data := .fields #[.none, .none, .int (-1) t] }, toks := k }
  generalize ({ s1 with heap := s1.heap.push { cls := .type "slice", data := .fields #[.none, .none, .int (-1) t] }, toks := k } : Shared) = s4 at I4 hs
  generalize s1.heap.objs.size = sl at hs
  obtain ⟨J, dx, d, hJ, ax, e, q⟩ := q1
  unfold revD at e
  split at e
  · rename_i xs
    cases e
    obtain ⟨aa, us, rfl, tq, m⟩ := At.tup_iff.mp ax
    cases r1
    obtain ⟨its, r, ht, hz⟩ := I4.tuple tq.sq
    refine tail_any (ops := [.ref aa, .ref sl]) ht.typeIs PyProof.Rows.slot_tuple_getitem.lookup (getItem_tuple_rev ht hs (by rw [← r.length]; exact hz) ?_) (hsu _ _)
    exact ⟨.ref s4.heap.objs.size, _, I4.laid (t' := s4.toks) (o := .tup us.reverse) (fun b ob q => Heap.get?_push_of_some _ q) (Nat.le_refl _) ⟨by rw [List.length_reverse]; exact hz, _, Vals.reverse r, IsTup.new _ _⟩, rfl, q _ _ (same_upd I4.fresh _) (At.newTup m.reverse I4.fresh hJ (by rw [List.length_reverse]; exact hz))⟩
  · rename_i xs
    cases e
    obtain ⟨aa, us, rfl, tq, m⟩ := At.lst_iff.mp ax
    cases r1
    obtain ⟨its, r, ht, hz⟩ := I4.list tq.sq
    refine tail_any (ops := [.ref aa, .ref sl]) ht.isList.typeIs slot_list_getitem.lookup (wpAny_getItem_list_slice ht.isList hs .none .none (.int (-1) t) (by decide) ?_ (by rw [List.size_toArray, ← r.length]; exact hz)) (hsu _ _)
    rw [krv_pick]
    exact ⟨.ref s4.heap.objs.size, _, I4.lnew (t' := s4.toks) (by simpa using Vals.reverse r) (by rw [List.length_reverse]; exact hz), rfl, q _ _ (same_upd I4.fresh _) (At.newLst m.reverse I4.fresh hJ (by rw [List.length_reverse]; exact hz))⟩
  · rename_i z
    cases e
    obtain ⟨ex, kx⟩ := At.str_iff.mp ax
    subst ex
    obtain ⟨tt, rfl⟩ := r1
    refine tail_any (ops := [.str z tt, .ref sl]) (typeIs_str _ _ _) F.slot_str_getitem.lookup (wpAny_getItem_str_slice (l := none) (u := none) (st := some (-1, t)) hs rfl (rev_text z tt t kx.1 fun t' k => ?_)) (hsu _ _)
    refine ⟨.str _, H1, I4.tok _, ⟨t', rfl⟩, q H1 _ (Same.refl H1) (At.str_iff.mpr ⟨rfl, ?_, strOk_of fun c m => strOk_mem kx.2 (List.mem_reverse.mp m)⟩)⟩
    show (List.toArray _).size ≤ _
    rw [List.size_toArray, List.length_reverse]
    have hl : z.cps.toList.length = z.length := by simp [Str.length]
    rw [hl]; exact kx.1
  · cases e
theorem minus_one {env : Env} {j : Nat} {p q : Pos} {E : Value → Shared → Prop} {s : Shared} {Q : Value → Shared → Prop} {M : Program} {w : World} {A : Around} (h : ∀ t k, Q (.int (-1) t) { s with toks := k }) : wpAny (model M w) A (eval (.UnaryOp .USub (.Constant (.int 1) j p) q) env) Q E s :=
  UnaryOp_ (wpAny_Constant_int (neg_int (h _ _)))
end
end L2
namespace L2
open PySem PySem.Spec PyProof.Rows PySem.W
section
variable {X : Cx} {W : WT}
theorem noFill_tuple_mul : fillsNumberSlot (.type "tuple") "mul" = pure false :=
  PySem.fillsNumberSlot_seq (id := "tuple.__mul__") (r := some (.builtin "tuple.__rmul__")) F.slot_tuple_mul.lookup (by decide +kernel) F.slot_tuple_rmul.lookup (by decide +kernel)
theorem repeat_tuple : seqRepeat? (.type "tuple") = pure (some (.builtin "tuple.__mul__")) := by
  unfold seqRepeat?
  rw [PySem.seqSlot_of (T := "tuple") (name := "__mul__") (id := "tuple.__mul__") F.slot_tuple_mul.lookup (by decide +kernel), PySem.seqSlot_of (T := "tuple") (name := "__rmul__") (id := "tuple.__rmul__") F.slot_tuple_rmul.lookup (by decide +kernel)]
  rfl
theorem int_rmul_tuple (a : Int) (t : Tok) (l : Addr) (items : Array Value) (n : Nat) (dd : Option Addr) (sl : Array (Option Value)) :
    Meets (Builtin.«int.__rmul__» ⟨[.int a t, .ref l], []⟩) (fun _ R s => s.heap.get? l = some { cls := .type "tuple", dict := dd, data := .seq items n, slots := sl } ∧ R (.ok (.ret Value.notImplemented)) s) :=
  .of_wp fun prog w A R s h => by obtain ⟨hp, g, d, tk, os⟩ := s; obtain ⟨hl, h⟩ := h; wp_walk; exact ⟨_, rfl, h⟩
theorem tuple_mulW (l : Addr) (items : Array Value) (n : Nat) (dd : Option Addr) (sl : Array (Option Value)) (k : Int) (t : Tok) (h1 : 2 ≤ k) (h2 : k < 2 ^ 30) (he : items.isEmpty = false) (hsz : items.size * k.toNat ≤ sizeLine) :
    Meets (Builtin.«tuple.__mul__» ⟨[.ref l, .int k t], []⟩) (fun _ R s => s.heap.get? l = some { cls := .type "tuple", dict := dd, data := .seq items n, slots := sl } ∧ R (.ok (.ret (Value.ref s.heap.objs.size))) { s with heap := s.heap.push { cls := Value.type "tuple", data := Data.seq (List.foldl (fun x1 x2 => x1 ++ x2) #[] (List.replicate k.toNat items)) }, toks := s.toks }) :=
  .of_wp fun prog w A R s h => by
    obtain ⟨hp, g, d, tk, os⟩ := s; obtain ⟨hl, h⟩ := h
    have f1 := AutoSeq1.idx_int
    wp_walk using AutoSeq1.wpAny_loadPart' hl
    have p1 : (0 : Int) ≤ k := by omega
    have hk : ((k.toNat : Nat) : Int) = k := by omega
    have c1 : ¬ ((decide (k < -2 ^ 63) || decide (k ≥ 2 ^ 63)) = true) := by
      rw [decide_eq_false (by omega), decide_eq_false (by omega)]; decide
    have c2 : ¬ ((items.isEmpty || k == 1) = true) := by
      rw [he, Bool.false_or, beq_eq_false_iff_ne.mpr (by omega)]; decide
    have c3 : ¬ ((decide (k ≤ 0) || items.isEmpty) = true) := by
      rw [he, decide_eq_false (by omega)]; decide
    have c4 : ((items.size * k.toNat : Nat) : Int) = (items.size : Int) * k := by rw [Int.natCast_mul, hk]
    have hs24 : (sizeLine : Nat) = 2 ^ 24 := rfl
    have c5 : ¬ ((items.size : Int) * k > (2 ^ 63 - 1) / 8) := by rw [← c4]; omega
    have c6 : Builtin.Tuple.tupleTooMany ((items.size : Int) * k) = false := by
      unfold Builtin.Tuple.tupleTooMany
      rw [← c4]; exact decide_eq_false (by omega)
    rw [if_neg c1]
    refine wpAny_bind (tupleItemsOf_ (⟨_, hl, rfl, n, rfl⟩ : IsTup hp l items) ?_)
    dsimp only
    rw [if_neg c2, if_neg c3, if_neg c5, if_neg (by rw [c6]; decide)]
    have hf : sizeOk (.seq (List.foldl (fun x1 x2 => x1 ++ x2) #[] (List.replicate k.toNat items))) := by
      have e : List.foldl (fun x1 x2 => x1 ++ x2) #[] (List.replicate k.toNat items) = (List.replicate k.toNat items.toList).flatten.toArray := by
        have := foldl_rep items.toList k.toNat []
        simpa using this
      show (List.foldl (fun x1 x2 => x1 ++ x2) #[] (List.replicate k.toNat items)).size ≤ sizeLine
      rw [e, List.size_toArray, len_rep, Array.length_toList, Nat.mul_comm]
      exact hsz
    first
      | exact wpAny_bind (m := Builtin.Tuple.tupleExact _) (wpAny_newObj_type (wpAny_pure ⟨_, rfl, h⟩) hf)
      | exact wpAny_bind (m := Builtin.Tuple.tupleExact _) (wpAny_newObj_type (wpAny_bind (wpAny_pure (wpAny_pure ⟨_, rfl, h⟩))) hf)
def mulD : D → D → Option D
  | .int i, .int j => if mulOk i j then some (.int (i * j)) else none
  | .str x, .int n => if -1000 ≤ n ∧ n < 1 then some (.str ⟨#[]⟩) else if 1 ≤ n ∧ n ≤ 1000 ∧ x.length ≤ 1000 then some (.str ⟨(List.replicate n.toNat x.cps.toList).flatten.toArray⟩) else none
  | .tup xs, .int n => if 2 ≤ n ∧ n ≤ 1000 ∧ 0 < xs.length ∧ xs.length ≤ 1000 then some (.tup (List.replicate n.toNat xs).flatten) else none
  | _, _ => none
theorem mul_text (x : Str) (n : Int) (h : 1 ≤ n) : Txt.mul x n = ⟨(List.replicate n.toNat x.cps.toList).flatten.toArray⟩ := by
  have f : ∀ m : Nat, (List.replicate m x.cps).foldl (· ++ ·) #[] = (List.replicate m x.cps.toList).flatten.toArray := fun m => by
    have : ∀ (m : Nat) (acc : List Nat), (List.replicate m x.cps).foldl (· ++ ·) acc.toArray = (acc ++ (List.replicate m x.cps.toList).flatten).toArray := by
      intro m
      induction m with
      | zero => intro acc; simp
      | succ m ih =>
        intro acc
        rw [List.replicate_succ, List.foldl_cons, List.replicate_succ, List.flatten_cons, ← List.append_assoc]
        have e : acc.toArray ++ x.cps = (acc ++ x.cps.toList).toArray := by simp
        rw [e]; exact ih _
    have := this m []
    simpa using this
  unfold Txt.mul
  rw [if_neg (by omega)]
  split
  · rename_i c
    rw [Bool.or_eq_true] at c
    rcases c with c | c
    · have : n = 1 := eq_of_beq c
      subst this
      show x = ⟨([x.cps.toList].flatten).toArray⟩
      simp
    · have hx : x.cps.size = 0 := eq_of_beq c
      have : x.cps.toList = [] := by simpa using Array.size_eq_zero_iff.mp hx
      have hz : ∀ m : Nat, (List.replicate m ([] : List Nat)).flatten = [] := fun m => by induction m with
        | zero => rfl
        | succ m ih => rw [List.replicate_succ, List.flatten_cons, ih]; rfl
      rw [this, hz]
      cases x with
      | mk cps =>
        simp only at this
        have : cps = #[] := by simpa using this
        rw [this]
  · rw [f]
theorem od_mul : OpD X (binaryOp .Mult) mulD := by
  intro pins s σ H x y v u Q I rx ry h
  obtain ⟨J, dx, dy, d, hJ, ax, ay, e, q⟩ := h
  unfold mulD at e
  split at e
  · rename_i i j
    split at e
    · rename_i c
      cases e
      cases At.int_iff.mp ax; cases At.int_iff.mp ay
      exact op_mul pins s σ H _ _ v u Q I rx ry ⟨i, j, rfl, rfl, mulOk_C c, q H _ (Same.refl H) (At.int_iff.mpr rfl)⟩
    · cases e
  · rename_i z n
    obtain ⟨ex, kx⟩ := At.str_iff.mp ax
    subst ex
    cases At.int_iff.mp ay
    obtain ⟨t, rfl⟩ := rx
    obtain ⟨t', rfl⟩ := ry
    split at e
    · rename_i c
      cases e
      refine SB.mul ⟨by rw [decide_eq_false (by omega), decide_eq_false (by omega)]; rfl, fun h => absurd c.2 h, fun h => absurd c.2 h⟩ fun t' k => ?_
      rw [show Txt.mul z n = ⟨#[]⟩ from if_pos c.2]
      exact ⟨.str _, H, I.tok _, ⟨t', rfl⟩, q H _ (Same.refl H) (At.str_iff.mpr ⟨rfl, by show 0 ≤ sizeLine; decide, by decide +kernel⟩)⟩
    · rename_i c
      split at e
      · rename_i c2
        cases e
        have hs24 : (sizeLine : Nat) = 2 ^ 24 := rfl
        have hlen : z.length * n.toNat ≤ 1000000 := by
          have : n.toNat ≤ 1000 := by omega
          exact Nat.le_trans (Nat.mul_le_mul c2.2.2 this) (by decide)
        have ok : MulOk z n := by
          refine ⟨by rw [decide_eq_false (by omega), decide_eq_false (by omega)]; rfl, fun _ _ hh => ?_, fun _ _ => ?_⟩
          · have h1 : (2 ^ 63 - 1) / n ≥ (2 ^ 63 - 1) / 1000 := by
              apply Int.le_ediv_of_mul_le (by omega)
              have : ((2 ^ 63 - 1) / 1000 : Int) = 9223372036854775 := by decide
              rw [this]
              omega
            have h2 : ((2 ^ 63 - 1) / 1000 : Int) = 9223372036854775 := by decide
            omega
          · unfold Builtin.Str.tooLong
            exact decide_eq_false (by omega)
        refine SB.mul ok fun t' k => ?_
        rw [mul_text z n (by omega)]
        have hl : z.cps.toList.length = z.length := by simp [Str.length]
        refine ⟨.str _, H, I.tok _, ⟨t', rfl⟩, q H _ (Same.refl H) (At.str_iff.mpr ⟨rfl, ?_, strOk_of fun c m => ?_⟩)⟩
        · show (List.toArray _).size ≤ _
          rw [List.size_toArray, len_rep, hl, Nat.mul_comm]
          omega
        · obtain ⟨l, hl1, hl2⟩ := List.mem_flatten.mp m
          rw [(List.mem_replicate.mp hl1).2] at hl2
          exact strOk_mem kx.2 hl2
      · cases e
  · rename_i xs n
    split at e
    · rename_i c
      cases e
      obtain ⟨a, us, rfl, tq, m⟩ := At.tup_iff.mp ax
      cases At.int_iff.mp ay
      cases rx
      obtain ⟨t', rfl⟩ := ry
      obtain ⟨its, r, ⟨⟨cls, dd, data, sl⟩, ho, hc, nn, hd⟩, hz⟩ := I.tuple tq.sq
      simp only at hc hd
      subst hc hd
      have l1 := m.length
      have l2 := r.length
      have hs24 : (sizeLine : Nat) = 2 ^ 24 := rfl
      have hlen : its.toArray.size * n.toNat ≤ sizeLine := by
        rw [List.size_toArray]
        have h1 : its.length ≤ 1000 := by omega
        have h2 : n.toNat ≤ 1000 := by omega
        exact Nat.le_trans (Nat.mul_le_mul h1 h2) (by rw [hs24]; decide)
      have h0 : 0 < its.length := by omega
      have hne : its.toArray.isEmpty = false := by
        cases its with
        | nil => simp at h0
        | cons _ _ => rfl
      refine wpAny_binaryOp_repeat_ref (T := "tuple") (U := "int") (by decide) ⟨_, ho, rfl⟩ (fun s' => typeIs_int s' n t') noFill_tuple_mul F.fills_int_mul F.slot_int_rmul repeat_tuple F.slot_int_index.lookup
        (call_meets F.slot_int_rmul (typeIs_int s n t') F.entry_int_rmul (F.args_int_rmul_2 _ _) (int_rmul_tuple n t' a its.toArray nn dd sl)
          ⟨ho, rfl, ⟨_, ho, rfl⟩, call_meets F.slot_tuple_mul ⟨_, ho, rfl⟩ F.entry_tuple_mul (F.args_tuple_mul_2 _ _) (tuple_mulW a its.toArray nn dd sl n t' c.1 (by omega) hne hlen) ⟨ho, ?_⟩⟩)
      have hnew : List.foldl (fun x1 x2 => x1 ++ x2) #[] (List.replicate n.toNat its.toArray) = (List.replicate n.toNat its).flatten.toArray := by
        have := foldl_rep its n.toNat []
        rw [List.nil_append] at this
        exact this
      rw [hnew]
      have hrep : (List.replicate n.toNat us).flatten.length ≤ sizeLine := by
        rw [len_rep, Nat.mul_comm, l2]
        rw [List.size_toArray] at hlen; exact hlen
      exact ⟨.ref s.heap.objs.size, _, I.laid (t' := s.toks) (o := .tup (List.replicate n.toNat us).flatten) (fun b ob q => Heap.get?_push_of_some _ q) (Nat.le_refl _) ⟨hrep, _, r.rep n.toNat, IsTup.new _ _⟩, rfl, q _ _ (same_upd I.fresh _) (At.newTup (m.rep n.toNat) I.fresh hJ hrep)⟩
    · cases e
  · cases e
end
end L2
namespace L2
open PySem PySem.Spec PyProof.Rows PySem.W
section
variable {X : Cx} {W : WT}
def kindD : D → Option String
  | .non => some "NoneType"
  | .bl _ => some "bool"
  | .int _ => some "int"
  | .str _ => some "str"
  | .tup _ => some "tuple"
  | .lst _ => some "list"
  | _ => none
def isiK (T k : String) : Bool := k == T || (k == "bool" && T == "int")
def isiD (T : String) (d : D) : Option D := (kindD d).map fun k => .bl (isiK T k)
def KitOk (T : String) : Prop := ∀ (K : Frag), kitOne K (.type "NoneType") (.type T) = some (isiK T "NoneType") ∧ kitOne K (.type "bool") (.type T) = some (isiK T "bool") ∧ kitOne K (.type "int") (.type T) = some (isiK T "int") ∧
  kitOne K (.type "str") (.type T) = some (isiK T "str") ∧ kitOne K (.type "tuple") (.type T) = some (isiK T "tuple") ∧ kitOne K (.type "list") (.type T) = some (isiK T "list")
theorem kit_int : KitOk "int" := fun K => ⟨rfl, rfl, rfl, rfl, rfl, rfl⟩
theorem kit_str : KitOk "str" := fun K => ⟨rfl, rfl, rfl, rfl, rfl, rfl⟩
theorem kit_bool : KitOk "bool" := fun K => ⟨rfl, rfl, rfl, rfl, rfl, rfl⟩
theorem kit_tuple : KitOk "tuple" := fun K => ⟨rfl, rfl, rfl, rfl, rfl, rfl⟩
theorem call_isi {T : String} (hk : KitOk T) : CallR X (.builtin "isinstance") (fun xs H Q => ∃ x, xs = [x, .ty T] ∧ rD1 X.K (isiD T) x H Q) := by
  intro pins s σ H xs us Q I r h
  obtain ⟨x, rfl, J, dx, d, hJ, ax, e, q⟩ := h
  obtain ⟨u, w', rfl, ru, rT⟩ := vals2 r
  cases rT
  obtain ⟨k, e1, e2⟩ := Option.map_eq_some_iff.mp e
  subst e2
  obtain ⟨k1, k2, k3, k4, k5, k6⟩ := hk X.K
  have fin : ∀ tk, EP X pins σ Q (.bool (isiK T k)) { s with toks := tk } := fun tk => ⟨.bl _, H, I.tok _, rfl, q H _ (Same.refl H) (At.bl_iff.mpr rfl)⟩
  cases dx with
  | non => cases e1; cases At.non_iff.mp ax; cases ru; exact kia_one kitx_none I.kIn True.intro k1 (fun z => nomatch z) fin
  | bl b => cases e1; cases At.bl_iff.mp ax; cases ru; exact kia_one kitx_bool I.kIn True.intro k2 (fun z => nomatch z) fin
  | int i => cases e1; cases At.int_iff.mp ax; obtain ⟨t, rfl⟩ := ru; exact kia_one kitx_int I.kIn True.intro k3 (fun z => nomatch z) fin
  | str y => cases e1; cases (At.str_iff.mp ax).1; obtain ⟨t, rfl⟩ := ru; exact kia_one kitx_str I.kIn True.intro k4 (fun z => nomatch z) fin
  | tup ds =>
    cases e1
    obtain ⟨a, ws, rfl, tq, _⟩ := At.tup_iff.mp ax
    cases ru
    obtain ⟨its, rv, ⟨o, h1, h2, _⟩, _⟩ := I.tuple tq.sq
    exact kia_one kitx_tuple I.kIn ⟨o, h1, h2⟩ k5 (fun z => nomatch z) fin
  | lst ds =>
    cases e1
    obtain ⟨a, ws, rfl, tq, _⟩ := At.lst_iff.mp ax
    cases ru
    obtain ⟨its, rv, ⟨o, n, h1, h2, _⟩, _⟩ := I.list tq.sq
    exact kia_one kitx_list I.kIn ⟨o, h1, h2⟩ k6 (fun z => nomatch z) fin
  | set _ => simp [kindD] at e1
  | loc _ => simp [kindD] at e1
variable {a b c e : Expr} {fa fb fc : Rho → Sto → Out D} {pos : Pos} {es : List Expr} {gs : Rho → Sto → Out (List D)}
theorem se_isi {T : String} {x t : Str} {p p2 : Pos} (hk : KitOk T) (hx : x = "isinstance") (hm : X.mg x = none) (hmt : X.mg t = none) (hvt : bootBuiltins t = some (.type T)) (ha : SE X W e fa)
    (hg : Gl X x := by rfl) (hgt : Gl X t := by rfl) (hn : t ≠ "__name__" := by decide) (hdb : (t == ("__debug__" : Str)) = false := by decide)
    (he : starEach (e :: [.Name t p2]) X.env = (false, eval e X.env) :: starEach [.Name t p2] X.env := by rfl) (hpl : (backTo pos (starEach [.Name t p2] X.env)).any (·.1) = false := by rfl) :
    SE X W (.Call (.Name x p) [e, .Name t p2] [] pos) (cUn (isiD T) fa) := by
  subst hx
  refine PE.imp (pe_callB (call_isi hk) hg hm (by decide +kernel) (pa_cons ha (pa_cons (pe_bltn (v := .ty T) hgt hmt hvt (show RelV (.ty T) (.type T) from rfl) hn hdb) pa_nil (by rfl)) he) (by decide) (by decide) he hpl) fun σ H Q h => ?_
  exact (tG.bindE h).mono fun v H1 ⟨d, h1⟩ => ⟨v, rfl, tG.op1 h1⟩
def lenD : List D → Option D
  | [.tup xs] => some (.int xs.length)
  | [.lst xs] => some (.int xs.length)
  | [.str x] => some (.int x.length)
  | _ => none
theorem cd_len : CallD X (.builtin "len") lenD := by
  intro pins s σ H xs us Q I r h
  obtain ⟨J, ds, d, hJ, m, e, q⟩ := h
  unfold lenD at e
  split at e
  · rename_i ys
    cases e
    obtain ⟨v, w, rfl, a, n⟩ := Ats.cons_iff.mp m
    cases Ats.nil_iff.mp n
    obtain ⟨p, zs, rfl, t, mz⟩ := At.tup_iff.mp a
    exact call_len_seq pins s σ H _ us Q I r ⟨p, zs, rfl, .inr t.sq, by rw [← mz.length]; exact q H _ (Same.refl H) (At.int_iff.mpr rfl)⟩
  · rename_i ys
    cases e
    obtain ⟨v, w, rfl, a, n⟩ := Ats.cons_iff.mp m
    cases Ats.nil_iff.mp n
    obtain ⟨p, zs, rfl, t, mz⟩ := At.lst_iff.mp a
    exact call_len_seq pins s σ H _ us Q I r ⟨p, zs, rfl, .inl t.sq, by rw [← mz.length]; exact q H _ (Same.refl H) (At.int_iff.mpr rfl)⟩
  · rename_i y
    cases e
    obtain ⟨v, w, rfl, a, n⟩ := Ats.cons_iff.mp m
    cases Ats.nil_iff.mp n
    obtain ⟨ex, kx⟩ := At.str_iff.mp a
    subst ex
    exact call_len_str pins s σ H _ us Q I r ⟨y, rfl, kx.1, q H _ (Same.refl H) (At.int_iff.mpr rfl)⟩
  · cases e
def intD : List D → Option D
  | [.int i] => some (.int i)
  | [.bl k] => some (.int (if k then 1 else 0))
  | _ => none
theorem cd_int : CallD X (.type "int") intD := by
  intro pins s σ H xs us Q I r h
  obtain ⟨J, ds, d, hJ, m, e, q⟩ := h
  unfold intD at e
  split at e
  · rename_i i
    cases e
    obtain ⟨v, w, rfl, a, n⟩ := Ats.cons_iff.mp m
    cases Ats.nil_iff.mp n
    cases At.int_iff.mp a
    exact call_int1 pins s σ H _ us Q I r (.inl ⟨i, rfl, q H _ (Same.refl H) (At.int_iff.mpr rfl)⟩)
  · rename_i k
    cases e
    obtain ⟨v, w, rfl, a, n⟩ := Ats.cons_iff.mp m
    cases Ats.nil_iff.mp n
    cases At.bl_iff.mp a
    exact call_int1 pins s σ H _ us Q I r (.inr ⟨k, rfl, q H _ (Same.refl H) (At.int_iff.mpr rfl)⟩)
  · cases e
def numS (i : Int) : Str := toString i
def okB (x : Str) : Bool := decide (x.length ≤ sizeLine) && PyData.strOk x
theorem okB_S {x : Str} (h : okB x = true) : okS x := by
  unfold okB at h
  rw [Bool.and_eq_true] at h
  exact ⟨of_decide_eq_true h.1, h.2⟩
def strD1 : List D → Option D
  | [.int i] => if i.natAbs.log2 < 1920 ∧ okB (numS i) = true then some (.str (numS i)) else none
  | _ => none
theorem cd_str : CallD X (.type "str") strD1 := by
  intro pins s σ H xs us Q I r h
  obtain ⟨J, ds, d, hJ, m, e, q⟩ := h
  unfold strD1 at e
  split at e
  · rename_i i
    split at e
    · rename_i c
      cases e
      obtain ⟨v, w, rfl, a, n⟩ := Ats.cons_iff.mp m
      cases Ats.nil_iff.mp n
      cases At.int_iff.mp a
      exact call_str_int pins s σ H _ us Q I r ⟨i, rfl, c.1, q H _ (Same.refl H) (At.str_iff.mpr ⟨rfl, okB_S c.2⟩)⟩
    · cases e
  · cases e
def tupD : List D → Option D
  | [.tup xs] => some (.tup xs)
  | [.lst xs] => some (.tup xs)
  | _ => none
theorem cd_tup : CallD X (.type "tuple") tupD := by
  intro pins s σ H xs us Q I r h
  obtain ⟨J, ds, d, hJ, m, e, q⟩ := h
  unfold tupD at e
  split at e
  · rename_i ys
    cases e
    obtain ⟨v, w, rfl, a, n⟩ := Ats.cons_iff.mp m
    cases Ats.nil_iff.mp n
    obtain ⟨p, zs, rfl, t, mz⟩ := At.tup_iff.mp a
    exact call_tuple_of pins s σ H _ us Q I r ⟨p, zs, rfl, .inr ⟨t.sq, q H _ (Same.refl H) a⟩⟩
  · rename_i ys
    cases e
    obtain ⟨v, w, rfl, a, n⟩ := Ats.cons_iff.mp m
    cases Ats.nil_iff.mp n
    obtain ⟨p, zs, rfl, t, mz⟩ := At.lst_iff.mp a
    exact call_tuple_of pins s σ H _ us Q I r ⟨p, zs, rfl, .inl ⟨t.sq, fun l hl => q _ _ (same_upd hl _) (At.newTup mz hl hJ t.len)⟩⟩
  · cases e
def lstD : List D → Option D
  | [.tup xs] => some (.lst xs)
  | [.lst xs] => some (.lst xs)
  | _ => none
theorem cd_lst : CallD X (.type "list") lstD := by
  intro pins s σ H xs us Q I r h
  obtain ⟨J, ds, d, hJ, m, e, q⟩ := h
  unfold lstD at e
  split at e
  · rename_i ys
    cases e
    obtain ⟨v, w, rfl, a, n⟩ := Ats.cons_iff.mp m
    cases Ats.nil_iff.mp n
    obtain ⟨p, zs, rfl, t, mz⟩ := At.tup_iff.mp a
    exact call_list_of pins s σ H _ us Q I r ⟨p, zs, rfl, .inr t.sq, fun l hl => q _ _ (same_upd hl _) (At.newLst mz hl hJ t.len)⟩
  · rename_i ys
    cases e
    obtain ⟨v, w, rfl, a, n⟩ := Ats.cons_iff.mp m
    cases Ats.nil_iff.mp n
    obtain ⟨p, zs, rfl, t, mz⟩ := At.lst_iff.mp a
    exact call_list_of pins s σ H _ us Q I r ⟨p, zs, rfl, .inl t.sq, fun l hl => q _ _ (same_upd hl _) (At.newLst mz hl hJ t.len)⟩
  · cases e
def maxD : List D → Option D
  | [.int i, .int j] => some (.int (if j > i then j else i))
  | _ => none
def minD : List D → Option D
  | [.int i, .int j] => some (.int (if j < i then j else i))
  | _ => none
theorem cd_max (hc : X.calm = true) : CallD X (.builtin "max") maxD := by
  intro pins s σ H xs us Q I r h
  obtain ⟨J, ds, d, hJ, m, e, q⟩ := h
  unfold maxD at e
  split at e
  · rename_i i j
    cases e
    obtain ⟨v, w, rfl, a, n⟩ := Ats.cons_iff.mp m
    obtain ⟨v2, w2, rfl, a2, n⟩ := Ats.cons_iff.mp n
    cases Ats.nil_iff.mp n
    cases At.int_iff.mp a; cases At.int_iff.mp a2
    exact call_max2 hc pins s σ H _ us Q I r ⟨i, j, rfl, q H _ (Same.refl H) (At.int_iff.mpr rfl)⟩
  · cases e
theorem cd_min (hc : X.calm = true) : CallD X (.builtin "min") minD := by
  intro pins s σ H xs us Q I r h
  obtain ⟨J, ds, d, hJ, m, e, q⟩ := h
  unfold minD at e
  split at e
  · rename_i i j
    cases e
    obtain ⟨v, w, rfl, a, n⟩ := Ats.cons_iff.mp m
    obtain ⟨v2, w2, rfl, a2, n⟩ := Ats.cons_iff.mp n
    cases Ats.nil_iff.mp n
    cases At.int_iff.mp a; cases At.int_iff.mp a2
    exact call_min2 hc pins s σ H _ us Q I r ⟨i, j, rfl, q H _ (Same.refl H) (At.int_iff.mpr rfl)⟩
  · cases e
end
end L2
namespace L2
open PySem PySem.Spec PyProof.Rows PySem.W
inductive Fl where
  | next (ρ : Rho) | ret (d : D) | brk (ρ : Rho) | cont (ρ : Rho)
def EndS (X : Cx) (W : WT) (J : List Addr) (H : Hp) (r : Except Str Fl) (S' : Sto) (E : Ends) : Prop :=
  match r with
  | .ok (.next ρ') => ∀ J' σ' H', Ex J H J' H' → Cf X J' ρ' S' σ' H' → E.nx σ' H'
  | .ok (.brk ρ') => ∀ J' σ' H', Ex J H J' H' → Cf X J' ρ' S' σ' H' → E.bk σ' H'
  | .ok (.cont ρ') => ∀ J' σ' H', Ex J H J' H' → Cf X J' ρ' S' σ' H' → E.ct σ' H'
  | .ok (.ret d) => ∀ J' H' v, Ex J H J' H' → StoOk X.K J' S' H' → At X.K H' J' d v → E.rt v H'
  | .error c => ∀ J' H', Ex J H J' H' → StoOk X.K J' S' H' → W c J' S' H'
theorem EndS.ex {X : Cx} {W : WT} {J J1 : List Addr} {H H1 : Hp} {r : Except Str Fl} {S' : Sto} {E : Ends} (h : EndS X W J H r S' E) (x : Ex J H J1 H1) : EndS X W J1 H1 r S' E := by
  cases r with
  | error c => exact fun J' H' x' s => h J' H' (x.trans x') s
  | ok f =>
    cases f with
    | next ρ => exact fun J' σ' H' x' c => h J' σ' H' (x.trans x') c
    | brk ρ => exact fun J' σ' H' x' c => h J' σ' H' (x.trans x') c
    | cont ρ => exact fun J' σ' H' x' c => h J' σ' H' (x.trans x') c
    | ret d => exact fun J' H' v x' s a => h J' H' v (x.trans x') s a
def tS (X : Cx) (W : WT) (f : Rho → Sto → Out Fl) : TS := fun E σ H => ∃ J ρ S r S', Cf X J ρ S σ H ∧ f ρ S = some (r, S') ∧ EndS X W J H r S' E
def SS (X : Cx) (W : WT) (st : Stmt) (f : Rho → Sto → Out Fl) : Prop := PS X st (tS X W f)
def SSs (X : Cx) (W : WT) (st : List Stmt) (f : Rho → Sto → Out Fl) : Prop := PSs X st (tS X W f)
theorem PS.imp {X : Cx} {st : Stmt} {t t' : TS} (h : PS X st t) (i : ∀ E σ H, t' E σ H → t E σ H) : PS X st t' := fun pins s σ H D I z => h pins s σ H D I (i _ _ _ z)
theorem PSs.imp {X : Cx} {st : List Stmt} {t t' : TS} (h : PSs X st t) (i : ∀ E σ H, t' E σ H → t E σ H) : PSs X st t' := fun pins s σ H D I z => h pins s σ H D I (i _ _ _ z)
section
variable {X : Cx} {W : WT} {st : Stmt} {rest : List Stmt} {f g : Rho → Sto → Out Fl} {e c : Expr} {fe : Rho → Sto → Out D} {gt : Rho → Sto → Out Bool} {pos : Pos}
def cNext : Rho → Sto → Out Fl := fun ρ S => okO (.next ρ) S
def cSeq (f g : Rho → Sto → Out Fl) : Rho → Sto → Out Fl := fun ρ S => bindO (f ρ S) fun fl S1 => match fl with
  | .next ρ' => g ρ' S1
  | o => okO o S1
def cRet (f : Rho → Sto → Out D) : Rho → Sto → Out Fl := fun ρ S => bindO (f ρ S) fun d S1 => okO (.ret d) S1
def cIf (t : Rho → Sto → Out Bool) (f g : Rho → Sto → Out Fl) : Rho → Sto → Out Fl := fun ρ S => bindO (t ρ S) fun k S1 => if k = true then f ρ S1 else g ρ S1
def cSet (i : Nat) (f : Rho → Sto → Out D) : Rho → Sto → Out Fl := fun ρ S => bindO (f ρ S) fun d S1 => okO (.next (ρ.set i (some d))) S1
theorem sss_nil : SSs X W [] cNext := pss_nil.imp fun E σ H h => by
  obtain ⟨J, ρ, S, r, S', c, e, z⟩ := h
  cases e
  exact z J σ H Ex.refl c
theorem seq_read {E : Ends} {σ : St} {H : Hp} (h : tS X W (cSeq f g) E σ H) : tSeq (tS X W f) (tS X W g) E σ H := by
  obtain ⟨J, ρ, S, r, S', c, e, z⟩ := h
  unfold cSeq at e
  cases q : f ρ S with
  | none => simp [q] at e
  | some o =>
    obtain ⟨ro, S1⟩ := o
    simp only [q] at e
    cases ro with
    | error x =>
      cases e
      exact ⟨J, ρ, S, .error x, _, c, q, z⟩
    | ok fl =>
      cases fl with
      | next ρ' => exact ⟨J, ρ, S, .ok (.next ρ'), S1, c, q, fun J' σ' H' x c' => ⟨J', ρ', S1, r, S', c', e, z.ex x⟩⟩
      | ret d => cases e; exact ⟨J, ρ, S, .ok (.ret d), _, c, q, z⟩
      | brk ρ' => cases e; exact ⟨J, ρ, S, .ok (.brk ρ'), _, c, q, z⟩
      | cont ρ' => cases e; exact ⟨J, ρ, S, .ok (.cont ρ'), _, c, q, z⟩
theorem sss_cons (h1 : SS X W st f) (h2 : SSs X W rest g) : SSs X W (st :: rest) (cSeq f g) := (pss_cons h1 h2).imp fun E σ H h => seq_read h
theorem sss_one (h1 : SS X W st f) : SSs X W [st] f := pss_one h1
theorem tS.bindE {k : D → Rho → Sto → Out Fl} {E : Ends} {σ : St} {H : Hp} (h : tS X W (fun ρ S => bindO (fe ρ S) fun d S1 => k d ρ S1) E σ H) :
    tE X W fe σ H fun v H1 => ∃ J ρ S d r S', Cf X J ρ S σ H1 ∧ At X.K H1 J d v ∧ k d ρ S = some (r, S') ∧ EndS X W J H1 r S' E := by
  obtain ⟨J, ρ, S, r, S', c, e, z⟩ := h
  cases q : fe ρ S with
  | none => simp [q] at e
  | some o =>
    obtain ⟨ro, S1⟩ := o
    simp only [q] at e
    cases ro with
    | error x =>
      cases e
      exact ⟨J, ρ, S, .error x, _, c, .nil, q, z⟩
    | ok d => exact ⟨J, ρ, S, .ok d, S1, c, .nil, q, fun J1 H1 v x s1 m => ⟨J1, ρ, S1, d, r, S', c.re x s1, m, e, z.ex x⟩⟩
theorem tS.bindT {k : Bool → Rho → Sto → Out Fl} {E : Ends} {σ : St} {H : Hp} (h : tS X W (fun ρ S => bindO (gt ρ S) fun d S1 => k d ρ S1) E σ H) :
    tT X W gt σ H fun b H1 => tS X W (k b) E σ H1 := by
  obtain ⟨J, ρ, S, r, S', c, e, z⟩ := h
  cases q : gt ρ S with
  | none => simp [q] at e
  | some o =>
    obtain ⟨ro, S1⟩ := o
    simp only [q] at e
    cases ro with
    | error x =>
      cases e
      exact ⟨J, ρ, S, .error x, _, c, .nil, q, z⟩
    | ok d =>
      refine ⟨J, ρ, S, .ok d, S1, c, .nil, q, fun J1 H1 v x s1 m => ?_⟩
      cases m
      exact ⟨J1, ρ, S1, r, S', c.re x s1, e, z.ex x⟩
theorem ss_ret (he : SE X W e fe) : SS X W (.Return (some e) pos) (cRet fe) := (ps_ret he).imp fun E σ H h => (tS.bindE h).mono fun v H1 ⟨J, ρ, S, d, r, S', c, m, q, z⟩ => by
  cases q
  exact z J H1 v Ex.refl c.sto m
theorem ss_if {a b : List Stmt} (hc : TS1 X W c gt) (ha : SSs X W a f) (hb : SSs X W b g) : SS X W (.If c a b pos) (cIf gt f g) := (ps_if hc ha hb).imp fun E σ H h => (tS.bindT h).mono fun k H1 h1 => by
  cases k with
  | true => rw [if_pos rfl]; exact h1
  | false => rw [if_neg (by decide)]; exact h1
theorem Cf.set {J : List Addr} {ρ : Rho} {S : Sto} {σ : St} {H : Hp} {i : Nat} {d : D} {v : V} (c : Cf X J ρ S σ H) (m : At X.K H J d v) : Cf X J (ρ.set i (some d)) S (σ.set i (some v)) H := by
  refine ⟨by rw [List.length_set, List.length_set]; exact c.len, fun j d' h => ?_, c.sto⟩
  by_cases hj : j = i
  · subst hj
    have hl : j < ρ.length := by
      have := (List.getElem?_eq_some_iff.mp h).1
      rwa [List.length_set] at this
    rw [List.getElem?_set_self hl] at h
    cases h
    exact ⟨v, List.getElem?_set_self (by rw [← c.len]; exact hl), m⟩
  · rw [List.getElem?_set_ne (Ne.symm hj)] at h
    obtain ⟨v', h1, h2⟩ := c.env j d' h
    exact ⟨v', by rw [List.getElem?_set_ne (Ne.symm hj)]; exact h1, h2⟩
theorem ss_set {i : Nat} {x : Str} {pos' : Pos} (hN : X.N.Nodup) (he : SE X W e fe) (hi : X.N[i]? = some x := by rfl) (hx : Loc X.env.scope x := by first | exact Or.inl rfl | exact Or.inr rfl) (hs : swapsWith e (some (.Name x pos')) pos.line X.env = pure false := by rfl)
    (hf : X.fn x = true ∨ X.env.scope.names.lookup x = some .local := by first | exact .inl rfl | exact .inr rfl | assumption) :
    SS X W (.Assign [.Name x pos'] e pos) (cSet i fe) := (ps_set hN hi hx he hs hf).imp fun E σ H h => (tS.bindE h).mono fun v H1 ⟨J, ρ, S, d, r, S', c, m, q, z⟩ => by
  cases q
  exact z J _ H1 Ex.refl (c.set m)
def tgD (X : Cx) (u : D → Rho → Option Rho) : TG := fun v σ H Q => ∃ J ρ S d ρ', Cf X J ρ S σ H ∧ At X.K H J d v ∧ u d ρ = some ρ' ∧ ∀ σ', Cf X J ρ' S σ' H → Q σ' H
def tgsD (X : Cx) (u : List D → Rho → Option Rho) : TGs := fun vs σ H Q => ∃ J ρ S ds ρ', Cf X J ρ S σ H ∧ Ats X.K H J ds vs ∧ u ds ρ = some ρ' ∧ ∀ σ', Cf X J ρ' S σ' H → Q σ' H
def SG (X : Cx) (tg : Expr) (u : D → Rho → Option Rho) : Prop := PG X tg (tgD X u)
def SGs (X : Cx) (tg : List Expr) (u : List D → Rho → Option Rho) : Prop := PGs X tg (tgsD X u)
theorem PG.imp {tg : Expr} {t t' : TG} (h : PG X tg t) (i : ∀ v σ H Q, t' v σ H Q → t v σ H Q) : PG X tg t' := fun pins s σ H v u Q I r z => h pins s σ H v u Q I r (i _ _ _ _ z)
theorem PGs.imp {tg : List Expr} {t t' : TGs} (h : PGs X tg t) (i : ∀ v σ H Q, t' v σ H Q → t v σ H Q) : PGs X tg t' := fun pins s σ H v u Q I r z => h pins s σ H v u Q I r (i _ _ _ _ z)
def uName (i : Nat) : D → Rho → Option Rho := fun d ρ => some (ρ.set i (some d))
def usNil : List D → Rho → Option Rho := fun ds ρ => match ds with
  | [] => some ρ
  | _ => none
def usCons (u : D → Rho → Option Rho) (us : List D → Rho → Option Rho) : List D → Rho → Option Rho := fun ds ρ => match ds with
  | d :: r => (u d ρ).bind fun ρ' => us r ρ'
  | [] => none
def uTup (n : Nat) (us : List D → Rho → Option Rho) : D → Rho → Option Rho := fun d ρ => match d with
  | .tup ds => if ds.length = n then us ds ρ else none
  | _ => none
theorem sg_name {i : Nat} {x : Str} (hN : X.N.Nodup) (hi : X.N[i]? = some x := by rfl) (hx : Loc X.env.scope x := by first | exact Or.inl rfl | exact Or.inr rfl) (hf : X.fn x = true ∨ X.env.scope.names.lookup x = some .local := by first | exact .inl rfl | exact .inr rfl | assumption) :
    SG X (.Name x pos) (uName i) := (pg_name hN hi hx hf).imp fun v σ H Q h => by
  obtain ⟨J, ρ, S, d, ρ', c, m, e, z⟩ := h
  cases e
  exact z _ (c.set m)
theorem sgs_nil : SGs X [] usNil := pgs_nil.imp fun v σ H Q h => by
  obtain ⟨J, ρ, S, ds, ρ', c, m, e, z⟩ := h
  cases ds with
  | nil => cases e; exact ⟨Ats.nil_iff.mp m, z _ c⟩
  | cons _ _ => cases e
theorem sgs_cons {e : Expr} {es : List Expr} {u : D → Rho → Option Rho} {us : List D → Rho → Option Rho} (h1 : SG X e u) (h2 : SGs X es us)
    (hs : (assignEach (e :: es) X.env).map (·.2) = assign e X.env :: (assignEach es X.env).map (·.2) := by rfl) : SGs X (e :: es) (usCons u us) := (pgs_cons h1 h2 hs).imp fun v σ H Q h => by
  obtain ⟨J, ρ, S, ds, ρ', c, m, e, z⟩ := h
  cases ds with
  | nil => cases e
  | cons d r =>
    obtain ⟨v1, vr, rfl, m1, m2⟩ := Ats.cons_iff.mp m
    obtain ⟨ρ1, e1, e2⟩ := Option.bind_eq_some_iff.mp e
    exact ⟨v1, vr, rfl, J, ρ, S, d, ρ1, c, m1, e1, fun σ1 c1 => ⟨J, ρ1, S, r, ρ', c1, m2, e2, z⟩⟩
theorem sg_tup {es : List Expr} {k : Nat} {us : List D → Rho → Option Rho} {n : Nat} (hc : X.calm = true) (h : SGs X es us)
    (hn : (assignEach es X.env).length = n := by rfl) (hst : (assignEach es X.env).findIdx? (·.1) = none := by rfl) : SG X (.Tuple es k pos) (uTup n us) := (pg_tup hc h hn hst).imp fun v σ H Q h => by
  obtain ⟨J, ρ, S, d, ρ', c, m, e, z⟩ := h
  cases d with
  | tup ds =>
    obtain ⟨a, xs, rfl, t, ms⟩ := At.tup_iff.mp m
    simp only [uTup] at e
    split at e
    · rename_i hl
      exact ⟨a, xs, rfl, t.sq, by rw [← ms.length]; exact hl, J, ρ, S, ds, ρ', c, ms, e, z⟩
    · cases e
  | _ => cases e
structure Walk (X : Cx) (Jt : It) (ds : List D) (J0 : List Addr) (H0 : Hp) : Prop where
  len : ds.length ≤ sizeLine
  go : ∀ J H i, Ex J0 H0 J H → i < ds.length → Jt.go i H
  yld : ∀ J H (i : Nat) x H', Ex J0 H0 J H → (∀ a ∈ J, H a ≠ none) → i < ds.length → Jt.yld i H x H' → ∃ d, ds[i]? = some d ∧ At X.K H' J d x ∧ Same H H'
  stop : ∀ J H i, Ex J0 H0 J H → ds.length ≤ i → Jt.stop i H
def iW (X : Cx) (W : WT) (fi : Rho → Sto → Out (List D)) : TI := fun σ H R => ∃ J ρ S r S', Cf X J ρ S σ H ∧ fi ρ S = some (r, S') ∧ match r with
  | .ok ds => ∀ J' H' Jt, Ex J H J' H' → StoOk X.K J' S' H' → Walk X Jt ds J' H' → R Jt H'
  | .error c => ∀ J' H', Ex J H J' H' → StoOk X.K J' S' H' → W c J' S' H'
def SI (X : Cx) (W : WT) (tg iter : Expr) (fi : Rho → Sto → Out (List D)) : Prop := PI X tg iter (iW X W fi)
theorem PI.imp {tg iter : Expr} {t t' : TI} (h : PI X tg iter t) (i : ∀ σ H R, t' σ H R → t σ H R) : PI X tg iter t' := fun pins s σ H R I z => h pins s σ H R I (i _ _ _ z)
def loopF (u : D → Rho → Option Rho) (body : Rho → Sto → Out Fl) : List D → Rho → Sto → Out Fl
  | [], ρ, S => okO (.next ρ) S
  | d :: ds, ρ, S => match u d ρ with
    | none => none
    | some ρ1 => bindO (body ρ1 S) fun fl S1 => match fl with
      | .next ρ' => loopF u body ds ρ' S1
      | .cont ρ' => loopF u body ds ρ' S1
      | .brk ρ' => okO (.next ρ') S1
      | .ret d => okO (.ret d) S1
def cFor (fi : Rho → Sto → Out (List D)) (u : D → Rho → Option Rho) (body : Rho → Sto → Out Fl) : Rho → Sto → Out Fl := fun ρ S => bindO (fi ρ S) fun ds S1 => loopF u body ds ρ S1
theorem ss_for {tg iter : Expr} {body : List Stmt} {fi : Rho → Sto → Out (List D)} {u : D → Rho → Option Rho} (hp : PassesOwn (model X.prog X.w) X.A X.env X.xe) (hc : X.calm = true) (hi : SI X W tg iter fi) (hg : SG X tg u) (hb : SSs X W body f)
    (hs : ∀ x, foldedSetIterable iter X.env x = pure x := by intro _; rfl) : SS X W (.For tg iter body [] pos) (cFor fi u f) := (ps_for hp hc hi hg hb hs).imp fun E σ H h => by
  obtain ⟨J, ρ, S, r, S', c, e, z⟩ := h
  unfold cFor at e
  cases q : fi ρ S with
  | none => simp [q] at e
  | some o =>
    obtain ⟨ro, S1⟩ := o
    simp only [q] at e
    cases ro with
    | error x =>
      cases e
      exact ⟨J, ρ, S, .error x, _, c, q, z⟩
    | ok ds =>
      refine ⟨J, ρ, S, .ok ds, S1, c, q, fun J0 H0 Jt x0 s0 w => ?_⟩
      refine ⟨fun i m σ H => m = ds.length - i ∧ ∃ Jx ρx Sx, Ex J0 H0 Jx H ∧ Cf X Jx ρx Sx σ H ∧ ∃ r S', loopF u f (ds.drop i) ρx Sx = some (r, S') ∧ EndS X W Jx H r S' E,
        ⟨_, rfl, J0, ρ, S1, Ex.refl, c.re x0 s0, r, S', by simpa using e, z.ex x0⟩, fun i m σ1 H1 hw => ?_⟩
      obtain ⟨hm, Jx, ρx, Sx, ex, cx, r1, S1', el, ez⟩ := hw
      by_cases hi : i < ds.length
      · refine .inr ⟨w.go Jx H1 i ex hi, fun σ' H' => ∃ Jy ρy Sy, Ex J0 H0 Jy H' ∧ Cf X Jy ρy Sy σ' H' ∧ ∃ r S', loopF u f (ds.drop (i + 1)) ρy Sy = some (r, S') ∧ EndS X W Jy H' r S' E,
          fun σ' H' hn => ⟨ds.length - (i + 1), by omega, rfl, hn⟩, fun x H' y => ?_⟩
        obtain ⟨d, ed, ad, sm⟩ := w.yld Jx H1 i x H' ex cx.sto.all hi y
        have hd : ds.drop i = d :: ds.drop (i + 1) := by
          rw [List.drop_eq_getElem_cons hi]
          rw [List.getElem?_eq_getElem hi] at ed
          cases ed; rfl
        rw [hd] at el
        unfold loopF at el
        cases hu : u d ρx with
        | none => simp [hu] at el
        | some ρ1 =>
          simp only [hu] at el
          have xs : Ex Jx H1 Jx H' := Ex.same sm
          refine ⟨Jx, ρx, Sx, d, ρ1, cx.re xs (cx.sto.same sm), ad, hu, fun σ2 c2 => ?_⟩
          cases qb : f ρ1 Sx with
          | none => simp [qb] at el
          | some o =>
            obtain ⟨ro, S2⟩ := o
            simp only [qb] at el
            have ez' := ez.ex xs
            cases ro with
            | error x =>
              cases el
              exact ⟨Jx, ρ1, Sx, .error x, _, c2, qb, ez'⟩
            | ok fl =>
              cases fl with
              | next ρ' => exact ⟨Jx, ρ1, Sx, .ok (.next ρ'), S2, c2, qb, fun J' σ' H2 x' c' => ⟨J', ρ', S2, ex.trans (xs.trans x'), c', r1, S1', el, ez'.ex x'⟩⟩
              | cont ρ' => exact ⟨Jx, ρ1, Sx, .ok (.cont ρ'), S2, c2, qb, fun J' σ' H2 x' c' => ⟨J', ρ', S2, ex.trans (xs.trans x'), c', r1, S1', el, ez'.ex x'⟩⟩
              | brk ρ' => cases el; exact ⟨Jx, ρ1, Sx, .ok (.brk ρ'), _, c2, qb, ez'⟩
              | ret dd => cases el; exact ⟨Jx, ρ1, Sx, .ok (.ret dd), _, c2, qb, ez'⟩
      · refine .inl ⟨w.stop Jx H1 i ex (by omega), ?_⟩
        rw [List.drop_eq_nil_of_le (by omega)] at el
        unfold loopF at el
        cases el
        exact ez Jx σ1 H1 Ex.refl cx
def cTupIt (f : Rho → Sto → Out D) : Rho → Sto → Out (List D) := fun ρ S => bindO (f ρ S) fun d S1 => valO (match d with | .tup xs => some xs | _ => none) S1
def cLstIt (f : Rho → Sto → Out D) : Rho → Sto → Out (List D) := fun ρ S => bindO (f ρ S) fun d S1 => valO (match d with | .lst xs => some xs | _ => none) S1
theorem Walk.list {a : Addr} {ds : List D} {xs : List V} {J : List Addr} {H : Hp} (t : LQ X.K H J a xs) (m : Ats X.K H J ds xs) : Walk X (Itl X.K a) ds J H where
  len := by rw [m.length]; exact t.len
  go := fun J1 H1 i x hi => by
    have m1 := m.ex x
    obtain ⟨v, hv, _⟩ := m1.get (List.getElem?_eq_getElem hi)
    exact ⟨xs, v, (t.ex x).sq, hv⟩
  yld := fun J1 H1 i v H' x hJ hi y => by
    obtain ⟨rfl, hy⟩ := y
    obtain ⟨d, e, a⟩ := (m.ex x).get' (hy xs (t.ex x).sq)
    exact ⟨d, e, a, Same.refl _⟩
  stop := fun J1 H1 i x hi => ⟨xs, (t.ex x).sq, by rw [← m.length]; exact hi⟩
theorem Walk.tup {a : Addr} {ds : List D} {xs : List V} {J : List Addr} {H : Hp} (t : TQ X.K H J a xs) (m : Ats X.K H J ds xs) : Walk X (Itt X.K a) ds J H where
  len := by rw [m.length]; exact t.len
  go := fun J1 H1 i x hi => by
    have m1 := m.ex x
    obtain ⟨v, hv, _⟩ := m1.get (List.getElem?_eq_getElem hi)
    exact ⟨xs, v, (t.ex x).sq, hv⟩
  yld := fun J1 H1 i v H' x hJ hi y => by
    obtain ⟨rfl, hy⟩ := y
    obtain ⟨d, e, a⟩ := (m.ex x).get' (hy xs (t.ex x).sq)
    exact ⟨d, e, a, Same.refl _⟩
  stop := fun J1 H1 i x hi => ⟨xs, (t.ex x).sq, by rw [← m.length]; exact hi⟩
theorem it_read {k : D → Option (List D)} {σ : St} {H : Hp} {R : It → Hp → Prop} (h : iW X W (fun ρ S => bindO (fe ρ S) fun d S1 => valO (k d) S1) σ H R) :
    tE X W fe σ H fun v H1 => ∃ J S d ds, StoOk X.K J S H1 ∧ At X.K H1 J d v ∧ k d = some ds ∧ ∀ H' Jt, Same H1 H' → Walk X Jt ds J H' → R Jt H' := by
  obtain ⟨J, ρ, S, r, S', c, e, z⟩ := h
  cases q : fe ρ S with
  | none => simp [q] at e
  | some o =>
    obtain ⟨ro, S1⟩ := o
    simp only [q] at e
    cases ro with
    | error x =>
      cases e
      exact ⟨J, ρ, S, .error x, _, c, .nil, q, z⟩
    | ok d =>
      refine ⟨J, ρ, S, .ok d, S1, c, .nil, q, fun J1 H1 v x s1 m => ?_⟩
      cases hk : k d with
      | none => simp [hk] at e
      | some ds =>
        simp only [hk, bindO_some, valO_some, okO] at e
        cases e
        exact ⟨J1, _, d, ds, s1, m, hk, fun H' Jt sm w => z J1 H' Jt (x.trans (Ex.same sm)) (s1.same sm) w⟩
theorem si_tup {tg : Expr} (he : SE X W e fe) : SI X W tg e (cTupIt fe) := (pi_tup he).imp fun σ H R h => (it_read h).mono fun v H1 ⟨J, S, d, ds, s, m, hk, z⟩ => by
  cases d with
  | tup xs =>
    cases hk
    obtain ⟨a, us, rfl, t, ms⟩ := At.tup_iff.mp m
    exact ⟨a, rfl, ⟨us, t.sq⟩, z H1 _ (Same.refl _) (Walk.tup t ms)⟩
  | _ => cases hk
theorem si_lst {tg : Expr} (he : SE X W e fe) : SI X W tg e (cLstIt fe) := (pi_list he).imp fun σ H R h => (it_read h).mono fun v H1 ⟨J, S, d, ds, s, m, hk, z⟩ => by
  cases d with
  | lst xs =>
    cases hk
    obtain ⟨a, us, rfl, t, ms⟩ := At.lst_iff.mp m
    exact ⟨a, rfl, ⟨us, t.sq⟩, z H1 _ (Same.refl _) (Walk.list t ms)⟩
  | _ => cases hk
def rng1D : List D → Option (List D)
  | [.int j] => if -(2 ^ 62) ≤ j ∧ j ≤ 16777216 then some ((List.range j.toNat).map fun (k : Nat) => D.int k) else none
  | _ => none
def cRng (k : List D → Option (List D)) (t : Rho → Sto → Out (List D)) : Rho → Sto → Out (List D) := fun ρ S => bindO (t ρ S) fun ds S1 => valO (k ds) S1
theorem Walk.range {J : List Addr} {H : Hp} (lo : Int) (n : Nat) (hz : n ≤ sizeLine) : Walk X (Itr lo n) ((List.range n).map fun (k : Nat) => D.int (lo + k)) J H where
  len := by rw [List.length_map, List.length_range]; exact hz
  go := fun J1 H1 i x hi => by rw [List.length_map, List.length_range] at hi; exact hi
  yld := fun J1 H1 i v H' x hJ hi y => by
    obtain ⟨rfl, rfl⟩ := y
    rw [List.length_map, List.length_range] at hi
    exact ⟨.int (lo + i), by rw [List.getElem?_map, List.getElem?_range hi]; rfl, At.int_iff.mpr rfl, Same.refl _⟩
  stop := fun J1 H1 i x hi => by rw [List.length_map, List.length_range] at hi; exact hi
theorem rng_read {k : List D → Option (List D)} {t : Rho → Sto → Out (List D)} {σ : St} {H : Hp} {R : It → Hp → Prop} (h : iW X W (fun ρ S => bindO (t ρ S) fun d S1 => valO (k d) S1) σ H R) :
    tA X W t σ H fun vs H1 => ∃ J S es ds, StoOk X.K J S H1 ∧ Ats X.K H1 J es vs ∧ k es = some ds ∧ ∀ H' Jt, Same H1 H' → Walk X Jt ds J H' → R Jt H' := by
  obtain ⟨J, ρ, S, r, S', c, e, z⟩ := h
  cases q : t ρ S with
  | none => simp [q] at e
  | some o =>
    obtain ⟨ro, S1⟩ := o
    simp only [q] at e
    cases ro with
    | error x =>
      cases e
      exact ⟨J, ρ, S, .error x, _, c, .nil, q, z⟩
    | ok es =>
      refine ⟨J, ρ, S, .ok es, S1, c, .nil, q, fun J1 H1 v x s1 m => ?_⟩
      cases hk : k es with
      | none => simp [hk] at e
      | some ds =>
        simp only [hk, bindO_some, valO_some, okO] at e
        cases e
        exact ⟨J1, _, es, ds, s1, m, hk, fun H' Jt sm w => z J1 H' Jt (x.trans (Ex.same sm)) (s1.same sm) w⟩
theorem si_range1 {tg a : Expr} {t : Rho → Sto → Out (List D)} {x : Str} {p : Pos} (hx : x = "range") (hm : X.mg x = none) (ha : SA X W [a] t) (hg : Gl X x := by rfl) (hs : starEach [a] X.env = [(false, eval a X.env)] := by rfl) : SI X W tg (.Call (.Name x p) [a] [] pos) (cRng rng1D t) := by
  subst hx
  refine PI.imp (pi_range1 hg hm ha hs) fun σ H R h => (rng_read h).mono fun vs H1 ⟨J, S, es, ds, s, m, hk, z⟩ => ?_
  unfold rng1D at hk
  split at hk
  · rename_i j
    split at hk
    · rename_i c
      cases hk
      obtain ⟨v, r, rfl, a1, n⟩ := Ats.cons_iff.mp m
      cases Ats.nil_iff.mp n
      cases At.int_iff.mp a1
      refine ⟨j, rfl, c.1, by omega, z H1 _ (Same.refl _) ?_⟩
      have w := Walk.range (X := X) (J := J) (H := H1) 0 j.toNat (by show j.toNat ≤ 16777216; omega)
      simpa using w
    · cases hk
  · cases hk
end
end L2
namespace L2
open PySem PySem.Spec PyProof.Rows PySem.W
structure InScope (scope : Scope) (env : Env) : Prop where
  kind : scope.kind = .function
  nocell : ∀ y ∈ scope.names, y.2 ≠ .cell
  names : ∀ y ∈ scope.names, y.2 = .local → scope.names.lookup y.1 = some .local
  frees : ∀ y ∈ scope.names, y.2 = .free → env.kindOf y.1 = some .cell ∨ env.kindOf y.1 = some .free
theorem closureFor_some {env : Env} : ∀ (names : List (Str × NameKind)) (acc : List (Str × Addr)), (∀ y ∈ names, y.2 = .free → ∃ c, env.cells.lookup y.1 = some c) → (∀ x c, acc.lookup x = some c → env.cells.lookup x = some c) →
    ∃ cl : List (Str × Addr), (forIn names acc fun (x : Str × NameKind) r => (do
        let (name, kind) := x
        if kind == .free then pure (ForInStep.yield ((name, ← cellOf env name) :: r)) else pure (ForInStep.yield r) : Sem (ForInStep (List (Str × Addr))))) = pure cl ∧
      (∀ x c, cl.lookup x = some c → env.cells.lookup x = some c) ∧ (∀ x c, acc.lookup x = some c → ∃ c', cl.lookup x = some c') ∧ (∀ y ∈ names, y.2 = .free → ∃ c, cl.lookup y.1 = some c)
  | [], acc, _, ha => ⟨acc, by simp, ha, fun x c h => ⟨c, h⟩, by simp⟩
  | (n, k) :: r, acc, hc, ha => by
    by_cases hk : k = .free
    · subst hk
      obtain ⟨c, ec⟩ := hc (n, .free) (List.mem_cons_self ..) rfl
      have ha' : ∀ x c', ((n, c) :: acc).lookup x = some c' → env.cells.lookup x = some c' := fun x c' h => by
        rw [List.lookup_cons] at h
        cases hx : x == n with
        | true =>
          rw [hx] at h
          cases h
          have : x = n := eq_of_beq hx
          rw [this]; exact ec
        | false => rw [hx] at h; exact ha x c' h
      obtain ⟨cl, e, h1, h2, h3⟩ := closureFor_some r ((n, c) :: acc) (fun y hy => hc y (List.mem_cons_of_mem _ hy)) ha'
      have ecell : cellOf env n = pure c := by unfold cellOf; rw [ec]
      refine ⟨cl, ?_, h1, fun x c' h => ?_, fun y hy hf => ?_⟩
      · rw [List.forIn_cons]
        simp only [beq_self_eq_true, if_true, ecell, pure_bind]
        exact e
      · by_cases hx : (x == n) = true
        · exact h2 x c (by rw [List.lookup_cons, hx])
        · exact h2 x c' (by rw [List.lookup_cons, Bool.eq_false_iff.mpr hx]; exact h)
      · rcases List.mem_cons.mp hy with rfl | hy
        · exact h2 n c (by rw [List.lookup_cons, beq_self_eq_true])
        · exact h3 y hy hf
    · obtain ⟨cl, e, h1, h2, h3⟩ := closureFor_some r acc (fun y hy => hc y (List.mem_cons_of_mem _ hy)) ha
      refine ⟨cl, ?_, h1, h2, fun y hy hf => ?_⟩
      · rw [List.forIn_cons]
        have : (k == NameKind.free) = false := by simpa using hk
        simp only [this, Bool.false_eq_true, if_false, pure_bind]
        exact e
      · rcases List.mem_cons.mp hy with rfl | hy
        · exact absurd hf hk
        · exact h3 y hy hf
def cxIn (X : Cx) (scope : Scope) (cl : List (Str × Addr)) (N' : List Str) (C : Addr) (s3 : Shared) (H3 : Hp) (fp : List Addr) : Cx :=
  { X with N := N', s₀ := s3, H₀ := H3, env := compEnvC scope cl C X.env, outer := X.stack, ex := fp, fn := fun _ => false, pn := [], xe := fun _ _ => False }
theorem relabel_lookup {env : Env} {x : Str} : ∀ {names : List (Str × NameKind)} {k : NameKind}, (names.map fun (n, k) => if (k == NameKind.free && env.scope.kind == .function && env.kindOf n == some .cell) then (n, NameKind.cell) else (n, k)).lookup x = some k → (∀ y ∈ names, y.2 ≠ .cell) →
    (k = .cell ∨ k = .free) → (x, NameKind.free) ∈ names
  | [], _, h, _, _ => by simp at h
  | (n, k0) :: r, k, h, nc, hk => by
    rw [List.map_cons] at h
    by_cases hc : (k0 == NameKind.free && env.scope.kind == .function && env.kindOf n == some .cell) = true
    · simp only [hc, if_true, List.lookup_cons] at h
      cases hx : x == n with
      | true =>
        have e : x = n := eq_of_beq hx
        subst e
        have : k0 = .free := by simp at hc; exact hc.1.1
        subst this
        exact List.mem_cons_self ..
      | false =>
        rw [hx] at h
        exact List.mem_cons_of_mem _ (relabel_lookup h (fun y hy => nc y (List.mem_cons_of_mem _ hy)) hk)
    · simp only [hc, if_false, List.lookup_cons, Bool.false_eq_true] at h
      cases hx : x == n with
      | true =>
        rw [hx] at h
        have e : x = n := eq_of_beq hx
        subst e
        cases h
        rcases hk with rfl | rfl
        · exact absurd rfl (nc (x, .cell) (List.mem_cons_self ..))
        · exact List.mem_cons_self ..
      | false =>
        rw [hx] at h
        exact List.mem_cons_of_mem _ (relabel_lookup h (fun y hy => nc y (List.mem_cons_of_mem _ hy)) hk)
def caps {α : Type} (ts : Nat) (ix : List Nat) (σ : List (Option α)) : List (Option α) := List.replicate ts none ++ ix.map fun i => (σ[i]?).getD none
def capN (ts : List Str) (ix : List Nat) (N : List Str) : List Str := ts ++ ix.map fun i => N.getD i Str.empty
theorem relabel_free {env : Env} {x : Str} : ∀ {names : List (Str × NameKind)}, names.lookup x = some .free →
    (names.map fun (n, k) => if (k == NameKind.free && env.scope.kind == .function && env.kindOf n == some .cell) then (n, NameKind.cell) else (n, k)).lookup x = some .cell ∨
    (names.map fun (n, k) => if (k == NameKind.free && env.scope.kind == .function && env.kindOf n == some .cell) then (n, NameKind.cell) else (n, k)).lookup x = some .free
  | [], h => by simp at h
  | (n, k0) :: r, h => by
    rw [List.map_cons]
    rw [List.lookup_cons] at h
    by_cases hc : (k0 == NameKind.free && env.scope.kind == .function && env.kindOf n == some .cell) = true
    · simp only [hc, if_true, List.lookup_cons]
      cases hx : x == n with
      | true => exact .inl rfl
      | false => rw [hx] at h; exact relabel_free h
    · simp only [hc, if_false, List.lookup_cons, Bool.false_eq_true]
      cases hx : x == n with
      | true => rw [hx] at h; exact .inr h
      | false => rw [hx] at h; exact relabel_free h
theorem lookup_mem {x : Str} {k : NameKind} : ∀ {names : List (Str × NameKind)}, names.lookup x = some k → (x, k) ∈ names
  | [], h => by simp at h
  | (n, k0) :: r, h => by
    rw [List.lookup_cons] at h
    cases hx : x == n with
    | true => rw [hx] at h; cases h; rw [eq_of_beq hx]; exact List.mem_cons_self ..
    | false => rw [hx] at h; exact List.mem_cons_of_mem _ (lookup_mem h)
section
variable {X : Cx} {pins : List (Addr × Obj)} {σ : St} {H : Hp} {s : Shared}
theorem Inv.enter {scope : Scope} {cl : List (Str × Addr)} {ts : List Str} {ix : List Nat} {fp : List Addr} {s3 : Shared} {h4 : Heap} {H3 : Hp} {m : Str → Option Value} {tk : Nat} (I : Inv X pins σ H3 s3) (S : InScope scope X.env)
    (h1 : ∀ x c, cl.lookup x = some c → X.env.cells.lookup x = some c) (h2 : ∀ y ∈ scope.names, y.2 = .free → ∃ c, cl.lookup y.1 = some c) (hcap : ∀ t ∈ ix, scope.names.lookup (X.N.getD t Str.empty) = some .free)
    (f : ∀ b ∈ fp, FpOk X pins H3 b) (fo : ∀ b ∈ fp, ∃ o, s3.heap.get? b = some o) (k : ∀ b o, s3.heap.get? b = some o → h4.get? b = some o) (hn : h4.Ns s3.heap.objs.size m) :
    Inv (cxIn X scope cl (capN ts ix X.N) s3.heap.objs.size s3 H3 fp) [] (caps ts.length ix σ) H3 { s3 with heap := h4, toks := tk } := by
  refine ⟨⟨I.ok.mod, S.kind, I.ok.glob, I.ok.blt, Nat.le_refl _, fun x y c a b => I.ok.inj x y c (h1 x c a) (h1 y c b), fun x hx => ?_, (fun x c a => by cases a), I.ok.hd, I.ok.frames, .inl rfl, fun b hb => ⟨?_, fun x c e => (f b hb).2.2.2.2.1 x c (h1 x c e)⟩, I.bs, Nat.le_trans I.ok.bsz I.sz, fun b o e hb => ?_, fun b hb z => ?_, I.stack, I.stkFree⟩,
    rfl, I.bare, Un.kept k, ⟨m, hn, fun i x v e1 e2 e3 => ?_⟩, fun x c e => ?_, I.fresh, fun x c e => I.freeC x c (h1 x c e), fun p hp => absurd (show p ∈ ([] : List (Addr × Obj)) from hp) (by simp), I.hok.kept k, ?_⟩
  · have q : (x, NameKind.free) ∈ scope.names := by
      rcases hx with z | z
      · exact relabel_lookup z S.nocell (.inl rfl)
      · exact relabel_lookup z S.nocell (.inr rfl)
    exact h2 _ q rfl
  · obtain ⟨o, ho⟩ := fo b hb
    exact Nat.ne_of_lt (Heap.lt_size ho)
  · obtain ⟨f0, _, _, f3, _⟩ := f b hb
    rcases f3 with z | z
    · exact I.ok.noex b o e z
    · exact absurd (Nat.lt_of_lt_of_le (Heap.lt_size e) (Nat.le_trans I.ok.bsz z)) (Nat.lt_irrefl _)
  · obtain ⟨f0, f1, f2, f3, _⟩ := f b hb
    rcases List.mem_cons.mp (I.stkSub b z) with e | e
    · exact f1 e
    · exact f2 e
  · -- a captured name
    have e2' : (caps ts.length ix σ)[i]? = some (some v) := e2
    have e1' : (capN ts ix X.N)[i]? = some x := e1
    unfold caps at e2'
    unfold capN at e1'
    by_cases hi : i < ts.length
    · rw [List.getElem?_append_left (by simpa using hi), List.getElem?_replicate] at e2'
      rw [if_pos hi] at e2'
      cases e2'
    · rw [List.getElem?_append_right (by simpa using hi)] at e2'
      rw [List.getElem?_append_right (by simpa using hi)] at e1'
      rw [List.length_replicate] at e2'
      rw [List.getElem?_map] at e2' e1'
      cases et : ix[i - ts.length]? with
      | none => rw [et] at e2'; cases e2'
      | some t =>
        rw [et] at e2' e1'
        simp only [Option.map_some, Option.some.injEq] at e2' e1'
        have hs : σ[t]? = some (some v) := by
          cases q : σ[t]? with
          | none => rw [q] at e2'; cases e2'
          | some w => rw [q] at e2'; simp only [Option.getD_some] at e2'; rw [e2']
        have ht : t < X.N.length := by rw [← I.len]; exact (List.getElem?_eq_some_iff.mp hs).1
        have hN : X.N[t]? = some x := by
          rw [List.getD_eq_getElem?_getD, List.getElem?_eq_getElem ht] at e1'
          rw [List.getElem?_eq_getElem ht]
          simp only [Option.getD_some] at e1'
          rw [e1']
        have hfree : scope.names.lookup x = some .free := by
          have := hcap t (List.mem_of_getElem? et)
          rwa [e1'] at this
        have hm := lookup_mem hfree
        have kinds := S.frees _ hm rfl
        obtain ⟨m0, _, hl⟩ := I.loc
        obtain ⟨u, r, l⟩ := hl t x v hN hs (by
          rcases kinds with z | z
          · exact .inr (.inl z)
          · exact .inr (.inr z))
        refine ⟨u, r, .inr ⟨relabel_free hfree, ?_⟩⟩
        obtain ⟨c, ec⟩ := h2 _ hm rfl
        have ec' := h1 x c ec
        rcases l with ⟨kl, _⟩ | ⟨_, c', e', cell⟩
        · have kl' : X.env.kindOf x = some .local := kl
          rcases kinds with z | z
          · have z' : X.env.kindOf x = some .cell := z
            rw [kl'] at z'; cases z'
          · have z' : X.env.kindOf x = some .free := z
            rw [kl'] at z'; cases z'
        · rw [ec'] at e'
          cases e'
          exact ⟨c, ec, cell.keeps k⟩
  · obtain ⟨v, o, ho, hd⟩ := I.cell x c (h1 x c e)
    exact ⟨v, o, k c o ho, hd⟩
  · show (caps ts.length ix σ).length = (capN ts ix X.N).length
    unfold caps capN
    simp
theorem Inv.leave {scope : Scope} {cl : List (Str × Addr)} {N' : List Str} {σ' : St} {fp : List Addr} {s3 s' : Shared} {h' : Heap} {H3 H' : Hp} {pins' : List (Addr × Obj)} (I : Inv X pins σ H3 s3) (f : ∀ b ∈ fp, FpOk X pins H3 b)
    (I' : Inv (cxIn X scope cl N' s3.heap.objs.size s3 H3 fp) pins' σ' H' s') (k : ∀ b, b ≠ s3.heap.objs.size → h'.get? b = s'.heap.get? b) : Inv X pins σ H' { s' with heap := h' } := by
  have un : Un (frs X.stack) fp H3 H' s3.heap s'.heap := I'.base
  have nC : ∀ b o, s3.heap.get? b = some o → b ≠ s3.heap.objs.size := fun b o e => Nat.ne_of_lt (Heap.lt_size e)
  have un' : Un (frs X.stack) fp H3 H' s3.heap h' := by
    refine ⟨fun b o e n hb hx => ?_, fun b o e n hb hx => ?_, un.free, fun b o e hx => ?_, un.tups, un.frzs, un.tbls⟩
    · rw [k b (nC b o e)]; exact un.keep b o e n hb hx
    · rw [k b (nC b o e)]; exact un.slot b o e n hb hx
    · rw [k b (nC b o e)]; exact un.there b o e hx
  have hok : HOk X.prog X.w H' h' := fun b u e => by
    have hC : H' s3.heap.objs.size = none := I'.free
    have ne : ∀ c v, H' c = some v → c ≠ s3.heap.objs.size := fun c v q z => by rw [z, hC] at q; cases q
    refine (I'.hok b u e).stay (fun c v hc q => ?_) (fun _ q => q) fun _ _ q => q
    rw [k c]
    · exact q
    · rcases hc with z | z
      · rw [z]; exact ne b u e
      · exact ne c _ z
  have os : s'.os = s3.os := I'.os
  exact I.call' (s' := { s' with heap := h' }) os un' hok I'.bare fun b hb => let ⟨_, a, _, b', c, d⟩ := f b hb; ⟨b', a, c, d⟩
end
end L2
namespace L2
open PySem PySem.Spec PyProof.Rows PySem.W
section
variable {prog : Program} {w : World} {A : Around} {R : Result → Shared → Prop} {s : Shared}
theorem compLoop_any {elt target iter : Expr} {ifs : List Expr} {scope : Scope} {pos : Pos} {it acc : Value} {env : Env} (I : Nat → Shared → Prop)
    (turn : ∀ n s, I n s → wpAny (model prog w) A (pyNext it) (fun r s₁ => match r with
      | none => R (.ok .next) s₁
      | some v => wpAny (model prog w) A (letOwnedTupleGo target it v) (fun _ s₁' => wpAny (model prog w) A (assign target env v) (fun _ s₂ =>
          wpAny (model prog w) A (forIn ifs true fun c r => if r = true then do let ok ← isTrue c env (eval c env); pure (ForInStep.yield ok) else pure (ForInStep.yield r)) (fun ok s₃ =>
            if ok = true then wpAny (model prog w) A (eval elt env) (fun x s₄ =>
              wpAny (model prog w) A (call (.builtin "list.append") [acc, x]) (fun _ s₅ => ∃ m, m < n ∧ I m s₅) (fun _ _ => False) s₄) (fun _ _ => False) s₃
            else ∃ m, m < n ∧ I m s₃) (fun _ _ => False) s₂) (fun _ _ => False) s₁') (fun _ _ => False) s₁) (fun _ _ => False) s)
    (n : Nat) (h : I n s) : codeAny (model prog w) A (.compLoop (.ListComp elt [⟨target, iter, ifs, 0⟩] scope pos) 0 it acc env) R s := by
  have no : ∀ {α : Type} {t : Sem α} {Q : α → Shared → Prop} {E : Value → Shared → Prop} {s : Shared}, wpAny (model prog w) A t Q (fun _ _ => False) s → wpAny (model prog w) A t Q E s := fun h => wpAny_mono h (fun _ _ q => q) fun _ _ f => f.elim
  refine codeAny_loop rfl I (fun n s hI => ?_) n h
  show wpAny _ A ((compTurn (.ListComp elt [⟨target, iter, ifs, 0⟩] scope pos) 0 it acc env).onRaise (fun x => do noteFrame x env; theTreesLotGoes x)) _ _ s
  refine wpAny_noted ?_
  rw [compTurn_list]
  refine wpAny_bind (wpAny_standAt (wpAny_bind (wpAny_mono (no (turn n s hI)) (fun r s₁ h₁ => ?_) fun _ _ h' => h')))
  cases r with
  | none => exact wpAny_pure h₁
  | some v =>
    refine wpAny_bind (wpAny_mono (no h₁) (fun _ s₁' h₁' => ?_) fun _ _ h' => h')
    refine wpAny_bind (wpAny_mono (no h₁') (fun _ s₂ h₂ => wpAny_bind (wpAny_mono (no h₂) (fun ok s₃ h₃ => ?_) fun _ _ h' => h')) fun _ _ h' => h')
    cases ok with
    | false => exact wpAny_pure ⟨rfl, h₃⟩
    | true =>
      exact wpAny_bind (wpAny_bind (wpAny_mono (no h₃) (fun x s₄ h₄ => wpAny_bind (wpAny_mono (no h₄) (fun _ s₅ h₅ => wpAny_pure (wpAny_pure ⟨rfl, h₅⟩)) fun _ _ h' => h')) fun _ _ h' => h'))
end
section
variable {X : Cx} {pins : List (Addr × Obj)} {σ : St} {H : Hp} {s : Shared} {D₀ : Addr}
theorem Inv.adopt {ys : List V} {its : List Value} {n : Nat} (I : Inv X pins σ H s) (f : FpOk X pins H D₀) (e : s.heap.get? D₀ = some { cls := .type "list", data := .seq its.toArray n }) (r : Vals ys its) (hz : ys.length ≤ sizeLine) : Inv X pins σ (upd H D₀ (.lst ys)) s := by
  obtain ⟨hn, f1, f2, f3, f4, f5⟩ := f
  have ne : ∀ b o, H b = some o → b ≠ D₀ := fun b o q => ne_of_none q hn
  have q := I.step (h' := s.heap) (H' := upd H D₀ (.lst ys)) (g' := s.gens) (d' := s.drawn) (t' := s.toks) (ch := [D₀]) (fun b hb => by
      have : b = D₀ := by simpa using hb
      subst this
      exact ⟨f3, f1, f4, f5⟩)
    (fun b o _ _ _ e _ => e) (fun b o _ _ _ e _ => ⟨o.slots, e⟩) (fun b o hb _ n' => by rw [upd_ne (fun z => hb (by simp [z]))]; exact n') (fun b o _ e => ⟨o, e⟩)
    (fun b xs q => by rw [upd_ne (ne b _ q)]; exact q) (fun b o xs q => by rw [upd_ne (ne b _ q)]; exact q) (fun b ps q => ⟨#[], by rw [upd_ne (ne b _ q), q]; simp⟩) (fun _ hm => hm) (fun b u q => ?_) I.bare
  · exact q
  · by_cases hb : b = D₀
    · subst hb
      rw [upd_same] at q
      cases q
      exact ⟨hz, its, n, r, e⟩
    · rw [upd_ne hb] at q
      exact (I.hok b u q).stay (fun c v _ z => z) (fun c z => by rw [upd_ne (ne c _ z)]; exact z) fun c xs z => by rw [upd_ne (ne c _ z)]; exact z
end
def STs (X : Cx) (W : WT) (ifs : List Expr) (g : Rho → Sto → Out Bool) : Prop :=
  ∀ (pins : List (Addr × Obj)) (s : Shared) (σ : St) (H : Hp) (Q : Bool → Hp → Prop), Inv X pins σ H s → tT X W g σ H Q →
    wpAny (model X.prog X.w) X.A (forIn ifs true fun c r => if r = true then do let ok ← isTrue c X.env (eval c X.env); pure (ForInStep.yield ok) else pure (ForInStep.yield r)) (TP X pins σ Q) X.xe s
def cTrue : Rho → Sto → Out Bool := fun _ S => okO true S
theorem sts_nil {X : Cx} {W : WT} : STs X W [] cTrue := by
  intro pins s σ H Q I h
  rw [List.forIn_nil]
  exact wpAny_pure ⟨H, I, ok_bool h⟩
theorem sts_one {X : Cx} {W : WT} {c : Expr} {g : Rho → Sto → Out Bool} (hc : TS1 X W c g) : STs X W [c] g := by
  intro pins s σ H Q I h
  rw [List.forIn_cons]
  simp only [if_true, List.forIn_nil]
  refine wpAny_bind (wpAny_bind (thn (hc pins s σ H Q I h) fun b s1 q => wpAny_pure ?_))
  exact wpAny_pure q
def okP {α : Type} (m : Out α) : Option (α × Sto) := match m with
  | some (.ok a, S) => some (a, S)
  | _ => none
def compF (u : D → Rho → Option Rho) (gt : Rho → Sto → Out Bool) (fe : Rho → Sto → Out D) : List D → Rho → Sto → Option (List D × Sto)
  | [], _, S => some ([], S)
  | d :: ds, ρ, S => (u d ρ).bind fun ρ1 => (okP (gt ρ1 S)).bind fun (k, S1) =>
    if k = true then (okP (fe ρ1 S1)).bind fun (y, S2) => (compF u gt fe ds ρ1 S2).map fun (ys, S3) => (y :: ys, S3)
    else compF u gt fe ds ρ1 S1
def cComp (n : Nat) (ix : List Nat) (fi : Rho → Sto → Out (List D)) (u : D → Rho → Option Rho) (gt : Rho → Sto → Out Bool) (fe : Rho → Sto → Out D) : Rho → Sto → Out D := fun ρ S => bindO (fi ρ S) fun ds S1 =>
  match compF u gt fe ds (caps n ix ρ) S1 with
  | some (out, S2) => okO (.lst out) S2
  | none => none
abbrev W0 : WT := fun _ _ _ _ => False
section
variable {X : Cx} {W : WT}
structure CompEnd (X : Cx) (pins : List (Addr × Obj)) (σ : St) (J0 : List Addr) (H0 : Hp) (S2 : Sto) (out : List D) (a C : Addr) (s' : Shared) : Prop where
  ns : ∃ m, s'.heap.Ns C m
  own : X.s₀.heap.objs.size ≤ C ∧ C ≠ X.env.locals ∧ (∀ x c, X.env.cells.lookup x = some c → c ≠ C) ∧ ∀ p ∈ X.pn ++ pins, p.1 ≠ C
  fin : ∀ h', (∀ b, b ≠ C → h'.get? b = s'.heap.get? b) → ∃ J' H', Inv X pins σ H' { s' with heap := h' } ∧ Ex J0 H0 J' H' ∧ StoOk X.K J' S2 H' ∧ At X.K H' J' (.lst out) (.ref a) ∧ H' C = none
def CompIV (X' : Cx) (tn : Nat → Heap → Prop) (fp : List Addr) (a : Addr) (u : D → Rho → Option Rho) (gt : Rho → Sto → Out Bool) (fe : Rho → Sto → Out D) (ds out : List D) (J0 : List Addr) (H2 : Hp) (S2 : Sto) (n : Nat) (s' : Shared) : Prop :=
  ∃ (i : Nat) (σ' : St) (H' : Hp) (Jx : List Addr) (ρx : Rho) (Sx : Sto) (dn rest : List D) (ys : List V) (us : List Value) (ep : Nat),
    n = ds.length - i + 1 ∧ i ≤ ds.length ∧ Inv X' [] σ' H' s' ∧ tn i s'.heap ∧ (∀ b ∈ a :: fp, H' b = none) ∧ Ex J0 H2 Jx H' ∧ Cf X' Jx ρx Sx σ' H' ∧
    s'.heap.get? a = some { cls := .type "list", data := .seq us.toArray ep } ∧ Vals ys us ∧ Ats X'.K H' Jx dn ys ∧ dn.length ≤ i ∧ compF u gt fe (ds.drop i) ρx Sx = some (rest, S2) ∧ out = dn ++ rest
theorem comp_turn {X' : Cx} {tg elt : Expr} {ifs : List Expr} {u : D → Rho → Option Rho} {gt : Rho → Sto → Out Bool} {fe : Rho → Sto → Out D} {it a : Addr} {fp : List Addr} {tn : Nat → Heap → Prop} {Jt : It} {ds out : List D} {J0 : List Addr} {H2 : Hp} {S2 : Sto} {R : Result → Shared → Prop}
    (hx : X'.xe = fun _ _ => False) (hc : X'.calm = true) (sg : SG X' tg u) (st : STs X' W0 ifs gt) (se : SE X' W0 elt fe) (T : Turn X'.prog X'.w X'.K tg Jt fp it tn) (wk : Walk X' Jt ds J0 H2) (na : a ∉ fp) (hz : ds.length ≤ sizeLine)
    (fin : ∀ (pins' : List (Addr × Obj)) (H' : Hp) (b : Addr), b ∈ a :: fp → H' b = none → (∀ p ∈ pins', p.1 ≠ b) → FpOk X' pins' H' b)
    (endR : ∀ (s' : Shared) (σ' : St) (H' : Hp) (Jx : List Addr) (ρx : Rho) (ys : List V) (us : List Value) (ep : Nat), Inv X' [] σ' H' s' → Ex J0 H2 Jx H' → Cf X' Jx ρx S2 σ' H' → H' a = none → s'.heap.get? a = some { cls := .type "list", data := .seq us.toArray ep } → Vals ys us → Ats X'.K H' Jx out ys → ys.length ≤ sizeLine → R (.ok .next) s') :
    ∀ n s, CompIV X' tn fp a u gt fe ds out J0 H2 S2 n s → wpAny (model X'.prog X'.w) X'.A (pyNext (.ref it)) (fun r s₁ => match r with
      | none => R (.ok .next) s₁
      | some v => wpAny (model X'.prog X'.w) X'.A (letOwnedTupleGo tg (.ref it) v) (fun _ s₁' => wpAny (model X'.prog X'.w) X'.A (assign tg X'.env v) (fun _ s₂ =>
          wpAny (model X'.prog X'.w) X'.A (forIn ifs true fun c r => if r = true then do let ok ← isTrue c X'.env (eval c X'.env); pure (ForInStep.yield ok) else pure (ForInStep.yield r)) (fun ok s₃ =>
            if ok = true then wpAny (model X'.prog X'.w) X'.A (eval elt X'.env) (fun x s₄ =>
              wpAny (model X'.prog X'.w) X'.A (call (.builtin "list.append") [.ref a, x]) (fun _ s₅ => ∃ m, m < n ∧ CompIV X' tn fp a u gt fe ds out J0 H2 S2 m s₅) (fun _ _ => False) s₄) (fun _ _ => False) s₃
            else ∃ m, m < n ∧ CompIV X' tn fp a u gt fe ds out J0 H2 S2 m s₃) (fun _ _ => False) s₂) (fun _ _ => False) s₁') (fun _ _ => False) s₁) (fun _ _ => False) s := by
  rintro n s ⟨i, σ', H', Jx, ρx, Sx, dn, rest, ys, us, ep, hn, hi, I', tni, fr, ex, cx, ga, vs, ad, dl, ec, eo⟩
  have fa := fin [] H' a (List.mem_cons_self ..) (fr a (List.mem_cons_self ..)) (fun p hp => by simp at hp)
  have I1 : Inv X' [(a, { cls := .type "list", data := .seq us.toArray ep })] σ' H' s := I'.pins_of fun p hp => by
    have : p = (a, { cls := .type "list", data := .seq us.toArray ep }) := by simpa using hp
    subst this
    exact ⟨ga, fa.1, fa.2.1, fa.2.2.1, fun v z => by cases z⟩
  have fp1 : ∀ H1 : Hp, (∀ b ∈ fp, H1 b = none) → ∀ b ∈ fp, FpOk X' [(a, { cls := .type "list", data := .seq us.toArray ep })] H1 b := fun H1 hn b hb => fin _ H1 b (List.mem_cons_of_mem _ hb) (hn b hb) fun p hp => by
    have : p = (a, { cls := .type "list", data := .seq us.toArray ep }) := by simpa using hp
    subst this
    intro z
    have z' : a = b := z
    exact na (z' ▸ hb)
  by_cases hlt : i < ds.length
  · refine thn (T.item X' rfl rfl rfl hc i _ s σ' H' (fun _ _ => False) I1 (fp1 H' fun b hb => fr b (List.mem_cons_of_mem _ hb)) tni (wk.go Jx H' i ex hlt)) fun r s1 ⟨v, er, h1⟩ => ?_
    subst er
    refine thn h1 fun _ s5 ⟨x, H5, I5, r5, y5, tn5, fr5⟩ => ?_
    obtain ⟨d, ed, ad5, sm⟩ := wk.yld Jx H' i x H5 ex cx.sto.all hlt y5
    have x5 : Ex Jx H' Jx H5 := Ex.same sm
    have c5 : Cf X' Jx ρx Sx σ' H5 := cx.re x5 (cx.sto.same sm)
    have hd : ds.drop i = d :: ds.drop (i + 1) := by
      rw [List.drop_eq_getElem_cons hlt]
      rw [List.getElem?_eq_getElem hlt] at ed
      cases ed; rfl
    rw [hd, compF] at ec
    obtain ⟨ρ1, eu, ec⟩ := Option.bind_eq_some_iff.mp ec
    obtain ⟨⟨k, S1⟩, eg, ec⟩ := Option.bind_eq_some_iff.mp ec
    have eg' : gt ρ1 Sx = some (.ok k, S1) := by
      unfold okP at eg
      split at eg
      · rename_i q; cases eg; exact q
      · cases eg
    have I5' := I5.pinned (fp1 H5 fr5) (T.obj _ _ tn5)
    have keep : ∀ {σ6 : St} {H6 : Hp} {s6 : Shared}, Inv X' ([(a, { cls := .type "list", data := .seq us.toArray ep })] ++ pinsAt fp s5.heap) σ6 H6 s6 → tn (i + 1) s6.heap ∧ (∀ b ∈ a :: fp, H6 b = none) ∧ s6.heap.get? a = some { cls := .type "list", data := .seq us.toArray ep } := fun {σ6 H6 s6} I6 => by
      have pa := I6.pin (a, { cls := .type "list", data := .seq us.toArray ep }) (List.mem_append_right _ (List.mem_append_left _ (by simp)))
      refine ⟨T.keep _ _ _ tn5 fun b hb o e => (I6.pin (b, o) (List.mem_append_right _ (List.mem_append_right _ (mem_pinsAt hb e)))).1, fun b hb => ?_, pa.1⟩
      rcases List.mem_cons.mp hb with rfl | hb
      · exact pa.2.1
      · obtain ⟨o, e, _⟩ := T.obj _ _ tn5 b hb
        exact (I6.pin (b, o) (List.mem_append_right _ (List.mem_append_right _ (mem_pinsAt hb e)))).2.1
    have nop : ∀ {σ6 : St} {H6 : Hp} {s6 : Shared}, Inv X' ([(a, { cls := .type "list", data := .seq us.toArray ep })] ++ pinsAt fp s5.heap) σ6 H6 s6 → Inv X' [] σ6 H6 s6 := fun {σ6 H6 s6} I6 => I6.pins_of fun p hp => absurd hp (by simp)
    have g := sg _ s5 σ' H5 x v (fun σ6 H6 => H6 = H5 ∧ Cf X' Jx ρ1 Sx σ6 H6) I5' r5 ⟨Jx, ρx, Sx, d, ρ1, c5, ad5, eu, fun σ6 c6 => ⟨rfl, c6⟩⟩
    rw [hx] at g
    refine thn g fun _ s6 ⟨σ6, H6, I6, eH, c6⟩ => ?_
    subst eH
    have t := st _ s6 σ6 H6 (fun b H7 => b = k ∧ ∃ J7, Ex Jx H6 J7 H7 ∧ Cf X' J7 ρ1 S1 σ6 H7) I6 ⟨Jx, ρ1, Sx, .ok k, S1, c6, .nil, eg', fun J7 H7 b x7 s7 eb => by
      cases eb
      exact ⟨rfl, J7, x7, c6.re x7 s7⟩⟩
    rw [hx] at t
    refine thn t fun b s7 ⟨H7, I7, eb, J7, x7, c7⟩ => ?_
    subst eb
    have ex7 : Ex J0 H2 J7 H7 := ex.trans (x5.trans x7)
    have ad7 : Ats X'.K H7 J7 dn ys := (ad.ex x5).ex x7
    cases b with
    | false =>
      rw [if_neg (by decide)]
      simp only [Bool.false_eq_true, if_false] at ec
      obtain ⟨t8, fr8, g8⟩ := keep I7
      exact ⟨ds.length - (i + 1) + 1, by omega, i + 1, σ6, H7, J7, ρ1, S1, dn, rest, ys, us, ep, rfl, by omega, nop I7, t8, fr8, ex7, c7, g8, vs, ad7, by omega, ec, eo⟩
    | true =>
      rw [if_pos rfl]
      simp only [if_true] at ec
      obtain ⟨⟨y, Sy⟩, ey, ec⟩ := Option.bind_eq_some_iff.mp ec
      obtain ⟨⟨ry, S3⟩, ey2, ec⟩ := Option.map_eq_some_iff.mp ec
      have ey' : fe ρ1 S1 = some (.ok y, Sy) := by
        unfold okP at ey
        split at ey
        · rename_i q; cases ey; exact q
        · cases ey
      simp only [Prod.mk.injEq] at ec
      obtain ⟨er, es⟩ := ec
      subst es er
      have t := se _ s7 σ6 H7 (fun w H8 => ∃ J8, Ex J7 H7 J8 H8 ∧ Cf X' J8 ρ1 Sy σ6 H8 ∧ At X'.K H8 J8 y w) I7 ⟨J7, ρ1, S1, .ok y, Sy, c7, .nil, ey', fun J8 H8 w x8 s8 aw => ⟨J8, x8, c7.re x8 s8, aw⟩⟩
      rw [hx] at t
      refine thn t fun w s8 ⟨vw, H8, I8, rw8, J8, x8, c8, aw⟩ => ?_
      obtain ⟨t8, fr8, g8⟩ := keep I8
      have ad8 : Ats X'.K H8 J8 dn ys := ad7.ex x8
      have l1 := ad8.length
      have l2 := vs.length
      refine call_meets F.slot_list_append ⟨_, g8, rfl⟩ F.entry_list_append (F.args_list_append_2 _ _) (PySem.list_append a us.toArray ep w (by rw [List.size_toArray]; omega)) ⟨g8, ?_⟩
      have ga' := PySem.IsL.update g8 (·.push w)
      have fa8 := fin [] H8 a (List.mem_cons_self ..) (fr8 a (List.mem_cons_self ..)) (fun p hp => by simp at hp)
      have I9 : Inv X' [] σ6 H8 { s8 with heap := s8.heap.update a (Obj.mapSeq (·.push w)), toks := s8.toks } := (nop I8).turned (it := a) (fun b o hb e => (Heap.get?_update_other s8.heap (Obj.mapSeq (·.push w)) (Ne.symm hb)).trans e) fa8.1 fa8.2.1 fa8.2.2.2.1 fa8.2.2.2.2.1 fa8.2.2.2.2.2
      refine ⟨ds.length - (i + 1) + 1, by omega, i + 1, σ6, H8, J8, ρ1, Sy, dn ++ [y], ry, ys ++ [vw], us ++ [w], _, rfl, by omega, I9, ?_, fr8, ex7.trans x8, c8, by simpa using ga', vs.append (.cons rw8 .nil), ad8.append (.cons aw .nil), by rw [List.length_append, List.length_singleton]; omega, ey2, by rw [eo]; simp⟩
      exact T.keep _ _ _ t8 fun b hb o e => (Heap.get?_update_other s8.heap (Obj.mapSeq (·.push w)) (fun z : a = b => na (by rw [z]; exact hb))).trans e
  · refine thn (T.done X' rfl rfl rfl hc i _ s σ' H' (fun _ _ => False) I1 (fp1 H' fun b hb => fr b (List.mem_cons_of_mem _ hb)) tni (wk.stop Jx H' i ex (by omega))) fun r s1 ⟨er, J1⟩ => ?_
    subst er
    rw [List.drop_eq_nil_of_le (by omega), compF] at ec
    cases ec
    rw [List.append_nil] at eo
    subst eo
    have l1 := ad.length
    have pa := J1.pin (a, { cls := .type "list", data := .seq us.toArray ep }) (List.mem_append_right _ (by simp))
    exact endR s1 σ' H' Jx ρx ys us ep (J1.pins_of fun p hp => absurd hp (by simp)) ex cx pa.2.1 pa.1 vs ad (by omega)
theorem comp_core {tg iter elt : Expr} {ifs : List Expr} {scope : Scope} {pos : Pos} {u : D → Rho → Option Rho} {gt : Rho → Sto → Out Bool} {fe : Rho → Sto → Out D} {ts : List Str} {ix : List Nat} {cl : List (Str × Addr)}
    {pins : List (Addr × Obj)} {σ : St} {s2 : Shared} {E : Value → Shared → Prop} {it : Addr} {fp : List Addr} {tn : Nat → Heap → Prop} {Jt : It} {H2 : Hp} {J0 : List Addr} {ρ : Rho} {S1 S2 : Sto} {ds out : List D} {RR : Value → Addr → Result → Shared → Prop}
    (hc : X.calm = true) (Sc : InScope scope X.env) (h1 : ∀ x c, cl.lookup x = some c → X.env.cells.lookup x = some c) (h2 : ∀ y ∈ scope.names, y.2 = .free → ∃ c, cl.lookup y.1 = some c) (hcap : ∀ t ∈ ix, scope.names.lookup (X.N.getD t Str.empty) = some .free)
    (hin : ∀ C s3 H3 fp, SG (cxIn X scope cl (capN ts ix X.N) C s3 H3 fp) tg u ∧ STs (cxIn X scope cl (capN ts ix X.N) C s3 H3 fp) W0 ifs gt ∧ SE (cxIn X scope cl (capN ts ix X.N) C s3 H3 fp) W0 elt fe)
    (I2 : Inv X pins σ H2 s2) (T : Turn X.prog X.w X.K tg Jt fp it tn) (t0 : tn 0 s2.heap) (f2 : ∀ b ∈ fp, FpOk X pins H2 b) (c2 : Cf X J0 ρ S1 σ H2) (wk : Walk X Jt ds J0 H2)
    (ec : compF u gt fe ds (caps ts.length ix ρ) S1 = some (out, S2))
    (hRR : ∀ a C s', CompEnd X pins σ J0 H2 S2 out a C s' → RR (.ref a) C (.ok .next) s') :
    wpAny (model X.prog X.w) X.A (newList []) (fun acc s₃ => wpAny (model X.prog X.w) X.A (newFunctionEnv scope X.env.globals cl [] X.env.qual none .none (some X.env)) (fun cenv s₄ =>
      codeAny (model X.prog X.w) X.A (.compStart (.ListComp elt [⟨tg, iter, ifs, 0⟩] scope pos) 0 (.ref it) acc { cenv with scope := relabel scope X.env }) (RR acc cenv.locals) s₄) E s₃) E s2 := by
  refine wpAny_newObj_type (wpAny_newFunctionEnv Sc.nocell (by intro y hy; simp at hy) (fun h4 hn4 hsb4 => ?_) Sc.kind)
  dsimp only at hn4 hsb4 ⊢
  generalize hA : s2.heap.objs.size = a at *
  have k3 : ∀ b o, s2.heap.get? b = some o → (s2.heap.push { cls := .type "list", dict := none, data := .seq ([] : List Value).toArray }).get? b = some o := fun b o e => Heap.get?_push_of_some _ e
  obtain ⟨s3, hs3⟩ : ∃ s3 : Shared, s3 = { s2 with heap := s2.heap.push { cls := .type "list", dict := none, data := .seq ([] : List Value).toArray } } := ⟨_, rfl⟩
  have I3 : Inv X pins σ H2 s3 := by rw [hs3]; exact I2.kept (t' := s2.toks) k3
  have hh3 : s3.heap = s2.heap.push { cls := .type "list", dict := none, data := .seq ([] : List Value).toArray } := by rw [hs3]
  have sz3 : s3.heap.objs.size = a + 1 := by rw [hh3, Heap.size_push, hA]
  rw [← hh3] at hn4 hsb4
  have a3 : s3.heap.get? a = some { cls := .type "list", data := .seq ([] : List Value).toArray } := by rw [hh3, ← hA]; exact Heap.get?_push_size _ rfl
  have fa : FpOk X pins H2 a := I2.fpOk (by rw [hA]; exact Nat.le_refl _) (by rw [← hA]; exact I2.fresh)
  have fobj : ∀ b ∈ fp, ∃ o, s2.heap.get? b = some o := fun b hb => let ⟨o, e, _⟩ := T.obj 0 _ t0 b hb; ⟨o, e⟩
  have na : a ∉ fp := fun hb => by
    obtain ⟨o, e⟩ := fobj a hb
    have := Heap.lt_size e
    rw [hA] at this
    exact absurd this (Nat.lt_irrefl _)
  have f3 : ∀ b ∈ a :: fp, FpOk X pins H2 b := fun b hb => by
    rcases List.mem_cons.mp hb with rfl | hb
    · exact fa
    · exact f2 b hb
  have fo : ∀ b ∈ a :: fp, ∃ o, s3.heap.get? b = some o := fun b hb => by
    rcases List.mem_cons.mp hb with rfl | hb
    · exact ⟨_, a3⟩
    · obtain ⟨o, e⟩ := fobj b hb
      exact ⟨o, by rw [hh3]; exact k3 b o e⟩
  have k4 : ∀ b o, s3.heap.get? b = some o → h4.get? b = some o := fun b o e => hsb4.extBut b o (Nat.ne_of_lt (Heap.lt_size e)) (Heap.get?_push_of_some _ e)
  have toks : ∀ t, Inv (cxIn X scope cl (capN ts ix X.N) s3.heap.objs.size s3 H2 (a :: fp)) [] (caps ts.length ix σ) H2 { s3 with heap := h4, toks := t } := fun t => I3.enter Sc h1 h2 hcap f3 fo k4 hn4
  obtain ⟨sg, st, se⟩ := hin s3.heap.objs.size s3 H2 (a :: fp)
  have fin : ∀ (pins' : List (Addr × Obj)) (H' : Hp) (b : Addr), b ∈ a :: fp → H' b = none → (∀ p ∈ pins', p.1 ≠ b) → FpOk (cxIn X scope cl (capN ts ix X.N) s3.heap.objs.size s3 H2 (a :: fp)) pins' H' b := fun pins' H' b hb hn hp => by
    refine ⟨hn, ?_, fun z => ?_, .inl hb, fun x c e => (f3 b hb).2.2.2.2.1 x c (h1 x c e), fun p hq => hp p hq⟩
    · obtain ⟨o, e⟩ := fo b hb
      exact Nat.ne_of_lt (Heap.lt_size e)
    · obtain ⟨_, f1, f2', _⟩ := f3 b hb
      rcases List.mem_cons.mp (I3.stkSub b z) with q | q
      · exact f1 q
      · exact f2' q
  have own : X.s₀.heap.objs.size ≤ s3.heap.objs.size ∧ s3.heap.objs.size ≠ X.env.locals ∧ (∀ x c, X.env.cells.lookup x = some c → c ≠ s3.heap.objs.size) ∧ ∀ p ∈ X.pn ++ pins, p.1 ≠ s3.heap.objs.size := by
    obtain ⟨_, g1, g2, g3, g4, g5⟩ := I3.fpOk (H' := fun _ => none) (Nat.le_refl s3.heap.objs.size) rfl
    exact ⟨I3.sz, g1, g4, g5⟩
  have c3 : Cf (cxIn X scope cl (capN ts ix X.N) s3.heap.objs.size s3 H2 (a :: fp)) J0 (caps ts.length ix ρ) S1 (caps ts.length ix σ) H2 := by
    refine ⟨by unfold caps; simp, fun i d h => ?_, c2.sto⟩
    unfold caps at h ⊢
    by_cases hi : i < ts.length
    · rw [List.getElem?_append_left (by simpa using hi), List.getElem?_replicate, if_pos hi] at h
      cases h
    · rw [List.getElem?_append_right (by simpa using hi), List.length_replicate, List.getElem?_map] at h ⊢
      cases et : ix[i - ts.length]? with
      | none => rw [et] at h; cases h
      | some t =>
        rw [et] at h
        simp only [Option.map_some, Option.some.injEq] at h ⊢
        have hr : ρ[t]? = some (some d) := by
          cases q : ρ[t]? with
          | none => rw [q] at h; cases h
          | some w => rw [q] at h; simp only [Option.getD_some] at h; rw [h]
        obtain ⟨v, e1, e2⟩ := c2.env t d hr
        exact ⟨v, by rw [e1]; rfl, e2⟩
  have w3 : Walk (cxIn X scope cl (capN ts ix X.N) s3.heap.objs.size s3 H2 (a :: fp)) Jt ds J0 H2 := ⟨wk.len, wk.go, wk.yld, wk.stop⟩
  have loop : ∀ t, codeAny (model X.prog X.w) X.A (.compLoop (.ListComp elt [⟨tg, iter, ifs, 0⟩] scope pos) 0 (.ref it) (.ref a) (compEnvC scope cl s3.heap.objs.size X.env)) (RR (.ref a) s3.heap.objs.size) { s3 with heap := h4, toks := t } := by
    intro t
    refine compLoop_any _ (comp_turn (R := RR (.ref a) s3.heap.objs.size) (S2 := S2) (out := out) (X' := cxIn X scope cl (capN ts ix X.N) s3.heap.objs.size s3 H2 (a :: fp)) rfl hc sg st se T w3 na wk.len fin ?_) (ds.length + 1) ?_
    · intro s' σ' H' Jx ρx ys us ep I' ex cx ha ga vs ad lz
      refine hRR a s3.heap.objs.size s' ⟨let ⟨m, hm, _⟩ := I'.loc; ⟨m, hm⟩, own, fun h' k => ?_⟩
      have I4 := I3.leave f3 I' k
      have ga' : h'.get? a = some { cls := .type "list", data := .seq us.toArray ep } := by
        rw [k a (by rw [sz3]; exact Nat.ne_of_lt (Nat.lt_succ_self _))]; exact ga
      have fa' : FpOk X pins H' a := ⟨ha, fa.2⟩
      have I5 := I4.adopt fa' ga' vs lz
      have sm : Same H' (upd H' a (.lst ys)) := same_upd ha _
      have hC : H' s3.heap.objs.size = none := I'.free
      refine ⟨Jx, _, I5, ex.trans (Ex.same sm), cx.sto.same sm, At.newLst ad ha cx.sto.all lz, ?_⟩
      rw [upd_ne (by rw [sz3]; exact Nat.ne_of_gt (Nat.lt_succ_self _))]
      exact hC
    · refine ⟨0, _, H2, J0, caps ts.length ix ρ, S1, [], out, [], [], 0, rfl, Nat.zero_le _, toks t, ?_, fun b hb => (f3 b hb).1, Ex.refl, c3, k4 a _ a3, .nil, .nil, Nat.le_refl _, by simpa using ec, rfl⟩
      exact T.keep 0 _ _ t0 fun b hb o e => k4 b o (by rw [hh3]; exact k3 b o e)
  have L := loop (s2.toks + ([] : List (Str × Value)).length)
  have t4 : tn 0 h4 := T.keep 0 _ _ t0 fun b hb o e => k4 b o (by rw [hh3]; exact k3 b o e)
  rw [hs3] at L
  exact codeAny_compStart_list L (T.self _ 0 _ _ _ t4 L)
def InOk (X : Cx) (scope : Scope) (ts : List Str) (ix : List Nat) (tg : Expr) (ifs : List Expr) (elt : Expr) (u : D → Rho → Option Rho) (gt : Rho → Sto → Out Bool) (fe : Rho → Sto → Out D) : Prop :=
  ∀ (cl : List (Str × Addr)) (C : Addr) (s3 : Shared) (H3 : Hp) (fp : List Addr), SG (cxIn X scope cl (capN ts ix X.N) C s3 H3 fp) tg u ∧ STs (cxIn X scope cl (capN ts ix X.N) C s3 H3 fp) W0 ifs gt ∧ SE (cxIn X scope cl (capN ts ix X.N) C s3 H3 fp) W0 elt fe
theorem closure_of {scope : Scope} {pins : List (Addr × Obj)} {σ : St} {H : Hp} {s : Shared} (I : Inv X pins σ H s) (Sc : InScope scope X.env) : ∃ cl, closureFor scope X.env = pure cl ∧ (∀ x c, cl.lookup x = some c → X.env.cells.lookup x = some c) ∧ (∀ y ∈ scope.names, y.2 = .free → ∃ c, cl.lookup y.1 = some c) := by
  obtain ⟨cl, e, h1, _, h3⟩ := closureFor_some (env := X.env) scope.names [] (fun y hy hf => I.ok.has y.1 (Sc.frees y hy hf)) (by simp)
  refine ⟨cl, ?_, h1, h3⟩
  unfold closureFor
  exact (congrArg (fun (m : Sem (List (Str × Addr))) => m >>= fun r => (pure r : Sem (List (Str × Addr)))) e).trans rfl
theorem comp_read {fi : Rho → Sto → Out (List D)} {u : D → Rho → Option Rho} {gt : Rho → Sto → Out Bool} {fe : Rho → Sto → Out D} {n : Nat} {ix : List Nat} {σ : St} {H : Hp} {Q : VK} (h : tE X W (cComp n ix fi u gt fe) σ H Q) :
    iW X W fi σ H fun Jt H0 => ∃ J0 ρ S1 S2 ds out, Cf X J0 ρ S1 σ H0 ∧ Walk X Jt ds J0 H0 ∧ compF u gt fe ds (caps n ix ρ) S1 = some (out, S2) ∧ ∀ J' H' v, Ex J0 H0 J' H' → StoOk X.K J' S2 H' → At X.K H' J' (.lst out) v → Q v H' := by
  obtain ⟨J, ρ, S, r, S', c, _, e, z⟩ := h
  unfold cComp at e
  cases q : fi ρ S with
  | none => simp [q] at e
  | some o =>
    obtain ⟨ro, S1⟩ := o
    simp only [q] at e
    cases ro with
    | error x =>
      cases e
      exact ⟨J, ρ, S, .error x, _, c, q, z⟩
    | ok ds =>
      simp only [bindO_some] at e
      cases qc : compF u gt fe ds (caps n ix ρ) S1 with
      | none => rw [qc] at e; cases e
      | some p =>
        obtain ⟨out, S2⟩ := p
        rw [qc] at e
        cases e
        exact ⟨J, ρ, S, .ok ds, S1, c, q, fun J0 H0 Jt x0 s0 w => ⟨J0, ρ, S1, _, ds, out, c.re x0 s0, w, qc, fun J' H' v x' s' m' => z J' H' v (x0.trans x') s' m'⟩⟩
theorem se_comp {tg iter elt : Expr} {ifs : List Expr} {scope : Scope} {pos : Pos} {fi : Rho → Sto → Out (List D)} {u : D → Rho → Option Rho} {gt : Rho → Sto → Out Bool} {fe : Rho → Sto → Out D} {ts : List Str} {ix : List Nat}
    (hc : X.calm = true) (Sc : InScope scope X.env) (hcap : ∀ t ∈ ix, scope.names.lookup (X.N.getD t Str.empty) = some .free) (hi : SI X W tg iter fi) (hin : InOk X scope ts ix tg ifs elt u gt fe)
    (hs : ∀ x, foldedSetIterable iter X.env x = pure x := by intro _; rfl) : SE X W (.ListComp elt [⟨tg, iter, ifs, 0⟩] scope pos) (cComp ts.length ix fi u gt fe) := by
  intro pins s σ H Q I h
  obtain ⟨cl, hcl, h1, h2⟩ := closure_of I Sc
  rw [eval_ListComp]
  refine wpAny_comprehension_free (use := none) rfl hs hcl Sc.kind Sc.names ?_
  refine thn (hi pins s σ H _ I (comp_read h)) fun v s1 h1' => thn h1' fun itv s2 h2' => ?_
  obtain ⟨it, fp, tn, Jt, H2, e, I2, T, t0, f2, J0, ρ, S1, S2, ds, out, c2, wk, ec, fin⟩ := h2'
  subst e
  refine comp_core hc Sc h1 h2 hcap (fun C s3 H3 fp => hin cl C s3 H3 fp) I2 T t0 f2 c2 wk ec fun a C s' ce => ?_
  obtain ⟨m, hm⟩ := ce.ns
  refine ⟨m, hm, fun h' sb => ?_⟩
  obtain ⟨J', H', I', x', s', m', _⟩ := ce.fin h' fun b hb => sb.2 b hb
  exact ⟨.ref a, H', I', rfl, fin J' H' _ x' s' m'⟩
end
end L2
namespace L2
open PySem PySem.Spec PyProof.Rows PySem.W
section
variable {X : Cx} {W : WT}
def spD (K : PySem.W.Frag) (F : List D → Sto → Out D) : Sp := fun vs H Q _ => ∃ J S ds d S', Ats K H J ds vs ∧ StoOk K J S H ∧ F ds S = some (.ok d, S') ∧ ∀ J' H' v, Ex J H J' H' → StoOk K J' S' H' → At K H' J' d v → Q v H'
def FnD (P : Program) (w : World) (K : PySem.W.Frag) (mg : Str → Option Value) (base : Heap) (k : Nat) (f : Addr) (fd : FuncData) (ps : List Str) (F : List D → Sto → Out D) : Prop :=
  FnOk P w K mg base CX0 k f fd ps (spD K F)
def noErr (m : Out D) : Out D := match m with
  | some (.ok d, S) => some (.ok d, S)
  | _ => none
def cDef (F : List D → Sto → Out D) (t : Rho → Sto → Out (List D)) : Rho → Sto → Out D := fun ρ S => bindO (t ρ S) fun ds S1 => noErr (F ds S1)
variable {x : Str} {p pos : Pos} {e : Expr} {es : List Expr} {gs : Rho → Sto → Out (List D)}
theorem def_read {F : List D → Sto → Out D} {σ : St} {H : Hp} {Q : VK} {Ex' : XK} (h : tE X W (cDef F gs) σ H Q) : tCall (spD X.K F) [] Ex' (tA X W gs) σ H Q :=
  (tG.bindA h).mono fun us H1 ⟨ds, hl, h1⟩ => by
    rw [List.append_nil, List.append_nil] at h1
    obtain ⟨J, ρ, S, r, S', c, m, e, z⟩ := h1
    have e : noErr (F ds S) = some (r, S') := e
    unfold noErr at e
    split at e
    · rename_i d S2 q
      cases e
      exact ⟨J, S, ds, d, _, by rw [List.append_nil]; exact m, c.sto, q, fun J' H' v x' s' m' => z J' H' v x' s' m'⟩
    · cases e
theorem se_call {k : Nat} {f : Addr} {fd : FuncData} {ps : List Str} {F : List D → Sto → Out D} (G : FnD X.prog X.w X.K X.mg X.base k f fd ps F) (hr : Room k X.A) (hm : X.mg x = some (.ref f)) (hk : PySem.W.keepIn X.K (.ref f) = true) (hb : Binds X.K fd ps [])
    (ha : SA X W (e :: es) gs) (hg : Gl X x := by rfl) (hdb : (x == ("__debug__" : Str)) = false := by decide) (he : starEach (e :: es) X.env = (false, eval e X.env) :: starEach es X.env := by rfl) (hpl : (backTo pos (starEach es X.env)).any (·.1) = false := by rfl) :
    SE X W (.Call (.Name x p) (e :: es) [] pos) (cDef F gs) :=
  PE.imp (pe_call (E := E0) G hr hg hm hk hb .nil pass0 ha hdb he hpl) fun σ H Q h => def_read h
theorem fn_body {P : Program} {w : World} {K : PySem.W.Frag} {mg : Str → Option Value} {base : Heap} {x qual : Str} {st : Stmt} {f : Addr} {fd : FuncData} {N ps : List Str} {k : Nat} {F : List D → Sto → Out D} (Fn : Fun K x qual st f fd) (S : FnScope N ps (defScope st))
    (len : ∀ ds S r, F ds S = some r → ds.length = ps.length)
    (hbody : ∀ (cdv : Value) (A : Around) (outer : List Env) (s : Shared) (H : Hp) (E : XK), Room k (A.deeper (envOfC qual (defScope st) s.heap.objs.size f cdv)) →
      ∃ G : Rho → Sto → Out Fl, SSs (cxOf CX0 P w K mg base N qual (defScope st) f cdv A outer s H E).nox W0 (defBody st) G ∧
        ∀ ds S d S', F ds S = some (.ok d, S') → ∃ r, G (ds.map some ++ List.replicate (N.length - ds.length) none) S = some (.ok r, S') ∧ (r = .ret d ∨ (d = .non ∧ ∃ ρ, r = .next ρ))) :
    FnD P w K mg base (k + 1) f fd ps F := by
  refine Fn.ok S (fun vs H Q E h => ?_) (fun cdv A outer s H vs Q E hr h => ?_)
  · obtain ⟨J, St, ds, d, S', m, _, e, _⟩ := h
    rw [← m.length]; exact len ds St _ e
  · obtain ⟨J, St, ds, d, S', m, so, e, z⟩ := h
    obtain ⟨G, hG, hF⟩ := hbody cdv A outer s H E hr
    obtain ⟨r, eG, er⟩ := hF ds St d S' e
    refine ⟨_, hG, J, _, St, .ok r, S', ⟨?_, fun i d' hd => ?_, so⟩, eG, ?_⟩
    · unfold start
      rw [List.length_append, List.length_append, List.length_map, List.length_map, m.length]
      simp
    · by_cases hi : i < ds.length
      · rw [List.getElem?_append_left (by simpa using hi), List.getElem?_map] at hd
        cases q : ds[i]? with
        | none => rw [q] at hd; cases hd
        | some d0 =>
          rw [q] at hd
          cases hd
          obtain ⟨v, ev, av⟩ := m.get q
          refine ⟨v, ?_, av⟩
          unfold start
          rw [List.getElem?_append_left (by rw [List.length_map, ← m.length]; exact hi), List.getElem?_map, ev]
          rfl
      · rw [List.getElem?_append_right (by simpa using hi), List.getElem?_replicate] at hd
        split at hd <;> cases hd
    · rcases er with rfl | ⟨rfl, ρ, rfl⟩
      · exact fun J' H' v x' s' a' => z J' H' v x' s' a'
      · exact fun J' σ' H' x' c' => z J' H' _ x' c'.sto (At.non_iff.mpr rfl)
end
end L2
namespace L2
open PySem PySem.Spec PyProof.Rows PySem.W
section
variable {X : Cx} {W : WT}
def Its (x : Str) : It := ⟨fun i _ => i < x.cps.size, fun i H v H' => H' = H ∧ ∃ c, x.cps[i]? = some c ∧ v = .str ⟨#[c]⟩, fun i _ => x.cps.size ≤ i⟩
theorem turn_str {P : Program} {w : World} {K : PySem.W.Frag} {tg : Expr} {it : Addr} {x : Str} {St : Nat → Heap → Prop}
    (hself : ∀ (A : Around) (i : Nat) (s : Shared) (Q : Value → Shared → Prop) (E : Value → Shared → Prop), St i s.heap → Q (.ref it) s → wpAny (model P w) A (pyIter (.ref it)) Q E s) (Wk : ∀ A' : Around, A'.handled = none → Walks P w A' it [it] [it] x.cps.size (SignAt x) St) (hob : ∀ i h, St i h → ∃ o n vs, h.get? it = some o ∧ o.cls = .type n ∧ o.data = .fields vs ∧ ["enumerate", "zip", "dict_itemiterator", "dict_reverseitemiterator", "odict_iterator", "itertools.zip_longest", "itertools.pairwise"].contains n = false) :
    Turn P w K tg (Its x) [it] it (fun i h => i ≤ x.cps.size ∧ St i h) where
  mem := by simp
  obj := fun i h st b hb => by
    have e : b = it := by simpa using hb
    subst e
    obtain ⟨o, n, vs, e, _, d, _⟩ := hob i h st.2
    exact ⟨o, e, fun v z => by rw [d] at z; cases z⟩
  keep := fun i h h' st k => ⟨st.1, (Wk callerA rfl).frame i h h' st.2 fun b hb o e => k b hb o e⟩
  item := by
    intro X hP hw hK hc i pins s σ H E I hf st hg
    subst hP hw hK
    obtain ⟨f0, f1, f2, f3, f4, f5⟩ := hf it (by simp)
    refine (Wk X.A (I.ok.hd hc)).item i s _ _ hg st.2 fun v h' tk sg st' k => ?_
    obtain ⟨c, u, ec, ev⟩ := sg
    subst ev
    have I1 : Inv X pins σ H { s with heap := h', toks := tk } := I.turned (t' := tk) (fun b o hb e => k b o (by simpa using hb) e) f0 f1 f3 f4 f5
    obtain ⟨o, n, vs, e, cc, d, hn⟩ := hob _ _ st'
    exact ⟨_, rfl, go_of (s := { s with heap := h', toks := tk }) e cc d hn ⟨.str ⟨#[c]⟩, H, I1, ⟨u, rfl⟩, ⟨rfl, c, ec, rfl⟩, ⟨hg, st'⟩, fun b hb => (hf b hb).1⟩⟩
  done := by
    intro X hP hw hK hc i pins s σ H E I hf st hg
    subst hP hw hK
    obtain ⟨f0, f1, f2, f3, f4, f5⟩ := hf it (by simp)
    have ei : i = x.cps.size := Nat.le_antisymm st.1 hg
    subst ei
    exact (Wk X.A (I.ok.hd hc)).done s _ _ st.2 fun h' tk k => ⟨rfl, I.turned (t' := tk) (fun b o hb e => k b o (by simpa using hb) e) f0 f1 f3 f4 f5⟩
  self := fun A i s Q E st h => hself A i s Q E st.2 h
theorem Walk.str {x : Str} {J : List Addr} {H : Hp} (ok : okS x) : Walk X (Its x) (x.cps.toList.map fun c => D.str ⟨#[c]⟩) J H where
  len := by rw [List.length_map, Array.length_toList]; exact ok.1
  go := fun J1 H1 i _ hi => by rw [List.length_map, Array.length_toList] at hi; exact hi
  yld := fun J1 H1 i v H' _ hJ hi y => by
    obtain ⟨rfl, c, ec, rfl⟩ := y
    rw [List.length_map, Array.length_toList] at hi
    have ec' : x.cps.toList[i]? = some c := by simpa using ec
    refine ⟨.str ⟨#[c]⟩, by rw [List.getElem?_map, ec']; rfl, At.str_iff.mpr ⟨rfl, by show 1 ≤ sizeLine; decide, strOk_of (l := [c]) fun c' m => ?_⟩, Same.refl _⟩
    rw [List.mem_singleton.mp m]
    exact strOk_mem ok.2 (List.mem_of_getElem? ec')
  stop := fun J1 H1 i _ hi => by rw [List.length_map, Array.length_toList] at hi; exact hi
def signsD : D → Option (List D)
  | .str x => some (x.cps.toList.map fun c => D.str ⟨#[c]⟩)
  | _ => none
def cStrIt (f : Rho → Sto → Out D) : Rho → Sto → Out (List D) := fun ρ S => bindO (f ρ S) fun d S1 => valO (signsD d) S1
variable {e : Expr} {fe : Rho → Sto → Out D} {pos : Pos}
theorem si_str {tg : Expr} (he : SE X W e fe) : SI X W tg e (cStrIt fe) := by
  intro pins s σ H R I h
  refine thn (he pins s σ H _ I (it_read h)) fun v s1 ⟨y, H1, I1, r1, J, S, d, ds, so, m, hk, z⟩ => ?_
  cases d with
  | str x =>
    cases hk
    obtain ⟨ey, ok⟩ := At.str_iff.mp m
    subst ey
    obtain ⟨t, rfl⟩ := r1
    have fp : ∀ b ∈ [s1.heap.objs.size], FpOk X pins H1 b := fun b hb => by
      have e : b = s1.heap.objs.size := by simpa using hb
      subst e
      exact I1.fpOk (Nat.le_refl _) I1.fresh
    cases ha : x.cps.all (· < 128)
    · refine wpAny_pyIter_wide ha ?_
      refine ⟨s1.heap.objs.size, [s1.heap.objs.size], _, Its x, H1, rfl, I1.kept (t' := s1.toks) fun b o e => Heap.get?_push_of_some _ e, turn_str (St := fun i h => h.IsStrIter s1.heap.objs.size "str_iterator" x t i) (fun A i s Q E st q => wpAny_pyIter_striter_wide st q) (fun A' hA => Walks.strWide hA _ x t) (fun i h st => ?_), ⟨Nat.zero_le _, _, Heap.get?_push_size _ rfl, rfl, rfl⟩, fp, z H1 _ (Same.refl _) (Walk.str ok)⟩
      obtain ⟨o, ho, hc, hd⟩ := st
      exact ⟨o, _, _, ho, hc, hd, by decide⟩
    · refine wpAny_pyIter_ascii ha ?_
      refine ⟨s1.heap.objs.size, [s1.heap.objs.size], _, Its x, H1, rfl, I1.kept (t' := s1.toks) fun b o e => Heap.get?_push_of_some _ e, turn_str (St := fun i h => h.IsStrIter s1.heap.objs.size "str_ascii_iterator" x t i) (fun A i s Q E st q => wpAny_pyIter_striter_ascii st q) (fun A' hA => Walks.strAscii hA _ x t) (fun i h st => ?_), ⟨Nat.zero_le _, _, Heap.get?_push_size _ rfl, rfl, rfl⟩, fp, z H1 _ (Same.refl _) (Walk.str ok)⟩
      obtain ⟨o, ho, hc, hd⟩ := st
      exact ⟨o, _, _, ho, hc, hd, by decide⟩
  | _ => cases hk
theorem nextOf_tuple_item {prog : Program} {w : World} {A : Around} {E : Value → Shared → Prop} {s : Shared} {it l : Addr} {i : Nat} {items} {x : Value} {Q : Value → Shared → Prop} (hit : s.heap.IsTupleIter it l i)
    (hl : s.heap.IsTuple l items) (hx : items[i]? = some x)
    (hQ : ∀ h', h'.IsTupleIter it l (i + 1) → Heap.SameBut it s.heap h' → Q x { s with heap := h' }) :
    wpAny (model prog w) A (Builtin.SmallTypes.nextOf (.ref it)) Q E s := by
  obtain ⟨o, ho, hc, hd⟩ := id hit
  obtain ⟨ol, hol, _, nl, hdl⟩ := hl
  unfold Builtin.SmallTypes.nextOf
  refine wpAny_bind (wpAny_callSpecial?_slot (name := Str.ofString "__next__") hit.typeIs F.slot_tuple_iterator_next
    (wpAny_call_entry F.slot_tuple_iterator_next hit.typeIs F.entry_tuple_iterator_next ?_ (F.args_tuple_iterator_next_1 _)))
  show wpAny _ _ (field (.ref it) 0 >>= _) _ _ s
  refine wpAny_bind (wpAny_field ho hd (x := .ref l) rfl ?_)
  show wpAny _ _ (if (Value.ref l == Value.none) = true then _ else _) _ _ s
  rw [if_neg (show ¬ ((Value.ref l == Value.none) = true) from Bool.false_ne_true)]
  show wpAny _ _ (field (.ref it) 1 >>= _) _ _ s
  refine wpAny_bind (wpAny_field ho hd (x := .int i 0) rfl ?_)
  show wpAny _ _ (seqItems? (.ref l) >>= _) _ _ s
  refine wpAny_bind (wpAny_seqItems hol hdl ?_)
  simp only [Int.toNat_natCast, hx]
  refine wpAny_bind (wpAny_setField ho hd (by simp) (wpAny_pure ⟨x, rfl, wpAny_pure (hQ _ ?_ (Heap.SameBut.update ..))⟩))
  exact ⟨_, Heap.get?_update_self _ ho (Obj.isFreed_of_fields (Obj.data_mapFields hd _)), (Obj.cls_mapFields ..).trans hc, by
    rw [Obj.data_mapFields hd]; simp [rawInt]⟩
theorem nextOf_tuple_end {prog : Program} {w : World} {A : Around} {E : Value → Shared → Prop} {s : Shared} {it l : Addr} {i : Nat} {items} {Q : Value → Shared → Prop} (hh : A.handled = none)
    (hit : s.heap.IsTupleIter it l i) (hl : s.heap.IsTuple l items) (hx : items[i]? = none)
    (hE : ∀ h' e, Heap.ExtBut it s.heap h' → (∃ o, h'.get? e = some o ∧ o.cls = .type "StopIteration") → E (.ref e) { s with heap := h' }) :
    wpAny (model prog w) A (Builtin.SmallTypes.nextOf (.ref it)) Q E s := by
  obtain ⟨o, ho, hc, hd⟩ := id hit
  obtain ⟨ol, hol, _, nl, hdl⟩ := hl
  unfold Builtin.SmallTypes.nextOf
  refine wpAny_bind (wpAny_callSpecial?_slot (name := Str.ofString "__next__") hit.typeIs F.slot_tuple_iterator_next
    (wpAny_call_entry F.slot_tuple_iterator_next hit.typeIs F.entry_tuple_iterator_next ?_ (F.args_tuple_iterator_next_1 _)))
  show wpAny _ _ (field (.ref it) 0 >>= _) _ _ s
  refine wpAny_bind (wpAny_field ho hd (x := .ref l) rfl ?_)
  show wpAny _ _ (if (Value.ref l == Value.none) = true then _ else _) _ _ s
  rw [if_neg (show ¬ ((Value.ref l == Value.none) = true) from Bool.false_ne_true)]
  show wpAny _ _ (field (.ref it) 1 >>= _) _ _ s
  refine wpAny_bind (wpAny_field ho hd (x := .int i 0) rfl ?_)
  show wpAny _ _ (seqItems? (.ref l) >>= _) _ _ s
  refine wpAny_bind (wpAny_seqItems hol hdl ?_)
  simp only [Int.toNat_natCast, hx]
  refine wpAny_bind (wpAny_rule (wpAny_bind (wpAny_setField ho hd (by simp) ?_)))
  show wpAny _ _ (newExc (.type "StopIteration") [] >>= _) _ _ _
  refine wpAny_bind ?_
  simp only [newExc, newTuple]
  refine wpAny_bind (wpAny_newObj_type ?_ (by size_fits))
  refine wpAny_bind (m := firstArgMember _ _) (wpAny_of_eq (a := Value.none) (by first | rfl | (simp only [firstArgMember]; rfl)) ?_)
  refine wpAny_newObj_type ?_ (by size_fits)
  simp only [raiseNew]
  refine wpAny_bind (wpAny_handled ?_)
  first | rw [show A.in1.handled = none from hh] | rw [hh]
  refine wpAny_bind (wpAny_pure (wpAny_throw ?_))
  exact hE _ _ (((Heap.SameBut.update ..).extBut.push _).push _) ⟨_, Heap.get?_push_size _ rfl, rfl⟩
theorem Draws.tup {prog : Program} {w : World} {A : Around} (hh : A.handled = none) (it l : Addr) (hne : l ≠ it) (items : Array Value) :
    Draws prog w A it [it, l] items.size (fun i v => items[i]? = some v) (fun i h => h.IsTupleIter it l i ∧ h.IsTuple l items) where
  live := fun _ _ st => let ⟨o, ho, _⟩ := st.1; ⟨o, ho⟩
  frame := fun _ _ _ st hk => ⟨let ⟨o, ho, r⟩ := st.1; ⟨o, hk it (by simp) o ho, r⟩, let ⟨o, ho, r⟩ := st.2; ⟨o, hk l (by simp) o ho, r⟩⟩
  item := fun i s Q E hi st hQ => by
    refine nextOf_tuple_item st.1 st.2 (x := items[i]) (by simp [hi]) fun h' hit' hs' => ?_
    exact hQ _ h' s.toks (by simp [hi]) ⟨hit', st.2.extBut hs'.extBut hne⟩ hs'
  done := fun s Q E st hE => nextOf_tuple_end hh st.1 st.2 (by simp) hE
theorem meets_enum_tup (l : Addr) (items : Array Value) (n : Nat) (dct : Option Addr) (sl : Array (Option Value)) :
    Meets (Builtin.«enumerate.__new__» ⟨[.type "enumerate", .ref l], []⟩) (fun _ R s => s.heap.get? l = some { cls := .type "tuple", dict := dct, data := .seq items n, slots := sl } ∧
      R (.ok (.ret (.ref (s.heap.push { cls := .type "tuple_iterator", data := .fields #[.ref l, .int 0 0] }).objs.size)))
        { s with heap := (s.heap.push { cls := .type "tuple_iterator", data := .fields #[.ref l, .int 0 0] }).push { cls := .type "enumerate", data := .fields #[.none, .bool false, .ref s.heap.objs.size, rawInt 0, .none, .none] } }) :=
  .of_wp fun prog w A R s h => by
    obtain ⟨hp, g, d, tk, os⟩ := s; obtain ⟨hl, h⟩ := h
    have hsub := sub_enumerate
    have hL : Heap.IsTuple (Shared.heap ⟨hp, g, d, tk, os⟩) l items := ⟨_, hl, rfl, n, rfl⟩
    wp_walk using AutoSeq1.wpAny_loadPart' hl
    refine wpAny_stack_any fun st => wpAny_pure ?_
    split
    · rename_i c _ _ _ _ _
      cases (c == Value.type "enumerate")
      · wp_walk using AutoSeq1.wpAny_loadPart' hl, wpAny_pyIter_tuple hL
        exact ⟨_, rfl, h⟩
      · wp_walk using AutoSeq1.wpAny_loadPart' hl, wpAny_pyIter_tuple hL
        exact ⟨_, rfl, h⟩
    · wp_walk using AutoSeq1.wpAny_loadPart' hl, wpAny_pyIter_tuple hL
      exact ⟨_, rfl, h⟩
theorem call_enum_tup {prog : Program} {w : World} {A : Around} {E : Value → Shared → Prop} {s : Shared} {l : Addr} {items : Array Value} {Q : Value → Shared → Prop} (hL : IsTup s.heap l items)
    (h : ∀ h', IsEnum h' (s.heap.objs.size + 1) s.heap.objs.size 0 .none → h'.IsTupleIter s.heap.objs.size l 0 → h'.objs.size = s.heap.objs.size + 2 →
      (∀ b o, s.heap.get? b = some o → h'.get? b = some o) → Q (.ref (s.heap.objs.size + 1)) { s with heap := h' }) :
    wpAny (model prog w) A (call (.type "enumerate") [.ref l]) Q E s := by
  obtain ⟨⟨c, dct, dt, sl⟩, hl, hc, n, hd⟩ := hL
  replace hc : c = .type "tuple" := hc
  replace hd : dt = .seq items n := hd
  subst hc hd
  refine callType_new F.called_enumerate (by decide) (F.typeCall_enumerate_1 _) (F.newCall_enumerate_1 _) (fun obj => F.args_object_init_2 obj _) F.entry_enumerate_new
    (meets_enum_tup l items n dct sl) ⟨hl, ?_⟩
  have hz : (s.heap.push { cls := .type "tuple_iterator", data := .fields #[.ref l, .int 0 0] }).objs.size = s.heap.objs.size + 1 := Heap.size_push ..
  show _ ∧ _
  rw [hz]
  have he : IsEnum ((s.heap.push { cls := .type "tuple_iterator", data := .fields #[.ref l, .int 0 0] }).push
      { cls := .type "enumerate", data := .fields #[.none, .bool false, .ref s.heap.objs.size, rawInt 0, .none, .none] }) (s.heap.objs.size + 1) s.heap.objs.size 0 .none := by
    have := Heap.get?_push_size (s.heap.push { cls := .type "tuple_iterator", data := .fields #[.ref l, .int 0 0] })
      (o := { cls := .type "enumerate", data := .fields #[.none, .bool false, .ref s.heap.objs.size, rawInt 0, .none, .none] }) rfl
    rw [hz] at this; exact this
  refine ⟨⟨_, he, rfl⟩, h _ he ⟨_, Heap.get?_push_of_some _ (Heap.get?_push_size _ rfl), rfl, rfl⟩ (by rw [Heap.size_push, hz]) fun b o x => Heap.get?_push_of_some _ (Heap.get?_push_of_some _ x)⟩
theorem pyNext_enum_end_tup {prog : Program} {w : World} {A : Around} {E : Value → Shared → Prop} {s : Shared} {e it l : Addr} {i : Nat} {items : Array Value} {old : Value} {Q : Option Value → Shared → Prop} (hh : A.handled = none)
    (he : IsEnum s.heap e it i old) (hit : s.heap.IsTupleIter it l i) (hl : s.heap.IsTuple l items) (hx : items[i]? = none)
    (hQ : ∀ h', Heap.ExtBut it s.heap h' → Q none { s with heap := h' }) : wpAny (model prog w) A (pyNext (.ref e)) Q E s := by
  have hT : s.TypeIs (.ref e) "enumerate" := ⟨_, he, rfl⟩
  unfold pyNext
  refine wpAny_bind (wpAny_attempt (wpAny_callSpecial?_slot (name := Str.ofString "__next__") hT F.slot_enumerate_next
    (wpAny_call_entry F.slot_enumerate_next hT F.entry_enumerate_next ?_ (F.args_enumerate_next_1 _))))
  show wpAny _ _ (field (.ref e) 2 >>= _) _ _ _
  refine wpAny_bind (wpAny_field he rfl (x := .ref it) rfl ?_)
  refine wpAny_bind (nextOf_tuple_end hh hit hl hx fun h' x he' hx' => ?_)
  obtain ⟨o, ho, hc⟩ := hx'
  refine wpAny_bind (wpAny_isInstance (T := "StopIteration") (b := true) ⟨o, ho, hc⟩ isSubtype_stop ?_)
  exact wpAny_pure (hQ _ he')
def Ite (K : PySem.W.Frag) (a : Addr) : It :=
  ⟨fun i H => ∃ xs x, SqT K H a xs ∧ xs[i]? = some x, fun i H x H' => ∃ p y, H p = none ∧ x = .ref p ∧ H' = upd H p (.tup [.int i, y]) ∧ ∀ xs, SqT K H a xs → xs[i]? = some y, fun i H => ∃ xs, SqT K H a xs ∧ xs.length ≤ i⟩
theorem turn_enum {P : Program} {w : World} {K : PySem.W.Frag} {es : List Expr} {k : Nat} {pt : Pos} (a e it : Addr) (hei : e ≠ it) (hae : a ≠ e) (hai : a ≠ it) : Turn P w K (.Tuple es k pt) (Ite K a) [e, it] e (fun i h => (∃ old, IsEnum h e it i old) ∧ h.IsTupleIter it a i) where
  mem := by simp
  obj := fun i h st b hb => by
    obtain ⟨⟨old, he⟩, o, ho, hc, hd⟩ := st
    rcases List.mem_cons.mp hb with rfl | hb
    · exact ⟨_, he, fun v z => by cases z⟩
    · have : b = it := by simpa using hb
      subst this
      exact ⟨o, ho, fun v z => by rw [hd] at z; cases z⟩
  keep := fun i h h' st kp => by
    obtain ⟨⟨old, he⟩, o, ho, r⟩ := st
    exact ⟨⟨old, kp e (by simp) _ he⟩, o, kp it (by simp) o ho, r⟩
  item := by
    intro X hP hw hK hc i pins s σ H E I hf st hg
    subst hP hw hK
    obtain ⟨xs, x, hq, hx⟩ := hg
    obtain ⟨its, rv, p, hz⟩ := I.tuple hq
    obtain ⟨u, hu, ru⟩ := rv.get hx
    obtain ⟨⟨old, he⟩, hit⟩ := st
    have hlt : i < its.toArray.size := by
      rw [List.size_toArray]; exact (List.getElem?_eq_some_iff.mp hu).1
    refine wpAny_pyNext_enum_itemD (Draws.tup (A := X.A.in1) (I.ok.hd hc) it a hai its.toArray) he ⟨hit, p⟩ hlt hei (by simp [hei, Ne.symm hae]) fun y h' tk hP ho hs' hT hsz hk => ?_
    have ey : y = u := by
      have : its.toArray[i]? = some u := by simpa using hu
      rw [this] at hP
      exact (Option.some.inj hP).symm
    subst ey
    refine ⟨_, rfl, wpAny_letOwnedTupleGo_enum (s := { s with heap := h', toks := tk + 1 }) ho fun h2 he2 sb2 => ?_⟩
    have hn : H s.heap.objs.size = none := I.fresh
    obtain ⟨fe0, fe1, fe2, fe3, fe4, fe5⟩ := hf e (by simp)
    obtain ⟨fi0, fi1, fi2, fi3, fi4, fi5⟩ := hf it (by simp)
    have kp : ∀ b o, b ≠ e → b ≠ it → s.heap.get? b = some o → h2.get? b = some o := fun b o h1 h2' e1 => (sb2.2 b h1).trans (hk b o h1 h2' e1)
    have hTe : s.heap.objs.size ≠ e := Nat.ne_of_gt (Heap.lt_size he)
    have hT2 : h2.get? s.heap.objs.size = some { cls := .type "tuple", data := .seq #[.int i tk, y] } := (sb2.2 _ hTe).trans hT
    have ne : ∀ b o, H b = some o → b ≠ s.heap.objs.size := fun b o q => ne_of_none q hn
    have I1 : Inv X pins σ (upd H s.heap.objs.size (.tup [.int i, x])) { s with heap := h2, toks := tk + 1 } := by
      refine I.step (h' := h2) (g' := s.gens) (d' := s.drawn) (t' := tk + 1) (ch := [e, it]) (fun b hb => ?_) (fun b o _ _ hb e1 _ => kp b o (fun z => hb (by simp [z])) (fun z => hb (by simp [z])) e1) (fun b o _ _ hb e1 _ => ⟨o.slots, kp b o (fun z => hb (by simp [z])) (fun z => hb (by simp [z])) e1⟩)
        (fun b o hb e1 n' => by rw [upd_ne (Nat.ne_of_lt (Heap.lt_size e1))]; exact n') (fun b o hb e1 => ⟨o, kp b o (fun z => hb (by simp [z])) (fun z => hb (by simp [z])) e1⟩)
        (fun b xs q => by rw [upd_ne (ne b _ q)]; exact q) (fun b o xs q => by rw [upd_ne (ne b _ q)]; exact q) (fun b ps q => ⟨#[], by rw [upd_ne (ne b _ q), q]; simp⟩)
        (fun m hm => ?_) (fun b o q => ?_) I.bare
      · rcases List.mem_cons.mp hb with rfl | hb
        · exact ⟨fe3, fe1, fe4, fe5⟩
        · have : b = it := by simpa using hb
          subst this
          exact ⟨fi3, fi1, fi4, fi5⟩
      · obtain ⟨o, es, ep, ho, r⟩ := hm
        exact ⟨o, es, ep, kp _ o (Ne.symm fe1) (Ne.symm fi1) ho, r⟩
      · by_cases hb : b = s.heap.objs.size
        · subst hb
          rw [upd_same] at q
          cases q
          exact ⟨by show 2 ≤ sizeLine; decide, [.int i tk, y], .cons ⟨tk, rfl⟩ (.cons ru .nil), _, hT2, rfl, 0, rfl⟩
        · rw [upd_ne hb] at q
          refine (I.hok b o q).stay (fun c v hc' z => kp c v ?_ ?_ z) (fun c z => by rw [upd_ne (ne c _ z)]; exact z) fun c xs z => by rw [upd_ne (ne c _ z)]; exact z
          · rcases hc' with z' | z'
            · rw [z']; exact ne_of_none q fe0
            · exact ne_of_none z' fe0
          · rcases hc' with z' | z'
            · rw [z']; exact ne_of_none q fi0
            · exact ne_of_none z' fi0
    refine ⟨.ref s.heap.objs.size, _, I1, rfl, ⟨_, x, hn, rfl, rfl, fun ys hy => by rw [I.tuple_inj hy hq]; exact hx⟩, ⟨⟨y, he2⟩, hs'.1.extBut sb2.extBut (Ne.symm hei)⟩, fun b hb => ?_⟩
    rcases List.mem_cons.mp hb with rfl | hb
    · rw [upd_ne (Ne.symm hTe)]; exact fe0
    · have : b = it := by simpa using hb
      subst this
      obtain ⟨o, ho', _⟩ := hit
      rw [upd_ne (Nat.ne_of_lt (Heap.lt_size ho'))]; exact fi0
  done := by
    intro X hP hw hK hc i pins s σ H E I hf st hg
    subst hP hw hK
    obtain ⟨xs, hq, hx⟩ := hg
    obtain ⟨its, rv, p, hz⟩ := I.tuple hq
    obtain ⟨⟨old, he⟩, hit⟩ := st
    obtain ⟨fi0, fi1, fi2, fi3, fi4, fi5⟩ := hf it (by simp)
    have hl := rv.length
    exact pyNext_enum_end_tup (I.ok.hd hc) he hit p (by simp; omega) fun h' eb => ⟨rfl, I.turned (t' := s.toks) (fun b o hb e => eb b o hb e) fi0 fi1 fi3 fi4 fi5⟩
  self := by
    intro A i s Q E st h
    obtain ⟨⟨old, he⟩, _⟩ := st
    exact wpAny_pyIter_enum he h
def enumL (i : Nat) : List D → List D
  | [] => []
  | d :: ds => .tup [.int i, d] :: enumL (i + 1) ds
theorem enumL_length : ∀ (ds : List D) (i : Nat), (enumL i ds).length = ds.length
  | [], _ => rfl
  | d :: ds, i => by rw [enumL, List.length_cons, List.length_cons, enumL_length ds]
theorem enumL_get : ∀ (ds : List D) (i j : Nat), (enumL i ds)[j]? = (ds[j]?).map fun d => D.tup [.int (i + j : Nat), d]
  | [], _, _ => by simp [enumL]
  | d :: ds, i, 0 => by simp [enumL]
  | d :: ds, i, j + 1 => by
    rw [enumL, List.getElem?_cons_succ, enumL_get ds (i + 1) j, List.getElem?_cons_succ, show i + 1 + j = i + (j + 1) by omega]
theorem Walk.enum {a : Addr} {ds : List D} {xs : List V} {J : List Addr} {H : Hp} (t : TQ X.K H J a xs) (m : Ats X.K H J ds xs) : Walk X (Ite X.K a) (enumL 0 ds) J H where
  len := by rw [enumL_length, m.length]; exact t.len
  go := fun J1 H1 i x hi => by
    rw [enumL_length] at hi
    have m1 := m.ex x
    obtain ⟨v, hv, _⟩ := m1.get (List.getElem?_eq_getElem hi)
    exact ⟨xs, v, (t.ex x).sq, hv⟩
  yld := fun J1 H1 i v H' x hJ hi y => by
    obtain ⟨p, y, hn, rfl, rfl, hy⟩ := y
    obtain ⟨d, e, a⟩ := (m.ex x).get' (hy xs (t.ex x).sq)
    refine ⟨.tup [.int i, d], by rw [enumL_get, e]; simp, At.newTup (.cons (At.int_iff.mpr rfl) (.cons a .nil)) hn hJ (by show 2 ≤ sizeLine; decide), same_upd hn _⟩
  stop := fun J1 H1 i x hi => by
    rw [enumL_length] at hi
    exact ⟨xs, (t.ex x).sq, by rw [← m.length]; exact hi⟩
def enumD : List D → Option (List D)
  | [.tup xs] => some (enumL 0 xs)
  | _ => none
theorem si_enum {es : List Expr} {k : Nat} {pt p : Pos} {a : Expr} {t : Rho → Sto → Out (List D)} {x : Str} (hx : x = "enumerate") (hm : X.mg x = none) (ha : SA X W [a] t) (hg : Gl X x := by rfl)
    (he : starEach (a :: []) X.env = (false, eval a X.env) :: starEach [] X.env := by rfl) (hpl : (backTo pos (starEach [] X.env)).any (·.1) = false := by rfl) : SI X W (.Tuple es k pt) (.Call (.Name x p) [a] [] pos) (cRng enumD t) := by
  subst hx
  intro pins s σ H R I h
  refine wpAny_Call_Name_kw (ld_blt I hg hm boot_enumerate ?_ (by decide) (by decide))
  refine callWith_type1 (thn (ha pos pins s σ H _ I (rng_read h)) fun us s1 ⟨vs, H1, I1, r1, J, S, es', ds, so, m, hk, z⟩ => ?_) he hpl
  unfold enumD at hk
  split at hk
  · rename_i xs
    cases hk
    obtain ⟨v, r, rfl, a1, n⟩ := Ats.cons_iff.mp m
    cases Ats.nil_iff.mp n
    obtain ⟨ad, ws, rfl, tq, mz⟩ := At.tup_iff.mp a1
    obtain ⟨u, rfl, ru⟩ := vals1 r1
    cases ru
    obtain ⟨its, rv, pl, hz⟩ := I1.tuple tq.sq
    have had : ad < s1.heap.objs.size := pl.lt
    refine call_enum_tup pl fun h' en it sz kp => ?_
    have I2 : Inv X pins σ H1 { s1 with heap := h' } := I1.kept (t' := s1.toks) kp
    refine wpAny_pyIter_enum en ?_
    refine ⟨s1.heap.objs.size + 1, [s1.heap.objs.size + 1, s1.heap.objs.size], _, Ite X.K ad, H1, rfl, I2, turn_enum ad _ _ (Nat.ne_of_gt (Nat.lt_succ_self _)) (Nat.ne_of_lt (Nat.lt_succ_of_lt had)) (Nat.ne_of_lt had), ⟨⟨_, en⟩, it⟩, fun b hb => ?_, z H1 _ (Same.refl _) (Walk.enum tq mz)⟩
    rcases List.mem_cons.mp hb with rfl | hb
    · exact I1.fpOk (Nat.le_succ _) (I1.hok.fresh (Nat.le_succ _))
    · have : b = s1.heap.objs.size := by simpa using hb
      subst this
      exact I1.fpOk (Nat.le_refl _) I1.fresh
  · cases hk
end
end L2
namespace L2
open PySem PySem.Spec PyProof.Rows PySem.W
section
variable {X : Cx} {W : WT}
def blsO : List D → Option (List Bool)
  | [] => some []
  | .bl b :: r => (blsO r).map (b :: ·)
  | _ => none
def allD : List D → Option D
  | [.lst xs] => (blsO xs).map fun bs => .bl (bs.all id)
  | _ => none
theorem bls_vals {K : PySem.W.Frag} {H : Hp} {J : List Addr} : ∀ {ds : List D} {bs : List Bool} {vs : List V} {us : List Value}, blsO ds = some bs → Ats K H J ds vs → Vals vs us → us = bs.map Value.bool
  | [], bs, vs, us, e, m, r => by
    cases e
    cases Ats.nil_iff.mp m
    cases r
    rfl
  | .bl b :: ds, bs, vs, us, e, m, r => by
    obtain ⟨bs', e1, e2⟩ := Option.map_eq_some_iff.mp (show (blsO ds).map (b :: ·) = some bs from e)
    subst e2
    obtain ⟨v, vr, rfl, a, m'⟩ := Ats.cons_iff.mp m
    cases At.bl_iff.mp a
    cases r with
    | cons r1 r2 =>
      cases r1
      rw [bls_vals e1 m' r2]; rfl
  | .non :: _, _, _, _, e, _, _ => by cases e
  | .int _ :: _, _, _, _, e, _, _ => by cases e
  | .str _ :: _, _, _, _, e, _, _ => by cases e
  | .tup _ :: _, _, _, _, e, _, _ => by cases e
  | .lst _ :: _, _, _, _, e, _, _ => by cases e
  | .set _ :: _, _, _, _, e, _, _ => by cases e
  | .loc _ :: _, _, _, _, e, _, _ => by cases e
theorem truth_bools {prog : Program} {w : World} {A : Around} (bs : List Bool) : TruthOf prog w A (fun i v => (bs.map Value.bool).toArray[i]? = some v) (fun i => bs.getD i false) := by
  intro i v s Q E hP hQ
  have hP' : (bs.map Value.bool)[i]? = some v := by simpa using hP
  rw [List.getElem?_map] at hP'
  obtain ⟨b, e1, e2⟩ := Option.map_eq_some_iff.mp hP'
  subst e2
  have : bs.getD i false = b := by rw [List.getD_eq_getElem?_getD, e1]; rfl
  have hQ : Q (bs.getD i false) s := hQ
  rw [this] at hQ
  exact wpAny_truthy_bool hQ
theorem range_all (bs : List Bool) : (List.range bs.length).all (fun i => bs.getD i false) = bs.all id := by
  rw [Bool.eq_iff_iff, List.all_eq_true, List.all_eq_true]
  constructor
  · intro h x hx
    obtain ⟨i, hi, e⟩ := List.mem_iff_getElem.mp hx
    have := h i (List.mem_range.mpr hi)
    rw [List.getD_eq_getElem?_getD, List.getElem?_eq_getElem hi, e] at this
    exact this
  · intro h i hi
    have hi := List.mem_range.mp hi
    rw [List.getD_eq_getElem?_getD, List.getElem?_eq_getElem hi]
    exact h _ (List.getElem_mem hi)
theorem cd_all (hc : X.calm = true) : CallD X (.builtin "all") allD := by
  intro pins s σ H xs us Q I r h
  obtain ⟨J, ds, d, hJ, m, e, q⟩ := h
  unfold allD at e
  split at e
  · rename_i ys
    obtain ⟨bs, e1, e2⟩ := Option.map_eq_some_iff.mp e
    subst e2
    obtain ⟨v, w, rfl, a, n⟩ := Ats.cons_iff.mp m
    cases Ats.nil_iff.mp n
    obtain ⟨p, zs, rfl, t, mz⟩ := At.lst_iff.mp a
    obtain ⟨u, rfl, ru⟩ := vals1 r
    cases ru
    obtain ⟨its, rv, pl, hz⟩ := I.list t.sq
    have eb := bls_vals e1 mz rv
    subst eb
    have hp : p < s.heap.objs.size := by obtain ⟨o, n, e, _⟩ := pl; exact Heap.lt_size e
    refine call_all_walk (wpAny_pyIter_list pl.isList ?_)
    refine ⟨s.heap.objs.size, _, _, _, _, _, fun i => bs.getD i false, rfl, Walks.list (A := X.A.in1) (I.ok.hd hc) s.heap.objs.size p (Nat.ne_of_lt hp) (bs.map Value.bool).toArray, ⟨⟨_, Heap.get?_push_size _ rfl, rfl, rfl⟩, pl.isList.push _⟩, truth_bools bs, fun h' tk k => ?_⟩
    rw [List.size_toArray, List.length_map, range_all]
    refine ⟨.bl _, H, I.kept fun b o e => k b o (fun z => ?_) (Heap.get?_push_of_some _ e), rfl, q H _ (Same.refl H) (At.bl_iff.mpr rfl)⟩
    have : b = s.heap.objs.size := by simpa using z
    exact absurd (Heap.lt_size e) (by rw [this]; exact Nat.lt_irrefl _)
  · cases e
theorem sortedG {prog : Program} {w : World} {A : Around} {E : Value → Shared → Prop} {s : Shared} {κ : PyProof.Rows.KeyKind} (hO : κ.OneLt) {x : Value} {Q : Value → Shared → Prop}
    (h : wpAny (model prog w) A.in1 (collect x) (fun vs s1 => PyProof.Rows.KeysOf κ (pairsOf vs) ∧ (∀ v₁ v₂ rest, vs = v₁ :: v₂ :: rest → keyKind' (v₁ :: v₂ :: rest).toArray = pure oneType') ∧ vs.length < 64 ∧
      ∀ (st' : SortSt) h' ep, (arrOf st').Perm (pairsOf vs) → SortedToK κ (arrOf st') (pairsOf vs).size → (∀ b o, s1.heap.get? b = some o → h'.get? b = some o) → h'.get? s1.heap.objs.size = some (seqObj "list" ((arrOf st').map (·.2)) ep) →
        Q (.ref s1.heap.objs.size) { s1 with heap := h' }) E s) : wpAny (model prog w) A (call (.builtin "sorted") [x]) Q E s := by
  refine Calls.call_function_entry kind_sorted plain_sorted entry_sorted (args_sorted1 _) ?_
  unfold Builtin.«sorted»
  refine wpAny_bind (m := checkCount "sorted" 1 1 _) (wpAny_pure ?_)
  refine wpAny_bind (thn h fun vs s1 ⟨h0, hkk, h64, q⟩ => ?_)
  refine wpAny_bind (wpAny_newList ?_)
  have hoL : (s1.heap.push (seqObj "list" vs.toArray 0)).get? s1.heap.objs.size = some (seqObj "list" vs.toArray 0) := Heap.get?_push_size _ rfl
  refine wpAny_bind (wpAny_holding (wpAny_call_entry slot_list_sort ⟨_, hoL, rfl⟩ entry_list_sort (list_sort_treeK hO hoL h0 hkk h64 fun st' a1 a2 => ⟨_, rfl, ?_⟩) (args_list_sort _)))
  obtain ⟨ep, hat⟩ := sortedHeap_at (out := (arrOf st').map (·.2)) hoL
  exact wpAny_pure ⟨_, rfl, q st' _ ep a1 a2 (fun b o e => by
    rw [sortedHeap_old (Nat.ne_of_lt (Heap.lt_size e)) (by rw [size_push']; exact Nat.lt_succ_of_lt (Heap.lt_size e))]
    exact Heap.get?_push_of_some _ e) hat⟩
end
end L2
namespace L2
open PySem PySem.Spec PyProof.Rows PySem.W
def leS (a b : Str) : Bool := !ltS b a
theorem leS_iff {a b : Str} : leS a b = true ↔ a.cps.toList ≤ b.cps.toList := by
  unfold leS ltS
  rw [Bool.not_eq_true', decide_eq_false_iff_not, List.not_lt]
theorem leS_trans (a b c : Str) (h : leS a b = true) (g : leS b c = true) : leS a c = true := leS_iff.mpr (List.le_trans (leS_iff.mp h) (leS_iff.mp g))
theorem leS_total (a b : Str) : (leS a b || leS b a) = true := by
  rw [Bool.or_eq_true, leS_iff, leS_iff]
  exact List.le_total _ _
theorem str_ext {a b : Str} (h : a.cps.toList = b.cps.toList) : a = b := by
  cases a; cases b; congr; exact Array.toList_inj.mp h
theorem leS_anti {a b : Str} (h : leS a b = true) (g : leS b a = true) : a = b := str_ext (List.le_antisymm (leS_iff.mp h) (leS_iff.mp g))
def sortS (l : List Str) : List Str := l.mergeSort leS
theorem sortS_unique {l l' : List Str} (hp : l'.Perm l) (hs : l'.Pairwise fun a b => leS a b = true) : l' = sortS l :=
  List.Perm.eq_of_pairwise (le := fun a b => leS a b = true) (fun a b _ _ h g => leS_anti h g) hs (List.pairwise_mergeSort leS_trans leS_total l) (hp.trans (List.mergeSort_perm l leS).symm)
theorem pairwise_of_rising : ∀ (p : Str) (l : List Str), risingS p l = true → (p :: l).Pairwise fun a b => leS a b = true
  | p, [], _ => by simp
  | p, x :: r, h => by
    have h' : (!ltCps x.cps.toList p.cps.toList && risingS x r) = true := h
    rw [Bool.and_eq_true] at h'
    have px : leS p x = true := by
      unfold leS ltS
      rw [← ltCps_eq]; exact h'.1
    have t := pairwise_of_rising x r h'.2
    refine List.pairwise_cons.mpr ⟨fun y hy => ?_, t⟩
    rcases List.mem_cons.mp hy with rfl | hy
    · exact px
    · exact leS_trans _ _ _ px ((List.pairwise_cons.mp t).1 y hy)
theorem pairwise_of_sortedS {l : List Str} (h : sortedS l = true) : l.Pairwise fun a b => leS a b = true := by
  cases l with
  | nil => exact .nil
  | cons x r => exact pairwise_of_rising x r h
def leI (a b : Int) : Bool := decide (a ≤ b)
def sortI (l : List Int) : List Int := l.mergeSort leI
theorem sortI_unique {l l' : List Int} (hp : l'.Perm l) (hs : l'.Pairwise (· ≤ ·)) : l' = sortI l := by
  refine List.Perm.eq_of_pairwise (le := fun a b => leI a b = true) (fun a b _ _ h g => ?_) (hs.imp fun h => decide_eq_true h) (List.pairwise_mergeSort (fun a b c h g => ?_) (fun a b => ?_) l) (hp.trans (List.mergeSort_perm l leI).symm)
  · exact Int.le_antisymm (of_decide_eq_true h) (of_decide_eq_true g)
  · exact decide_eq_true (Int.le_trans (of_decide_eq_true h) (of_decide_eq_true g))
  · unfold leI
    rw [Bool.or_eq_true, decide_eq_true_eq, decide_eq_true_eq]
    exact Int.le_total a b
def strsO : List D → Option (List Str)
  | [] => some []
  | .str x :: r => (strsO r).map (x :: ·)
  | _ => none
def intsO : List D → Option (List Int)
  | [] => some []
  | .int x :: r => (intsO r).map (x :: ·)
  | _ => none
theorem strsO_map : ∀ ss : List Str, strsO (ss.map .str) = some ss
  | [] => rfl
  | x :: r => by rw [List.map_cons, strsO, strsO_map r]; rfl
theorem intsO_map : ∀ ss : List Int, intsO (ss.map .int) = some ss
  | [] => rfl
  | x :: r => by rw [List.map_cons, intsO, intsO_map r]; rfl
theorem strsO_eq : ∀ {ds : List D} {ss : List Str}, strsO ds = some ss → ds = ss.map .str
  | [], ss, e => by cases e; rfl
  | .str x :: r, ss, e => by
    obtain ⟨t, e1, e2⟩ := Option.map_eq_some_iff.mp (show (strsO r).map (x :: ·) = some ss from e)
    subst e2
    rw [strsO_eq e1]; rfl
  | .non :: _, _, e => by cases e
  | .bl _ :: _, _, e => by cases e
  | .int _ :: _, _, e => by cases e
  | .tup _ :: _, _, e => by cases e
  | .lst _ :: _, _, e => by cases e
  | .set _ :: _, _, e => by cases e
  | .loc _ :: _, _, e => by cases e
theorem intsO_eq : ∀ {ds : List D} {ss : List Int}, intsO ds = some ss → ds = ss.map .int
  | [], ss, e => by cases e; rfl
  | .int x :: r, ss, e => by
    obtain ⟨t, e1, e2⟩ := Option.map_eq_some_iff.mp (show (intsO r).map (x :: ·) = some ss from e)
    subst e2
    rw [intsO_eq e1]; rfl
  | .non :: _, _, e => by cases e
  | .bl _ :: _, _, e => by cases e
  | .str _ :: _, _, e => by cases e
  | .tup _ :: _, _, e => by cases e
  | .lst _ :: _, _, e => by cases e
  | .set _ :: _, _, e => by cases e
  | .loc _ :: _, _, e => by cases e
theorem strsO_perm {a b : List D} (p : a.Perm b) : ∀ {sb}, strsO b = some sb → ∃ sa, strsO a = some sa ∧ sa.Perm sb := by
  induction p with
  | nil => intro sb e; exact ⟨sb, e, .refl _⟩
  | cons x p ih =>
    intro sb e
    cases x with
    | str z =>
      obtain ⟨t, e1, e2⟩ := Option.map_eq_some_iff.mp (show (strsO _).map (z :: ·) = some sb from e)
      subst e2
      obtain ⟨sa, e3, e4⟩ := ih e1
      exact ⟨z :: sa, by rw [strsO, e3]; rfl, .cons z e4⟩
    | _ => cases e
  | swap x y l =>
    intro sb e
    cases x with
    | str z =>
      cases y with
      | str z' =>
        obtain ⟨t, e1, e2⟩ := Option.map_eq_some_iff.mp (show (strsO (.str z' :: l)).map (z :: ·) = some sb from e)
        obtain ⟨t', e3, e4⟩ := Option.map_eq_some_iff.mp (show (strsO l).map (z' :: ·) = some t from e1)
        subst e2 e4
        exact ⟨z' :: z :: t', by rw [strsO, strsO, e3]; rfl, .swap z z' t'⟩
      | _ => cases e
    | _ => cases e
  | trans _ _ ih1 ih2 =>
    intro sb e
    obtain ⟨sm, e1, p1⟩ := ih2 e
    obtain ⟨sa, e2, p2⟩ := ih1 e1
    exact ⟨sa, e2, p2.trans p1⟩
theorem intsO_perm {a b : List D} (p : a.Perm b) : ∀ {sb}, intsO b = some sb → ∃ sa, intsO a = some sa ∧ sa.Perm sb := by
  induction p with
  | nil => intro sb e; exact ⟨sb, e, .refl _⟩
  | cons x p ih =>
    intro sb e
    cases x with
    | int z =>
      obtain ⟨t, e1, e2⟩ := Option.map_eq_some_iff.mp (show (intsO _).map (z :: ·) = some sb from e)
      subst e2
      obtain ⟨sa, e3, e4⟩ := ih e1
      exact ⟨z :: sa, by rw [intsO, e3]; rfl, .cons z e4⟩
    | _ => cases e
  | swap x y l =>
    intro sb e
    cases x with
    | int z =>
      cases y with
      | int z' =>
        obtain ⟨t, e1, e2⟩ := Option.map_eq_some_iff.mp (show (intsO (.int z' :: l)).map (z :: ·) = some sb from e)
        obtain ⟨t', e3, e4⟩ := Option.map_eq_some_iff.mp (show (intsO l).map (z' :: ·) = some t from e1)
        subst e2 e4
        exact ⟨z' :: z :: t', by rw [intsO, intsO, e3]; rfl, .swap z z' t'⟩
      | _ => cases e
    | _ => cases e
  | trans _ _ ih1 ih2 =>
    intro sb e
    obtain ⟨sm, e1, p1⟩ := ih2 e
    obtain ⟨sa, e2, p2⟩ := ih1 e1
    exact ⟨sa, e2, p2.trans p1⟩
section
variable {K : PySem.W.Frag} {H : Hp} {J : List Addr}
theorem Ats.strs : ∀ {ss : List Str} {vs : List V} {us : List Value}, Ats K H J (ss.map .str) vs → Vals vs us → StrsAre us ss ∧ vs = ss.map V.str ∧ ∀ x ∈ ss, okS x
  | [], vs, us, m, r => by
    cases Ats.nil_iff.mp m
    cases r
    exact ⟨.nil, rfl, by simp⟩
  | x :: ss, vs, us, m, r => by
    obtain ⟨v, vr, rfl, a, m'⟩ := Ats.cons_iff.mp m
    obtain ⟨ev, ok⟩ := At.str_iff.mp a
    subst ev
    cases r with
    | cons r1 r2 =>
      obtain ⟨t, rfl⟩ := r1
      obtain ⟨s1, s2, s3⟩ := Ats.strs m' r2
      refine ⟨.cons x t s1, by rw [s2]; rfl, fun y hy => ?_⟩
      rcases List.mem_cons.mp hy with rfl | hy
      · exact ok
      · exact s3 y hy
theorem Ats.ofStrs : ∀ {ss : List Str}, (∀ x ∈ ss, okS x) → Ats K H J (ss.map .str) (ss.map V.str)
  | [], _ => .nil
  | x :: ss, h => .cons (At.str_iff.mpr ⟨rfl, h x (List.mem_cons_self ..)⟩) (Ats.ofStrs fun y hy => h y (List.mem_cons_of_mem _ hy))
theorem vals_strs : ∀ {us : List Value} {ss : List Str}, StrsAre us ss → Vals (ss.map V.str) us
  | _, _, .nil => .nil
  | _, _, .cons x t h => .cons ⟨t, rfl⟩ (vals_strs h)
end
section
theorem sortedGi {prog : Program} {w : World} {A : Around} {E : Value → Shared → Prop} {s : Shared} {x : Value} {Q : Value → Shared → Prop}
    (h : wpAny (model prog w) A.in1 (collect x) (fun vs s1 => ∃ ns, IntsAre vs ns ∧ vs.length < 64 ∧
      ∀ (out : Array Value) (ns' : List Int) h' ep, IntsAre out.toList ns' → ns'.Perm ns → ns'.Pairwise (· ≤ ·) → (∀ b o, s1.heap.get? b = some o → h'.get? b = some o) → h'.get? s1.heap.objs.size = some (seqObj "list" out ep) →
        Q (.ref s1.heap.objs.size) { s1 with heap := h' }) E s) : wpAny (model prog w) A (call (.builtin "sorted") [x]) Q E s := by
  refine Calls.call_function_entry kind_sorted plain_sorted entry_sorted (args_sorted1 _) ?_
  unfold Builtin.«sorted»
  refine wpAny_bind (m := checkCount "sorted" 1 1 _) (wpAny_pure ?_)
  refine wpAny_bind (thn h fun vs s1 ⟨ns, hI, h64, q⟩ => ?_)
  refine wpAny_bind (wpAny_newList ?_)
  have hoL : (s1.heap.push (seqObj "list" vs.toArray 0)).get? s1.heap.objs.size = some (seqObj "list" vs.toArray 0) := Heap.get?_push_size _ rfl
  refine wpAny_bind (wpAny_holding (wpAny_call_entry slot_list_sort ⟨_, hoL, rfl⟩ entry_list_sort (list_sort_tree hoL hI h64 fun out ns' a1 a2 a3 => ⟨_, rfl, ?_⟩) (args_list_sort _)))
  obtain ⟨ep, hat⟩ := sortedHeap_at (out := out) hoL
  exact wpAny_pure ⟨_, rfl, q out ns' _ ep a1 a2 a3 (fun b o e => by
    rw [sortedHeap_old (Nat.ne_of_lt (Heap.lt_size e)) (by rw [size_push']; exact Nat.lt_succ_of_lt (Heap.lt_size e))]
    exact Heap.get?_push_of_some _ e) hat⟩
end
section
variable {X : Cx} {W : WT}
def sortL (xs : List D) : Option (List D) := if xs.length < 64 then
    match strsO xs with
    | some ss => some ((sortS ss).map .str)
    | none => (intsO xs).map fun ns => (sortI ns).map .int
  else none
theorem sorted_of {pins : List (Addr × Obj)} {σ : St} {H : Hp} {s : Shared} {J : List Addr} {x : Value} {ds : List D} {out : List D} {Q : VK} (hJ : ∀ a ∈ J, H a ≠ none) (e : sortL ds = some out) (q : ∀ H' v, Same H H' → At X.K H' J (.lst out) v → Q v H')
    (hcol : ∀ (Q' : List Value → Shared → Prop) (E : Value → Shared → Prop), (∀ us vs s1 ds', Inv X pins σ H s1 → Vals vs us → ds'.Perm ds → Ats X.K H J ds' vs → Q' us s1) → wpAny (model X.prog X.w) X.A.in1 (collect x) Q' E s) :
    wpAny (model X.prog X.w) X.A (call (.builtin "sorted") [x]) (EP X pins σ Q) X.xe s := by
  unfold sortL at e
  split at e
  · rename_i h64
    have fin : ∀ {s1 : Shared} {h' : Heap} {ep : Nat} {us' : List Value} {vs' : List V} (I1 : Inv X pins σ H s1) (k : ∀ b o, s1.heap.get? b = some o → h'.get? b = some o) (hat : h'.get? s1.heap.objs.size = some (seqObj "list" us'.toArray ep)) (rv : Vals vs' us') (m : Ats X.K H J out vs') (hl : vs'.length ≤ sizeLine),
        EP X pins σ Q (.ref s1.heap.objs.size) { s1 with heap := h' } := fun {s1 h' ep us' vs'} I1 k hat rv m hl =>
      ⟨.ref s1.heap.objs.size, _, I1.laid (t' := s1.toks) (o := .lst vs') k (Nat.le_refl _) ⟨hl, us', ep, rv, hat⟩, rfl, q _ _ (same_upd I1.fresh _) (At.newLst m I1.fresh hJ hl)⟩
    split at e
    · rename_i ss es
      cases e
      have ed := strsO_eq es
      subst ed
      refine sortedG strKind_oneLt (hcol _ _ fun us vs s1 ds' I1 rv pm m => ?_)
      have hso : ∃ ss', strsO ds' = some ss' ∧ ss'.Perm ss := by
        exact strsO_perm pm (strsO_map ss)
      obtain ⟨ss', es', pss⟩ := hso
      have ed' := strsO_eq es'
      subst ed'
      obtain ⟨sa, ev, ok⟩ := Ats.strs m rv
      have hlen : us.length = ss.length := by
        rw [← rv.length, ev, List.length_map]; exact pss.length_eq
      refine ⟨sa.keysOf, fun v₁ v₂ rest e => keyKind_strs (by rw [← e]; exact sa), by rw [List.length_map] at h64; omega, fun st' h' ep hp hs k hat => ?_⟩
      obtain ⟨so, h1, h2, h3⟩ := sorted_out_str sa hp hs
      have eso : so = sortS ss := sortS_unique (h2.trans pss) (pairwise_of_sortedS h3)
      subst eso
      have ok' : ∀ x ∈ sortS ss, okS x := fun x hx => ok x (h2.mem_iff.mp hx)
      refine fin (us' := ((arrOf st').map (·.2)).toList) I1 k (by rw [Array.toArray_toList]; exact hat) (vals_strs h1) (Ats.ofStrs ok') ?_
      rw [List.length_map, (h2.trans pss).length_eq]
      rw [List.length_map] at h64
      exact Nat.le_of_lt (Nat.lt_of_lt_of_le h64 (by decide))
    · obtain ⟨ns, es, eo⟩ := Option.map_eq_some_iff.mp e
      subst eo
      have ed := intsO_eq es
      subst ed
      refine sortedGi (hcol _ _ fun us vs s1 ds' I1 rv pm m => ?_)
      obtain ⟨ns', es', pss⟩ := intsO_perm pm (intsO_map ns)
      have ed' := intsO_eq es'
      subst ed'
      have ev := Ats.toInts m
      subst ev
      have hI := intsAre_of rv
      have hlen : us.length = ns.length := by
        rw [← rv.length, List.length_map]; exact pss.length_eq
      rw [List.length_map] at h64
      refine ⟨ns', hI, by omega, fun out no h' ep a1 a2 a3 k hat => ?_⟩
      have eso : no = sortI ns := sortI_unique (a2.trans pss) a3
      subst eso
      refine fin (us' := out.toList) I1 k (by rw [Array.toArray_toList]; exact hat) (vals_ints a1) (Ats.ofInts _) ?_
      rw [List.length_map, (a2.trans pss).length_eq]
      exact Nat.le_of_lt (Nat.lt_of_lt_of_le h64 (by decide))
  · cases e
def sortD : List D → Option D
  | [.tup xs] => (sortL xs).map .lst
  | [.lst xs] => (sortL xs).map .lst
  | _ => none
theorem cd_sort : CallD X (.builtin "sorted") sortD := by
  intro pins s σ H xs us Q I r h
  obtain ⟨J, ds, d, hJ, m, e, q⟩ := h
  unfold sortD at e
  split at e
  · rename_i ys
    obtain ⟨out, e1, e2⟩ := Option.map_eq_some_iff.mp e
    subst e2
    obtain ⟨v, w, rfl, a, n⟩ := Ats.cons_iff.mp m
    cases Ats.nil_iff.mp n
    obtain ⟨p, zs, rfl, t, mz⟩ := At.tup_iff.mp a
    obtain ⟨u, rfl, ru⟩ := vals1 r
    cases ru
    obtain ⟨its, rv, ⟨o, ho, hc, nn, hd⟩, hz⟩ := I.tuple t.sq
    refine sorted_of hJ e1 q fun Q' E hQ => wpAny_collect_seq p (.inr rfl) ho hc hd (fun h' k => ?_) (by rw [List.size_toArray, ← rv.length]; exact hz)
    exact hQ _ zs _ ys (I.kept (t' := s.toks) k) (by simpa using rv) (.refl _) mz
  · rename_i ys
    obtain ⟨out, e1, e2⟩ := Option.map_eq_some_iff.mp e
    subst e2
    obtain ⟨v, w, rfl, a, n⟩ := Ats.cons_iff.mp m
    cases Ats.nil_iff.mp n
    obtain ⟨p, zs, rfl, t, mz⟩ := At.lst_iff.mp a
    obtain ⟨u, rfl, ru⟩ := vals1 r
    cases ru
    obtain ⟨its, rv, ⟨o, nn, ho, hc, _, hd⟩, hz⟩ := I.list t.sq
    refine sorted_of hJ e1 q fun Q' E hQ => wpAny_collect_seq p (.inl rfl) ho hc hd (fun h' k => ?_) (by rw [List.size_toArray, ← rv.length]; exact hz)
    exact hQ _ zs _ ys (I.kept (t' := s.toks) k) (by simpa using rv) (.refl _) mz
  · cases e
end
end L2
namespace L2
open PySem PySem.Spec PyProof.Rows PySem.W
def sameK (a b : D) : Bool := decide (keyD a = keyD b)
def putD (kvs : List (D × D)) (k v : D) : List (D × D) := if (kvs.any fun p => sameK p.1 k) = true then kvs.map (fun p => if sameK p.1 k = true then (p.1, v) else p) else kvs ++ [(k, v)]
def getD (kvs : List (D × D)) (k : D) : Option D := (kvs.find? fun p => sameK p.1 k).map (·.2)
abbrev RKV (K : PySem.W.Frag) (H : Hp) (J : List Addr) : (D × D) → (Key × V) → Prop := fun p q => (keyD p.1 = some q.1 ∧ At K H J p.1 (kV q.1)) ∧ At K H J p.2 q.2
section
variable {K : PySem.W.Frag} {H H' : Hp} {J J' : List Addr}
theorem sameK_of {a k : D} {x y : Key} (h : keyD a = some x) (g : keyD k = some y) : sameK a k = decide (x = y) := by
  unfold sameK
  rw [h, g]
  by_cases e : x = y
  · subst e; simp
  · rw [decide_eq_false e, decide_eq_false (fun z => e (Option.some.inj z))]
theorem any_kv {kvs : List (D × D)} {ps : List (Key × V)} {k : D} {y : Key} (g : keyD k = some y) (r : Paired (RKV K H J) kvs ps) : (kvs.any fun p => sameK p.1 k) = ps.any fun q => decide (q.1 = y) := by
  induction r with
  | nil => rfl
  | cons h t ih => rw [List.any_cons, List.any_cons, ih, sameK_of h.1.1 g]
theorem putMap_kv {kvs : List (D × D)} {ps : List (Key × V)} {k v : D} {y : Key} {w : V} (g : keyD k = some y) (av : At K H J v w) (r : Paired (RKV K H J) kvs ps) : Paired (RKV K H J) (kvs.map fun p => if sameK p.1 k = true then (p.1, v) else p) (ps.map fun q => if q.1 = y then (q.1, w) else q) := by
  induction r with
  | nil => exact .nil
  | @cons p q l1 l2 h t ih =>
    refine .cons ?_ ih
    show RKV K H J (if sameK p.1 k = true then (p.1, v) else p) (if q.1 = y then (q.1, w) else q)
    rw [sameK_of h.1.1 g]
    by_cases e : q.1 = y
    · rw [if_pos (decide_eq_true e), if_pos e]
      exact ⟨h.1, av⟩
    · rw [if_neg (by rw [decide_eq_false e]; decide), if_neg e]
      exact h
theorem putApp_kv {k v : D} {y : Key} {w : V} (g : keyD k = some y) (ak : At K H J k (kV y)) (av : At K H J v w) {l1 : List (D × D)} {l2 : List (Key × V)} (h : Paired (RKV K H J) l1 l2) : Paired (RKV K H J) (l1 ++ [(k, v)]) (l2 ++ [(y, w)]) := by
  induction h with
  | nil => exact .cons ⟨⟨g, ak⟩, av⟩ .nil
  | cons h t ih => exact .cons h ih
theorem put_kv {kvs : List (D × D)} {ps : List (Key × V)} {k v : D} {y : Key} {w : V} (g : keyD k = some y) (ak : At K H J k (kV y)) (av : At K H J v w) (r : Paired (RKV K H J) kvs ps) : Paired (RKV K H J) (putD kvs k v) (putK ps y w) := by
  unfold putD putK
  rw [any_kv g r]
  split
  · exact putMap_kv g av r
  · exact putApp_kv g ak av r
theorem get_kv {kvs : List (D × D)} {ps : List (Key × V)} {k : D} {y : Key} (g : keyD k = some y) (r : Paired (RKV K H J) kvs ps) :
    (getD kvs k = none ∧ valV ps y = none) ∨ ∃ d v, getD kvs k = some d ∧ valV ps y = some v ∧ At K H J d v := by
  unfold getD valV
  induction r with
  | nil => exact .inl ⟨rfl, rfl⟩
  | @cons p q l1 l2 h t ih =>
    rw [List.find?_cons, List.find?_cons, sameK_of h.1.1 g]
    by_cases e : q.1 = y
    · rw [decide_eq_true e]
      exact .inr ⟨p.2, q.2, rfl, rfl, h.2⟩
    · rw [decide_eq_false e]
      exact ih
theorem paired_len {α β : Type} {F : α → β → Prop} {l1 : List α} {l2 : List β} (r : Paired F l1 l2) : l1.length = l2.length := Paired.length r
end
section
variable {X : Cx} {W : WT} {pos pos' : Pos} {o i e : Expr} {fo fi fv : Rho → Sto → Out D}
def cNewD : Rho → Sto → Out D := fun _ S => okO (.loc S.length) (S ++ [.dict []])
theorem StoOk.push {K : PySem.W.Frag} {J : List Addr} {S : Sto} {H : Hp} {p : Addr} {o : HO} {mo : MO} (s : StoOk K J S H) (hp : H p = none) (hm : MAt K (upd H p o) (J ++ [p]) mo p) : StoOk K (J ++ [p]) (S ++ [mo]) (upd H p o) ∧ Ex J H (J ++ [p]) (upd H p o) := by
  have x : Ex J H (J ++ [p]) (upd H p o) := ⟨⟨[p], rfl⟩, fun b u hb nb => ⟨by rw [upd_ne (ne_of_none hb hp)]; exact hb, fun z => by
    rcases List.mem_append.mp z with z | z
    · exact nb z
    · exact ne_of_none hb hp (by simpa using z)⟩⟩
  refine ⟨⟨by rw [List.length_append, List.length_append, s.len]; rfl, ?_, fun l a mo' h1 h2 => ?_⟩, x⟩
  · rw [List.nodup_append]
    refine ⟨s.nd, by simp, fun a ha b hb z => ?_⟩
    have : b = p := by simpa using hb
    subst this
    exact s.tracked ha (z ▸ hp)
  · by_cases hl : l < J.length
    · rw [List.getElem?_append_left hl] at h1
      rw [List.getElem?_append_left (by rw [← s.len]; exact hl)] at h2
      have q := s.at_ l a mo' h1 h2
      refine q.ex x ?_
      rw [upd_ne]
      intro z
      exact q.ne_none (z ▸ hp)
    · rw [List.getElem?_append_right (by omega)] at h1
      rw [List.getElem?_append_right (by rw [← s.len]; omega)] at h2
      have e0 : l - J.length = 0 := by
        have := (List.getElem?_eq_some_iff.mp h1).1
        simp at this; omega
      rw [e0] at h1
      rw [← s.len, e0] at h2
      simp at h1 h2
      subst h1 h2
      exact hm
theorem se_newD : SE X W (.Dict [] [] pos) cNewD := pe_dnewK.imp fun σ H Q h => by
  obtain ⟨J, ρ, S, r, S', c, _, e, z⟩ := h
  cases e
  intro p hp
  have q := c.sto.push (o := .dK []) (mo := .dict []) hp ⟨[], upd_same, .nil⟩
  refine z (J ++ [p]) _ _ q.2 q.1 (At.loc_iff.mpr ⟨p, rfl, ?_⟩)
  rw [← c.sto.len, List.getElem?_append_right (Nat.le_refl _)]
  simp
theorem StoOk.update {K : PySem.W.Frag} {J : List Addr} {S : Sto} {H : Hp} {l : Nat} {a : Addr} {o : HO} {mo : MO} (s : StoOk K J S H) (hl : J[l]? = some a) (hm : ∀ J' H', Ex J H J' H' → H' = upd H a o → J' = J → MAt K H' J' mo a) : StoOk K J (S.set l mo) (upd H a o) ∧ Ex J H J (upd H a o) := by
  have hin : a ∈ J := List.mem_of_getElem? hl
  have x : Ex J H J (upd H a o) := ⟨List.prefix_refl _, fun b u hb nb => ⟨by rw [upd_ne (fun z : b = a => nb (by rw [z]; exact hin))]; exact hb, nb⟩⟩
  refine ⟨⟨by rw [List.length_set]; exact s.len, s.nd, fun j b mo' h1 h2 => ?_⟩, x⟩
  by_cases hj : j = l
  · subst hj
    rw [hl] at h1
    cases h1
    have hlt : j < S.length := by rw [← s.len]; exact (List.getElem?_eq_some_iff.mp hl).1
    rw [List.getElem?_set_self hlt] at h2
    cases h2
    exact hm J _ x rfl rfl
  · rw [List.getElem?_set_ne (Ne.symm hj)] at h2
    refine (s.at_ j b mo' h1 h2).ex x ?_
    rw [upd_ne]
    intro z
    subst z
    exact hj ((List.getElem?_inj (List.getElem?_eq_some_iff.mp h1).1 s.nd).mp (h1.trans hl.symm))
def putO (x k v : D) (ρ : Rho) (S : Sto) : Out Fl := match x with
  | .loc l => match S[l]?, keyD k with
    | some (.dict kvs), some _ => if kvs.length < sizeLine then okO (.next ρ) (S.set l (.dict (putD kvs k v))) else none
    | _, _ => none
  | _ => none
def cPut (fo fi fv : Rho → Sto → Out D) : Rho → Sto → Out Fl := fun ρ S => bindO (fv ρ S) fun v S1 => bindO (fo ρ S1) fun x S2 => bindO (fi ρ S2) fun k S3 => putO x k v ρ S3
def tH (X : Cx) (W : WT) (ds : List D) (vs : List V) (g : Rho → Sto → Out Fl) : TS := fun E σ H => ∃ J ρ S r S', Cf X J ρ S σ H ∧ Ats X.K H J ds vs ∧ g ρ S = some (r, S') ∧ EndS X W J H r S' E
theorem tH.bindE {fa : Rho → Sto → Out D} {k : D → Rho → Sto → Out Fl} {ds : List D} {vs : List V} {E : Ends} {σ : St} {H : Hp}
    (h : tH X W ds vs (fun ρ S => bindO (fa ρ S) fun d S1 => k d ρ S1) E σ H) : tE X W fa σ H fun v H1 => ∃ d, tH X W (d :: ds) (v :: vs) (k d) E σ H1 := by
  obtain ⟨J, ρ, S, r, S', c, a, e, z⟩ := h
  cases q : fa ρ S with
  | none => simp [q] at e
  | some o =>
    obtain ⟨ro, S1⟩ := o
    simp only [q] at e
    cases ro with
    | error x =>
      cases e
      exact ⟨J, ρ, S, .error x, _, c, .nil, q, z⟩
    | ok d => exact ⟨J, ρ, S, .ok d, S1, c, .nil, q, fun J1 H1 v x s1 m => ⟨d, J1, ρ, S1, r, S', c.re x s1, .cons m (a.ex x), e, z.ex x⟩⟩
theorem kV_of {k : D} {y : Key} {K : PySem.W.Frag} {H : Hp} {J : List Addr} {v : V} (g : keyD k = some y) (a : At K H J k v) : v = kV y := by
  cases k with
  | int i => cases g; exact At.int_iff.mp a
  | str x => cases g; exact (At.str_iff.mp a).1
  | _ => cases g
theorem ss_put (hu : X.A.units + 1 < cLine) (ho : SE X W o fo) (hi : SE X W i fi) (hv : SE X W e fv) (hs : swapsWith e (some (.Subscript o i pos')) pos.line X.env = pure false := by rfl) : SS X W (.Assign [.Subscript o i pos'] e pos) (cPut fo fi fv) :=
  (ps_dput hu ho hi hv hs).imp fun E σ H h => by
    have h : tH X W [] [] (cPut fo fi fv) E σ H := let ⟨J, ρ, S, r, S', c, e, z⟩ := h; ⟨J, ρ, S, r, S', c, .nil, e, z⟩
    refine (tH.bindE h).mono fun v H1 ⟨dv, h1⟩ => (tH.bindE h1).mono fun x H2 ⟨dx, h2⟩ => (tH.bindE h2).mono fun y H3 ⟨dk, h3⟩ => ?_
    obtain ⟨J, ρ, S, r, S', c, m, e, z⟩ := h3
    obtain ⟨mk, m⟩ := m.uncons
    obtain ⟨mx, m⟩ := m.uncons
    obtain ⟨mv, _⟩ := m.uncons
    unfold putO at e
    cases dx with
    | loc l =>
      simp only at e
      split at e
      · rename_i kvs yk es ek
        split at e
        · rename_i lt
          cases e
          obtain ⟨a, rfl, ha⟩ := At.loc_iff.mp mx
          obtain ⟨ps, eh, rp⟩ := c.sto.at_ l a _ ha es
          have ey := kV_of ek mk
          subst ey
          have q := c.sto.update (o := .dK (putK ps yk v)) (mo := .dict (putD kvs dk dv)) ha fun J' H' x' eH eJ => by
            subst eH eJ
            refine ⟨_, upd_same, put_kv ek (mk.ex x') (mv.ex x') ?_⟩
            exact Paired.mapP rp fun p q z => ⟨⟨z.1.1, z.1.2.ex x'⟩, z.2.ex x'⟩
          exact ⟨a, _, rfl, DPut.k eh (by rw [← paired_len rp]; exact lt), z J σ _ q.2 (c.re q.2 q.1)⟩
        · cases e
      · cases e
    | _ => cases e
def dInO (neg : Bool) (k x : D) (S : Sto) : Option D := match x with
  | .loc l => match S[l]?, keyD k with
    | some (.dict kvs), some _ => some (.bl (if neg then !(getD kvs k).isSome else (getD kvs k).isSome))
    | _, _ => none
  | _ => none
def cDIn (neg : Bool) (fk fd : Rho → Sto → Out D) : Rho → Sto → Out D := fun ρ S => bindO (fk ρ S) fun k S1 => bindO (fd ρ S1) fun x S2 => valO (dInO neg k x S2) S2
theorem din_read {neg : Bool} {σ : St} {H : Hp} {Q : VK} (h : tE X W (cDIn neg fi fo) σ H Q) : tE X W fi σ H fun y H1 => tE X W fo σ H1 fun x H2 => ∃ a o, x = .ref a ∧ DGet H2 a y o ∧ Q (.bl (if neg then !o.isSome else o.isSome)) H2 :=
  (tG.bindE h).mono fun y H1 ⟨dk, h1⟩ => (tG.bindE h1).mono fun x H2 ⟨dx, h2⟩ => by
    obtain ⟨J, ρ, S, r, S', c, m, e, z⟩ := h2
    obtain ⟨mx, m⟩ := m.uncons
    obtain ⟨mk, _⟩ := m.uncons
    unfold dInO at e
    cases dx with
    | loc l =>
      simp only at e
      split at e
      · rename_i kvs yk es ek
        cases e
        obtain ⟨a, rfl, ha⟩ := At.loc_iff.mp mx
        obtain ⟨ps, eh, rp⟩ := c.sto.at_ l a _ ha es
        have ey := kV_of ek mk
        subst ey
        refine ⟨a, _, rfl, DGet.k eh, ?_⟩
        have q := z J H2 _ Ex.refl c.sto (At.bl_iff.mpr rfl)
        rcases get_kv ek rp with ⟨g1, g2⟩ | ⟨d, v, g1, g2, _⟩
        · rw [g1] at q; rw [g2]; exact q
        · rw [g1] at q; rw [g2]; exact q
      · cases e
    | _ => cases e
theorem se_din (hu : X.A.units + 1 < cLine) (hi : SE X W i fi) (ho : SE X W o fo) (hm : behindInMarks .In o = false := by with_unfolding_all rfl) : SE X W (.Compare i [.In] [o] pos) (cDIn false fi fo) :=
  (pe_cmp (pc_din hu hi ho) hm).imp fun σ H Q h => din_read (neg := false) h
theorem ts_din (hu : X.A.units + 1 < cLine) (hi : SE X W i fi) (ho : SE X W o fo) (hm : behindInMarks .In o = false := by with_unfolding_all rfl) : TS1 X W (.Compare i [.In] [o] pos) (cTst (cDIn false fi fo)) :=
  (pt_cmp (pc_din hu hi ho) hm).imp fun σ H Q h => tTest.mono (t := tDIn (tE X W fi) (tE X W fo)) (fun _ _ _ => din_read (neg := false)) (tst_read h)
def dGetO (x k : D) (S : Sto) : Option D := match x with
  | .loc l => match S[l]?, keyD k with
    | some (.dict kvs), some _ => getD kvs k
    | _, _ => none
  | _ => none
def cDGet (fd fk : Rho → Sto → Out D) : Rho → Sto → Out D := fun ρ S => bindO (fd ρ S) fun x S1 => bindO (fk ρ S1) fun k S2 => valO (dGetO x k S2) S2
theorem se_dget (hu : X.A.units + 1 < cLine) (ho : SE X W o fo) (hi : SE X W i fi) (hs : NoSl i) : SE X W (.Subscript o i pos) (cDGet fo fi) := (pe_dget hu ho hi hs).imp fun σ H Q h =>
  (tG.bindE h).mono fun x H1 ⟨dx, h1⟩ => (tG.bindE h1).mono fun y H2 ⟨dk, h2⟩ => by
    obtain ⟨J, ρ, S, r, S', c, m, e, z⟩ := h2
    obtain ⟨mk, m⟩ := m.uncons
    obtain ⟨mx, _⟩ := m.uncons
    unfold dGetO at e
    cases dx with
    | loc l =>
      simp only at e
      split at e
      · rename_i kvs yk es ek
        obtain ⟨a, rfl, ha⟩ := At.loc_iff.mp mx
        obtain ⟨ps, eh, rp⟩ := c.sto.at_ l a _ ha es
        have ey := kV_of ek mk
        subst ey
        rcases get_kv ek rp with ⟨g1, g2⟩ | ⟨d, v, g1, g2, av⟩
        · rw [g1] at e; cases e
        · rw [g1] at e
          cases e
          exact ⟨a, v, rfl, by rw [← g2]; exact DGet.k eh, z J H2 _ Ex.refl c.sto av⟩
      · cases e
    | _ => cases e
end
end L2
namespace L2
open PySem PySem.Spec PyProof.Rows PySem.W
section
variable {X : Cx} {W : WT}
theorem SE.either {e : Expr} {g g1 g2 : Rho → Sto → Out D} (h1 : SE X W e g1) (h2 : SE X W e g2) (h : ∀ ρ S, g ρ S = g1 ρ S ∨ g ρ S = g2 ρ S) : SE X W e g := fun pins s σ H Q I z => by
  obtain ⟨J, ρ, S, r, S', c, a, e, y⟩ := z
  rcases h ρ S with q | q
  · exact h1 pins s σ H Q I ⟨J, ρ, S, r, S', c, a, by rw [← q]; exact e, y⟩
  · exact h2 pins s σ H Q I ⟨J, ρ, S, r, S', c, a, by rw [← q]; exact e, y⟩
theorem TS1.either {e : Expr} {g g1 g2 : Rho → Sto → Out Bool} (h1 : TS1 X W e g1) (h2 : TS1 X W e g2) (h : ∀ ρ S, g ρ S = g1 ρ S ∨ g ρ S = g2 ρ S) : TS1 X W e g := fun pins s σ H Q I z => by
  obtain ⟨J, ρ, S, r, S', c, a, e, y⟩ := z
  rcases h ρ S with q | q
  · exact h1 pins s σ H Q I ⟨J, ρ, S, r, S', c, a, by rw [← q]; exact e, y⟩
  · exact h2 pins s σ H Q I ⟨J, ρ, S, r, S', c, a, by rw [← q]; exact e, y⟩
theorem SI.either {tg e : Expr} {g g1 g2 : Rho → Sto → Out (List D)} (h1 : SI X W tg e g1) (h2 : SI X W tg e g2) (h : ∀ ρ S, g ρ S = g1 ρ S ∨ g ρ S = g2 ρ S) : SI X W tg e g := fun pins s σ H R I z => by
  obtain ⟨J, ρ, S, r, S', c, e, y⟩ := z
  rcases h ρ S with q | q
  · exact h1 pins s σ H R I ⟨J, ρ, S, r, S', c, by rw [← q]; exact e, y⟩
  · exact h2 pins s σ H R I ⟨J, ρ, S, r, S', c, by rw [← q]; exact e, y⟩
theorem bind_either {α β : Type} (m : Out α) {k k1 k2 : α → Sto → Out β} (h : ∀ a S, k a S = k1 a S ∨ k a S = k2 a S) : bindO m k = bindO m k1 ∨ bindO m k = bindO m k2 := by
  cases m with
  | none => exact .inl rfl
  | some o =>
    obtain ⟨r, S⟩ := o
    cases r with
    | error c => exact .inl rfl
    | ok a => exact h a S
def isLoc : D → Bool
  | .loc _ => true
  | _ => false
def ixO (x i : D) (S : Sto) : Option D := if isLoc x = true then dGetO x i S else ixD x i
def cIx (fa fb : Rho → Sto → Out D) : Rho → Sto → Out D := fun ρ S => bindO (fa ρ S) fun x S1 => bindO (fb ρ S1) fun i S2 => valO (ixO x i S2) S2
variable {a b : Expr} {fa fb : Rho → Sto → Out D} {pos : Pos}
theorem se_ixA (hu : X.A.units + 1 < cLine) (ha : SE X W a fa) (hb : SE X W b fb) (hs : NoSl b := by exact fun _ _ => rfl) : SE X W (.Subscript a b pos) (cIx fa fb) :=
  SE.either (se_dget hu ha hb hs) (se_ix ixd ha hb hs) fun ρ S => bind_either _ fun x S1 => by
    by_cases h : isLoc x = true
    · refine .inl (congrArg (bindO (fb ρ S1)) (funext fun i => funext fun S2 => ?_)); unfold ixO; rw [if_pos h]
    · refine .inr (congrArg (bindO (fb ρ S1)) (funext fun i => funext fun S2 => ?_)); unfold ixO; rw [if_neg h]
def inO (neg : Bool) (k x : D) (S : Sto) : Option D := if isLoc x = true then dInO neg k x S else (if neg = true then notInD k x else inD k x)
def cIn (neg : Bool) (fk fd : Rho → Sto → Out D) : Rho → Sto → Out D := fun ρ S => bindO (fk ρ S) fun k S1 => bindO (fd ρ S1) fun x S2 => valO (inO neg k x S2) S2
theorem in_either (neg : Bool) (fk fd : Rho → Sto → Out D) (ρ : Rho) (S : Sto) : cIn neg fk fd ρ S = cDIn neg fk fd ρ S ∨ cIn neg fk fd ρ S = cBin (if neg = true then notInD else inD) fk fd ρ S := by
  unfold cIn cDIn cBin
  refine bind_either _ fun k S1 => bind_either _ fun x S2 => ?_
  unfold inO
  by_cases h : isLoc x = true
  · exact .inl (by rw [if_pos h])
  · refine .inr ?_
    rw [if_neg h]
    cases neg <;> rfl
variable (hu : X.A.units + 150 < cLine) (hu1 : X.A.units + 1 < cLine)
include hu hu1
theorem se_inA (hu2 : X.A.units + 151 < cLine) (ha : SE X W a fa) (hb : SE X W b fb) (hm : behindInMarks .In b = false := by with_unfolding_all rfl) : SE X W (.Compare a [.In] [b] pos) (cIn false fa fb) :=
  SE.either (se_din hu1 ha hb hm) (se_cmp (od_in hu2) ha hb hm) fun ρ S => in_either false fa fb ρ S
theorem tst_either {f f1 f2 : Rho → Sto → Out D} {ρ : Rho} {S : Sto} (h : f ρ S = f1 ρ S ∨ f ρ S = f2 ρ S) : cTst f ρ S = cTst f1 ρ S ∨ cTst f ρ S = cTst f2 ρ S := by
  unfold cTst
  rcases h with h | h
  · exact .inl (by rw [h])
  · exact .inr (by rw [h])
theorem ts_inA (hu2 : X.A.units + 151 < cLine) (ha : SE X W a fa) (hb : SE X W b fb) (hm : behindInMarks .In b = false := by with_unfolding_all rfl) : TS1 X W (.Compare a [.In] [b] pos) (cTst (cIn false fa fb)) :=
  TS1.either (ts_din hu1 ha hb hm) (ts_cmp (od_in hu2) ha hb hm) fun ρ S => tst_either hu hu1 (in_either false fa fb ρ S)
omit hu hu1
def seqItD : D → Option (List D)
  | .tup xs => some xs
  | .lst xs => some xs
  | .str x => some (x.cps.toList.map fun c => D.str ⟨#[c]⟩)
  | _ => none
def cSeqIt (f : Rho → Sto → Out D) : Rho → Sto → Out (List D) := fun ρ S => bindO (f ρ S) fun d S1 => valO (seqItD d) S1
theorem si_seq {tg : Expr} (ha : SE X W a fa) : SI X W tg a (cSeqIt fa) := by
  refine SI.either (g1 := cTupIt fa) (g2 := fun ρ S => bindO (fa ρ S) fun d S1 => valO (match d with | .lst xs => some xs | .str x => some (x.cps.toList.map fun c => D.str ⟨#[c]⟩) | _ => none) S1) (si_tup ha) (SI.either (si_lst ha) (si_str ha) fun ρ S => ?_) fun ρ S => ?_
  · unfold cLstIt cStrIt
    refine bind_either _ fun d S1 => ?_
    cases d <;> first | exact .inl rfl | exact .inr rfl
  · unfold cSeqIt cTupIt
    refine bind_either _ fun d S1 => ?_
    cases d <;> first | exact .inl rfl | exact .inr rfl
end
def runD (n m : Nat) (G : Rho → Sto → Out Fl) : List D → Sto → Out D := fun ds S => if ds.length = n then
    match G (ds.map some ++ List.replicate m none) S with
    | some (.ok (.ret d), S') => some (.ok d, S')
    | some (.ok (.next _), S') => some (.ok .non, S')
    | _ => none
  else none
def DefAt (K : PySem.W.Frag) (mg : Str → Option Value) (x : Str) (st : Stmt) (ps : List Str) : Prop := ∃ f fd, Fun K x x st f fd ∧ mg x = some (.ref f) ∧ Binds K fd ps []
def Cal (P : Program) (w : World) (K : PySem.W.Frag) (mg : Str → Option Value) (base : Heap) (k : Nat) (x : Str) (ps : List Str) (F : List D → Sto → Out D) : Prop :=
  ∃ f fd, FnD P w K mg base k f fd ps F ∧ mg x = some (.ref f) ∧ PySem.W.keepIn K (.ref f) = true ∧ Binds K fd ps []
section
variable {P : Program} {w : World} {K : PySem.W.Frag} {mg : Str → Option Value} {base : Heap}
theorem fn_of_body {x : Str} {st : Stmt} {sc : Scope} {N ps : List Str} {k : Nat} {G : Rho → Sto → Out Fl} {f : Addr} {fd : FuncData} (Fn : Fun K x x st f fd) (hsc : defScope st = sc) (Sc : FnScope N ps sc)
    (h : ∀ (f : Addr) (cdv : Value) (A : Around) (outer : List Env) (s : Shared) (H : Hp) (E : XK), Room k (A.deeper (envOfC x sc s.heap.objs.size f cdv)) → SSs (cxOf CX0 P w K mg base N x sc f cdv A outer s H E).nox W0 (defBody st) G) :
    FnD P w K mg base (k + 1) f fd ps (runD ps.length (N.length - ps.length) G) := by
  subst hsc
  refine fn_body Fn Sc (fun ds S r e => ?_) fun cdv A outer s H E hr => ⟨G, h f cdv A outer s H E hr, fun ds S d S' e => ?_⟩
  · unfold runD at e
    split at e
    · assumption
    · cases e
  · unfold runD at e
    split at e
    · rename_i hl
      rw [hl]
      split at e
      · rename_i d0 S0 q
        cases e
        exact ⟨_, q, .inl rfl⟩
      · rename_i ρ0 S0 q
        cases e
        exact ⟨_, q, .inr ⟨rfl, ρ0, rfl⟩⟩
      · cases e
    · cases e
theorem cal_of {x : Str} {st : Stmt} {sc : Scope} {N ps : List Str} {k : Nat} {G : Rho → Sto → Out Fl} (Dd : DefAt K mg x st ps) (hsc : defScope st = sc) (Sc : FnScope N ps sc)
    (h : ∀ (f : Addr) (cdv : Value) (A : Around) (outer : List Env) (s : Shared) (H : Hp) (E : XK), Room k (A.deeper (envOfC x sc s.heap.objs.size f cdv)) → SSs (cxOf CX0 P w K mg base N x sc f cdv A outer s H E).nox W0 (defBody st) G) :
    Cal P w K mg base (k + 1) x ps (runD ps.length (N.length - ps.length) G) := by
  obtain ⟨f, fd, Fn, hm, hb⟩ := Dd
  exact ⟨f, fd, fn_of_body Fn hsc Sc h, hm, Fn.kp, hb⟩
theorem cal_zero {x : Str} {st : Stmt} {ps : List Str} {k : Nat} (Dd : DefAt K mg x st ps) : Cal P w K mg base k x ps (fun _ _ => none) := by
  obtain ⟨f, fd, Fn, hm, hb⟩ := Dd
  have no : ∀ vs H Q E, ¬ spD K (fun _ _ => none) vs H Q E := fun vs H Q E h => by
    obtain ⟨J, S, ds, d, S', _, _, e, _⟩ := h
    cases e
  exact ⟨f, fd, ⟨fun vs H Q E h => absurd h (no vs H Q E), fun A outer s H args us vs Q E _ _ _ _ h => absurd h (no vs H Q E)⟩, hm, Fn.kp, hb⟩
theorem hu150 {A : Around} {k : Nat} (hr : Room k A) : A.units + 150 < cLine := by have := hr.un; omega
theorem hu151 {A : Around} {k : Nat} (hr : Room k A) : A.units + 151 < cLine := by have := hr.un; omega
end
section
variable {X : Cx} {W : WT} {x : Str} {p pos : Pos} {e : Expr} {es : List Expr} {gs : Rho → Sto → Out (List D)}
theorem se_cal {k : Nat} {ps : List Str} {F : List D → Sto → Out D} (C : Cal X.prog X.w X.K X.mg X.base k x ps F) (hr : Room k X.A)
    (ha : SA X W (e :: es) gs) (hg : Gl X x := by rfl) (hdb : (x == ("__debug__" : Str)) = false := by decide) (he : starEach (e :: es) X.env = (false, eval e X.env) :: starEach es X.env := by rfl) (hpl : (backTo pos (starEach es X.env)).any (·.1) = false := by rfl) :
    SE X W (.Call (.Name x p) (e :: es) [] pos) (cDef F gs) := by
  obtain ⟨f, fd, G, hm, hk, hb⟩ := C
  exact se_call G hr hm hk hb ha hg hdb he hpl
end
def spLaw (K : PySem.W.Frag) (n : Nat) : Sp := fun vs H Q _ => ∃ (a : Addr) (ns : List Int), vs = [.ref a] ∧ SqL K H a (ns.map V.int) ∧ ns.length ≤ n ∧ ∀ H', Q (.bl true) H'
theorem law_sp {P : Program} {w : World} {K : PySem.W.Frag} {mg : Str → Option Value} {base : Heap} {k n : Nat} {f : Addr} {fd : FuncData} {ps : List Str} {F : List D → Sto → Out D} (h : FnD P w K mg base k f fd ps F) (hn : n ≤ 1000)
    (hF : ∀ ns : List Int, ns.length ≤ n → ∃ S', F [.lst (ns.map .int)] [] = some (.ok (.bl true), S')) : FnOk P w K mg base CX0 k f fd ps (spLaw K n) := by
  refine FnOk.imp h fun vs H Q E ⟨a, ns, e, hS, hl, q⟩ => ?_
  subst e
  obtain ⟨S', eF⟩ := hF ns hl
  refine ⟨[], [], [.lst (ns.map .int)], .bl true, S', .cons (At.lst_iff.mpr ⟨a, ns.map V.int, rfl, ?_, Ats.ofInts ns⟩) .nil, ⟨rfl, .nil, fun l a o h => by simp at h⟩, eF, fun J' H' v _ _ m => ?_⟩
  · rcases hS with z | z
    · exact .inl ⟨z, by simp, by rw [List.length_map]; exact Nat.le_trans hl (Nat.le_trans hn (by decide))⟩
    · exact .inr z
  · rw [At.bl_iff.mp m]; exact q H'
theorem law_walk {l : PySem.W.OpenLaw} {q : Program} {loose : List Str} {XP : (Str → Option Value) → Heap → Prop} {YP : World → Heap → Prop} {d : DefRec} {K : Params → PySem.W.Frag} {k : Nat} {x : Str} (hn : l.most = some 63) (hdf : d.params.defaults = []) (hr : Room k callerA)
    (hY : ∀ (w : World) (h : Heap), YP w h → (K w.params).In h)
    (F : ∀ (w : World) (mg : Str → Option Value) (fa : Addr) (h : Heap), (K w.params).In h → h.Ns mainGlobals mg → mg d.name = some (.ref fa) →
      ∃ fd : FuncData, (∀ (s : Shared) (u : Value), BindsTo s fd ⟨[u], []⟩ [(x, u)]) ∧ ∀ base : Heap, (K w.params).In base → base.Ns mainGlobals mg → FnOk l.prog w (K w.params) mg base CX0 k fa fd [x] (spLaw (K w.params) 63)) :
    PySem.W.WalkO q loose XP YP l.row.toRowW d [] (fun f vs => PySem.call f vs) :=
  L2.walk_of (n := 63) (k := k) (x := x) (CX := fun _ => CX0) (sp := fun w => spLaw (K w.params) 63) hn (by decide) hdf hr hY F (fun _ _ a ns hl _ hS => ⟨a, ns, rfl, hS, hl, fun _ => rfl⟩) fun _ _ _ _ _ z => z
def TopAt (K : PySem.W.Frag) (mg : Str → Option Value) (x : Str) (d : D) : Prop := ∃ u, mg x = some u ∧ ConAt K u d
theorem se_top {X : Cx} {W : WT} {x : Str} {d : D} {pos : Pos} (h : TopAt X.K X.mg x d) (hg : Gl X x := by rfl) (hd : (x == ("__debug__" : Str)) = false := by decide) : SE X W (.Name x pos) (cCon d) := by
  obtain ⟨u, hm, ha⟩ := h
  exact se_glob hm ha hg hd
def conVal (u : Value) (d : D) : Bool := match u, d with
  | .int i _, .int j => decide (i = j)
  | .str x _, .str y => decide (x = y) && okB y
  | .none, .non => true
  | .bool b, .bl c => b == c
  | _, _ => false
def conVals : List Value → List D → Bool
  | [], [] => true
  | u :: us, d :: ds => conVal u d && conVals us ds
  | _, _ => false
def conObj (o : Obj) (d : D) : Bool := match d with
  | .tup ds => decide (o.cls = .type "tuple") && (match o.data with
    | .seq its _ => decide (its.size ≤ sizeLine) && conVals its.toList ds
    | _ => false)
  | _ => false
theorem conVal_at {K : PySem.W.Frag} {u : Value} {d : D} (h : conVal u d = true) : ConAt K u d := by
  unfold conVal at h
  split at h
  · rename_i i t j
    exact ⟨.int i, ⟨t, rfl⟩, fun _ _ => At.int_iff.mpr (by rw [of_decide_eq_true h])⟩
  · rename_i x t y
    rw [Bool.and_eq_true] at h
    exact ⟨.str x, ⟨t, rfl⟩, fun _ _ => At.str_iff.mpr ⟨by rw [of_decide_eq_true h.1], okB_S h.2⟩⟩
  · exact ⟨.non, rfl, fun _ _ => At.non_iff.mpr rfl⟩
  · rename_i b c
    exact ⟨.bl b, rfl, fun _ _ => At.bl_iff.mpr (by rw [eq_of_beq h])⟩
  · cases h
theorem conVals_at {K : PySem.W.Frag} : ∀ {us : List Value} {ds : List D}, conVals us ds = true → ∃ vs, Vals vs us ∧ ∀ H J, Ats K H J ds vs
  | [], [], _ => ⟨[], .nil, fun _ _ => .nil⟩
  | u :: us, d :: ds, h => by
    rw [conVals, Bool.and_eq_true] at h
    obtain ⟨v, r, a⟩ := conVal_at (K := K) h.1
    obtain ⟨vs, rs, as⟩ := conVals_at (K := K) h.2
    exact ⟨v :: vs, .cons r rs, fun H J => .cons (a H J) (as H J)⟩
  | [], _ :: _, h => by cases h
  | _ :: _, [], h => by cases h
theorem con_val {K : PySem.W.Frag} {u : Value} {d : D} (h : conVal u d = true) : ConAt K u d := conVal_at h
theorem con_obj {K : PySem.W.Frag} {a : Addr} {o : Obj} {d : D} (l : K.lookup a = some o) (h : conObj o d = true) : ConAt K (.ref a) d := by
  unfold conObj at h
  split at h
  · rename_i ds
    rw [Bool.and_eq_true] at h
    obtain ⟨h1, h2⟩ := h
    split at h2
    · rename_i its n hd
      rw [Bool.and_eq_true] at h2
      obtain ⟨vs, rs, as⟩ := conVals_at (K := K) h2.2
      exact ⟨.ref a, rfl, fun H J => At.tup_iff.mpr ⟨a, vs, rfl, .inr ⟨o, its, n, l, of_decide_eq_true h1, hd, of_decide_eq_true h2.1, rs⟩, as H J⟩⟩
    · cases h2
  · cases h
theorem bb_len : bootBuiltins "len" = some (.builtin "len") := by decide +kernel
theorem bb_tuple : bootBuiltins "tuple" = some (.type "tuple") := by decide +kernel
theorem bb_list : bootBuiltins "list" = some (.type "list") := by decide +kernel
theorem bb_int : bootBuiltins "int" = some (.type "int") := by decide +kernel
theorem bb_str : bootBuiltins "str" = some (.type "str") := by decide +kernel
theorem bb_bool : bootBuiltins "bool" = some (.type "bool") := by decide +kernel
theorem bb_set : bootBuiltins "set" = some (.type "set") := by decide +kernel
theorem bb_max : bootBuiltins "max" = some (.builtin "max") := by decide +kernel
theorem bb_min : bootBuiltins "min" = some (.builtin "min") := by decide +kernel
theorem bb_all : bootBuiltins "all" = some (.builtin "all") := by decide +kernel
theorem bb_sorted : bootBuiltins "sorted" = some (.builtin "sorted") := by decide +kernel
end L2
namespace L2
open PySem
section
variable {prog : Program} {w : World} {K : Type} [DecidableEq K]
abbrev MemE (knd : KeyKind prog w K) : K → Int × Value → Prop := fun k e => knd.is k e.2 = true ∧ e.1 = knd.hash k ∧ e.2.scannable = true
def SetK (knd : KeyKind prog w K) (pk : K → Bool) (led : Bool) (h : Heap) (a : Addr) (ks : List K) : Prop :=
  ∃ o es ep t, h.get? a = some o ∧ o.ExactSet ∧ o.data = .set es ep t ∧ (∃ l : List (Int × Value), l.Perm es.toList ∧ Paired (MemE knd) ks l) ∧
    es.size < scanBound ∧ t.fits es.size = true ∧ t.led = led ∧ (t.plain = true → ∀ k ∈ ks, pk k = true)
theorem paired_mem {α β : Type} {F : α → β → Prop} {l : List α} {m : List β} (r : Paired F l m) : ∀ b ∈ m, ∃ a ∈ l, F a b := by
  induction r with
  | nil => intro b hb; cases hb
  | cons f t ih =>
    intro b hb
    rcases List.mem_cons.mp hb with rfl | hb
    · exact ⟨_, List.mem_cons_self .., f⟩
    · obtain ⟨a, ha, hf⟩ := ih b hb; exact ⟨a, List.mem_cons_of_mem _ ha, hf⟩
theorem paired_mem' {α β : Type} {F : α → β → Prop} {l : List α} {m : List β} (r : Paired F l m) : ∀ a ∈ l, ∃ b ∈ m, F a b := by
  induction r with
  | nil => intro b hb; cases hb
  | cons f t ih =>
    intro b hb
    rcases List.mem_cons.mp hb with rfl | hb
    · exact ⟨_, List.mem_cons_self .., f⟩
    · obtain ⟨a, ha, hf⟩ := ih b hb; exact ⟨a, List.mem_cons_of_mem _ ha, hf⟩
theorem paired_snoc {α β : Type} {F : α → β → Prop} {l : List α} {m : List β} (r : Paired F l m) {a : α} {b : β} (f : F a b) : Paired F (l ++ [a]) (m ++ [b]) := by
  induction r with
  | nil => exact .cons f .nil
  | cons g t ih => exact .cons g ih
theorem paired_len' {α β : Type} {F : α → β → Prop} {l : List α} {m : List β} (r : Paired F l m) : l.length = m.length := by
  induction r with
  | nil => rfl
  | cons g t ih => simp [ih]
variable {knd : KeyKind prog w K} {pk : K → Bool} {led : Bool}
theorem orStandIn_led (t : SetTable) (n : Nat) : (t.orStandIn n).led = t.led ∧ ((t.orStandIn n).plain = true → t.plain = true) := by
  unfold SetTable.orStandIn
  split
  · exact ⟨rfl, id⟩
  · exact ⟨rfl, fun z => by simp [SetTable.standIn] at z⟩
theorem layNew_led (t : SetTable) (es : Array (Int × Value)) (h : Int) (x : Value) : (layNew t es h x).2.1.led = t.led ∧ ((layNew t es h x).2.1.plain = true → t.plain = true) := by
  unfold layNew
  split
  · rename_i slot wd _
    exact orStandIn_led (t.put slot).1 _
  · exact ⟨rfl, fun z => by simp [SetTable.standIn] at z⟩
theorem relaid_led {t t' : SetTable} {hs : Array Int} {n : Nat} {order : Array Nat} (h : t.relaid hs n = some (t', order)) : t'.led = t.led ∧ t'.plain = t.plain := by
  unfold SetTable.relaid SetTable.laid at h
  cases hc : SetTable.layClean (SetTable.sizeAbove n - 1) hs with
  | none => simp [hc] at h
  | some o =>
    simp only [hc, Option.bind_eq_bind, Option.bind_some, Option.pure_def, Option.some.injEq, Prod.mk.injEq] at h
    obtain ⟨rfl, _⟩ := h
    exact ⟨rfl, rfl⟩
theorem relayAll_led (t : SetTable) (es : Array (Int × Value)) (n : Nat) : (relayAll t es n).2.1.led = t.led ∧ ((relayAll t es n).2.1.plain = true → t.plain = true) := by
  unfold relayAll
  split
  · rename_i t' order e
    obtain ⟨h1, h2⟩ := relaid_led e
    dsimp only
    split
    · exact ⟨h1, fun z => by rw [← h2]; exact z⟩
    · exact ⟨rfl, fun z => by simp [SetTable.standIn] at z⟩
  · exact ⟨rfl, fun z => by simp [SetTable.standIn] at z⟩
theorem SetK.elems {h : Heap} {a : Addr} {ks : List K} {es : Array (Int × Value)} (hl : ∃ l : List (Int × Value), l.Perm es.toList ∧ Paired (MemE knd) ks l) : ElemsOf knd es.toList := fun e he => by
  obtain ⟨l, p, r⟩ := hl
  obtain ⟨k, _, h1, h2, h3⟩ := paired_mem r e (p.mem_iff.mpr he)
  exact ⟨⟨k, h1, h2⟩, h3⟩
theorem SetK.mem {ks : List K} {es : Array (Int × Value)} (hl : ∃ l : List (Int × Value), l.Perm es.toList ∧ Paired (MemE knd) ks l) (k : K) : k ∈ ks ↔ ∃ e ∈ es.toList, knd.is k e.2 = true := by
  obtain ⟨l, p, r⟩ := hl
  constructor
  · intro hk
    obtain ⟨e, he, h1, _⟩ := paired_mem' r k hk
    exact ⟨e, p.mem_iff.mp he, h1⟩
  · rintro ⟨e, he, h1⟩
    obtain ⟨k', hk', h2, _⟩ := paired_mem r e (p.mem_iff.mpr he)
    rw [knd.inj e.2 k k' h1 h2]; exact hk'
def insK (ks : List K) (k : K) : List K := if k ∈ ks then ks else ks ++ [k]
variable {A : Around} {E : Value → Shared → Prop} {s : Shared}
theorem SetK.stored {h : Heap} {a : Addr} {o : Obj} {es : Array (Int × Value)} {ep : Nat} {t : SetTable} (ho : h.get? a = some o) (hex : o.ExactSet) (hd : o.data = .set es ep t) {es' : Array (Int × Value)} {t' : SetTable} {ks : List K}
    (hl : ∃ l : List (Int × Value), l.Perm es'.toList ∧ Paired (MemE knd) ks l) (hb : es'.size < scanBound) (hf : t'.fits es'.size = true) (hled : t'.led = led) (hp : t'.plain = true → ∀ k ∈ ks, pk k = true) :
    (h.update a (Obj.putSet es' t')).get? a = some { o with data := .set es' (ep + 1) t' } ∧ SetK knd pk led (h.update a (Obj.putSet es' t')) a ks := by
  have g : (h.update a (Obj.putSet es' t')).get? a = some { o with data := .set es' (ep + 1) t' } := by
    have q := Heap.get?_update_self (Obj.putSet es' t') ho (by rw [putSet_of es' t' hd]; rfl)
    rw [putSet_of es' t' hd] at q; exact q
  exact ⟨g, _, es', ep + 1, t', g, hex, rfl, hl, hb, hf, hled, hp⟩
theorem gave_way (b : Bool) {s₁ : Shared} {Q' : Unit → Shared → Prop} (hq : Q' () s₁) : wpAny (model prog w) A (match b with | true => rule "set.scan.the-table-gave-way" | false => pure ()) Q' E s₁ := by
  cases b
  · exact wpAny_pure hq
  · exact wpAny_rule hq
theorem set_put {g : Bool → Sem Unit} (hg : ∀ (b : Bool) (s₁ : Shared) (Q' : Unit → Shared → Prop), Q' () s₁ → wpAny (model prog w) A (g b) Q' E s₁)
    {a : Addr} {o : Obj} {es : Array (Int × Value)} {ep : Nat} {t : SetTable} (ho : s.heap.get? a = some o) (hex : o.ExactSet) (hd : o.data = .set es ep t)
    {es1 : Array (Int × Value)} {t2 : SetTable} {ks : List K} (hl : ∃ l : List (Int × Value), l.Perm es1.toList ∧ Paired (MemE knd) ks l)
    (hb : es1.size < scanBound) (hf : t2.fits es1.size = true) (hled : t2.led = led) (hp : t2.plain = true → ∀ k ∈ ks, pk k = true) {wasDummy : Bool} {R : Option Bool → Shared → Prop}
    (h : ∀ h', Heap.SameBut a s.heap h' → SetK knd pk led h' a ks → R (some true) { s with heap := h' }) :
    wpAny (model prog w) A (do
        storeSet a es1 t2
        if (!wasDummy && t2.tooFull) = true then do
            g (relayAll t2 es1 (SetTable.grown es1.size)).2.2
            storeSet a (relayAll t2 es1 (SetTable.grown es1.size)).1 (relayAll t2 es1 (SetTable.grown es1.size)).2.1
            pure (some true)
          else pure (some true)) R E s := by
  obtain ⟨ho1, hS1⟩ := SetK.stored (knd := knd) (pk := pk) ho hex hd hl hb hf hled hp
  refine wpAny_bind (wpAny_storeSet_of ho hd ?_ (fits_of_scanBound hb))
  have sb := Heap.SameBut.update s.heap a (Obj.putSet es1 t2)
  split
  · have q1 := relayAll_perm t2 es1 (SetTable.grown es1.size)
    have q2 := relayAll_fits t2 es1 (SetTable.grown es1.size)
    have q3 := relayAll_led t2 es1 (SetTable.grown es1.size)
    revert q1 q2 q3
    generalize relayAll t2 es1 (SetTable.grown es1.size) = Y
    intro q1 q2 q3
    obtain ⟨es2, t3, gv⟩ := Y
    simp only at q1 q2 q3 ⊢
    have z : es2.size = es1.size := by have := q1.length_eq; simpa using this
    obtain ⟨l, p, r⟩ := hl
    have b2 : es2.size < scanBound := by rw [z]; exact hb
    obtain ⟨_, hS2⟩ := SetK.stored (knd := knd) (pk := pk) (led := led) ho1 hex rfl ⟨l, p.trans q1.symm, r⟩ b2 q2 (q3.1.trans hled) fun y => hp (q3.2 y)
    exact wpAny_bind (hg _ _ _ (wpAny_bind (wpAny_storeSet_of ho1 rfl (wpAny_pure (h _ (sb.trans (Heap.SameBut.update _ a _)) hS2)) (fits_of_scanBound b2))))
  · exact wpAny_pure (h _ sb hS1)
theorem set_add {a : Addr} {ks : List K} {k : K} {x : Value} {Q : Bool → Shared → Prop} (hpk : plainKind x = pk k) (hkey : knd.is k x = true) (hsc : x.scannable = true) (hS : SetK knd pk led s.heap a ks) (hroom : ks.length + 1 < scanBound)
    (h : ∀ b h', Heap.SameBut a s.heap h' → SetK knd pk led h' a (insK ks k) → Q b { s with heap := h' }) : wpAny (model prog w) A (setAddHashed a x (knd.hash k)) Q E s := by
  obtain ⟨o, es, ep, t, ho, hex, hd, hl, hb, hf, hled, hp⟩ := hS
  have hel := SetK.elems (h := s.heap) (a := a) hl
  have hn : es.size = ks.length := by
    obtain ⟨l, p, r⟩ := hl
    have e1 := p.length_eq
    have e2 := paired_len' r
    simp only [Array.length_toList] at e1
    omega
  unfold setAddHashed setAddHashedIn
  refine wpAny_holding (wpAny_bind (wpAny_setState_of ho hd hf ?_))
  simp only
  rw [byScan_of hsc hb hel, if_pos rfl]
  unfold setAddByScan
  refine wpAny_bind (wpAny_bind (wpAny_rule (wpAny_bind (wpAny_setScan_of hkey ho hd hf hel ?_))))
  cases hr : List.findIdx? (fun e => knd.is k e.2) es.toList with
  | some j =>
    obtain ⟨hj, hpj, _⟩ := List.findIdx?_eq_some_iff_getElem.mp hr
    have hin : k ∈ ks := (SetK.mem hl k).mpr ⟨es.toList[j], List.getElem_mem hj, hpj⟩
    refine wpAny_pure (wpAny_pure ?_)
    exact h _ s.heap (Heap.SameBut.refl a s.heap) ⟨o, es, ep, t, ho, hex, hd, by unfold insK; rw [if_pos hin]; exact hl, hb, hf, hled, by unfold insK; rw [if_pos hin]; exact hp⟩
  | none =>
    have hout : k ∉ ks := fun hk => by
      obtain ⟨e, he, hp⟩ := (SetK.mem hl k).mp hk
      have q := List.findIdx?_eq_none_iff.mp hr e he
      rw [hp] at q; cases q
    have ek : insK ks k = ks ++ [k] := by unfold insK; rw [if_neg hout]
    rw [ek] at h
    have q1 := layNew_perm t es (knd.hash k) x
    have q2 := layNew_fits t es (knd.hash k) x
    have q3 := layNew_led t es (knd.hash k) x
    dsimp only
    revert q1 q2 q3
    generalize layNew t es (knd.hash k) x = Y
    intro q1 q2 q3
    obtain ⟨es1, t1, wd, gv⟩ := Y
    simp only at q1 q2 q3 ⊢
    rw [Array.toList_push] at q1
    have hl1 : ∃ l : List (Int × Value), l.Perm es1.toList ∧ Paired (MemE knd) (ks ++ [k]) l := by
      obtain ⟨l, p, r⟩ := hl
      exact ⟨l ++ [(knd.hash k, x)], (p.append_right _).trans q1.symm, paired_snoc r ⟨hkey, rfl, hsc⟩⟩
    have hb1 : es1.size < scanBound := by
      have := q1.length_eq
      simp only [Array.length_toList, List.length_append, List.length_singleton] at this
      omega
    refine wpAny_bind (gave_way gv ?_)
    split
    · rename_i hpl
      refine wpAny_bind ?_
      rw [hashByValue_scannable 8 hsc]
      refine wpAny_pure ?_
      refine set_put (pk := pk) (led := led) (fun b s₁ Q' hq => gave_way b hq) ho hex hd hl1 hb1 ?_ ?_ ?_ fun h' sb hS' => ?_
      · split
        · exact q2
        · exact SetTable.fits_plain_off q2
      · split
        · exact q3.1.trans hled
        · exact q3.1.trans hled
      · split
        · rename_i hv
          intro hpl2 k' hk'
          rcases List.mem_append.mp hk' with hk' | hk'
          · exact hp (q3.2 hpl2) k' hk'
          · rw [List.mem_singleton.mp hk', ← hpk]; exact hv
        · intro z; cases z
      · exact wpAny_pure (h _ h' sb hS')
    · rename_i hpl
      refine wpAny_bind (wpAny_pure ?_)
      rw [if_pos rfl]
      refine set_put (pk := pk) (led := led) (fun b s₁ Q' hq => gave_way b hq) ho hex hd hl1 hb1 q2 (q3.1.trans hled) (fun z => absurd z hpl) fun h' sb hS' => ?_
      exact wpAny_pure (h _ h' sb hS')
end
end L2
namespace L2
open PySem
namespace SF
theorem ent_loop : entryFor table "set.update.loop" = some Builtin.«set.update.loop» := entryFor_of_tree (by kernel_rfl)
theorem pl_loop : plainId "set.update.loop" = true := by decide +kernel
theorem tcall (a : Value) : checkTypeCall "set" ⟨[a], []⟩ = pure () := by kernel_rfl
theorem ncall (a : Value) : checkBuiltinCall "set.__new__" ⟨[.type "set", a], []⟩ = pure () := by kernel_rfl
theorem ent_iter : entryFor table "set.__iter__" = some Builtin.«frozenset.__iter__» := entryFor_alias (id' := "frozenset.__iter__") (by kernel_rfl) rfl (by decide +kernel) (by kernel_rfl)
theorem slot_next : Slot "set_iterator" "__next__" "set_iterator.__next__" :=
  .of (owner := "set_iterator") (n := "__next__") (by rw [typeLookup_type, builtinLookup_eq_fast]; kernel_rfl) (by decide +kernel) (by decide +kernel) (by decide +kernel)
    (by first | exact .inl (by decide +kernel) | exact .inr (by decide +kernel)) (by rw [isSubtype_type]; kernel_rfl)
theorem slot_self : Slot "set_iterator" "__iter__" "set_iterator.__iter__" :=
  .of (owner := "set_iterator") (n := "__iter__") (by rw [typeLookup_type, builtinLookup_eq_fast]; kernel_rfl) (by decide +kernel) (by decide +kernel) (by decide +kernel)
    (by first | exact .inl (by decide +kernel) | exact .inr (by decide +kernel)) (by rw [isSubtype_type]; kernel_rfl)
theorem ent_next : entryFor table "set_iterator.__next__" = some Builtin.«set_iterator.__next__» := entryFor_of_tree (by kernel_rfl)
theorem own_it : Manifest.owners.lookup (String.ofList ['r', 'o', 't', 'a', 'r', 'e', 't', 'i', '_', 't', 'e', 's'].reverse) = some Manifest.sig_set_iterator := by kernel_rfl
theorem args_next (a : Value) : argsOk "set_iterator.__next__" ⟨[a], []⟩ := by
  unfold argsOk; rw [signature?_of (id := "set_iterator.__next__") (n := ['_', '_', 't', 'x', 'e', 'n', '_', '_']) (o := ['r', 'o', 't', 'a', 'r', 'e', 't', 'i', '_', 't', 'e', 's']) (by kernel_rfl) own_it]; kernel_rfl
end SF
section
variable {prog : Program} {w : World} {K : Type} [DecidableEq K] {knd : KeyKind prog w K} {pk : K → Bool} {led : Bool}
def met (val : Nat → K) (i : Nat) : List K := ((List.range i).map val).foldl insK []
theorem met_succ (val : Nat → K) (i : Nat) : met val (i + 1) = insK (met val i) (val i) := by
  unfold met; rw [List.range_succ, List.map_append, List.foldl_append]; rfl
theorem met_len (val : Nat → K) : ∀ i, (met val i).length ≤ i
  | 0 => Nat.le_refl _
  | i + 1 => by
    have ih := met_len val i
    rw [met_succ]; unfold insK
    split
    · omega
    · rw [List.length_append, List.length_singleton]; omega
section
variable {A : Around} {R : Result → Shared → Prop} {I : Addr} {fp wr : List Addr} {G : Array GenState → Array GenState → Prop} {n : Nat} {P : Nat → Value → Prop} {St : Nat → Shared → Prop}
theorem SetK.keep {h h' : Heap} {a : Addr} {ks : List K} (x : SetK knd pk led h a ks) (e : ∀ o, h.get? a = some o → h'.get? a = some o) : SetK knd pk led h' a ks := by
  obtain ⟨o, es, ep, t, ho, r⟩ := x
  exact ⟨o, es, ep, t, e o ho, r⟩
theorem set_loop (W : WalksS prog w A.in1 I fp wr G n P St) (S : Addr) (hSf : S ∉ fp) (val : Nat → K) (hval : ∀ i v, P i v → knd.is (val i) v = true ∧ v.scannable = true ∧ plainKind v = pk (val i)) (hb : n + 1 < scanBound) :
    ∀ (k i : Nat) (s : Shared), n - i = k → i ≤ n → St i s → SetK knd pk led s.heap S (met val i) →
      (∀ s', Moved (S :: wr) G s s' → SetK knd pk led s'.heap S (met val n) → R (.ok (.ret .none)) s') →
      codeAny (model prog w) A (.builtin "set.update.loop" ⟨[.ref S, .ref I], []⟩) R s := by
  have hSw : S ∉ wr := fun h => hSf (W.sub _ h)
  intro k
  induction k with
  | zero =>
    intro i s hk hi st hS hR
    obtain rfl : i = n := by omega
    refine codeAny_builtin SF.ent_loop ?_
    rw [Around.under_plainId SF.pl_loop _]
    show wpAny _ A.in1 (pyNext (.ref I) >>= _) _ _ s
    refine wpAny_bind (W.done s _ _ st fun s' hm => ?_)
    show wpAny _ A.in1 (ret Value.none) _ _ s'
    exact wpAny_pure (hR s' (hm.mono fun b hb => List.mem_cons_of_mem _ hb) (hS.keep fun o e => hm.heap S o hSw e))
  | succ k ih =>
    intro i s hk hi st hS hR
    have hlt : i < n := by omega
    refine codeAny_builtin SF.ent_loop ?_
    rw [Around.under_plainId SF.pl_loop _]
    show wpAny _ A.in1 (pyNext (.ref I) >>= _) _ _ s
    refine wpAny_bind (W.item i s _ _ hlt st fun v s' hP st' hm => ?_)
    obtain ⟨v1, v2, v3⟩ := hval i v hP
    show wpAny _ A.in1 (holding [v] (setAdd S v) >>= _) _ _ s'
    refine wpAny_bind (wpAny_holding ?_)
    unfold setAdd
    refine wpAny_holding (wpAny_bind (knd.pyHash v1 ?_))
    have hr : (met val i).length + 1 < scanBound := by have := met_len val i; omega
    refine set_add (pk := pk) (led := led) (s := { s' with toks := s'.toks + 1 }) v3 v1 v2 (hS.keep fun o e => hm.heap S o hSw e) hr fun b h' sb hS2 => ?_
    rw [← met_succ] at hS2
    refine wpAny_pure ⟨plainId_quiet SF.pl_loop _, ih (i + 1) _ (by omega) hlt (W.frame _ s' _ _ st' (Nat.le_succ _) fun b hb o e => ?_) hS2 fun s'' hm2 hS3 => ?_⟩
    · rw [sb.2 b (fun z => hSf (z ▸ hb))]; exact e
    · refine hR s'' (Moved.trans W.gtrans ((hm.mono fun b hb => List.mem_cons_of_mem _ hb).then_heap (Nat.le_succ _) fun b o nb e => ?_) hm2) hS3
      rw [sb.2 b (fun z => nb (z ▸ List.mem_cons_self))]; exact e
end
section
variable {A : Around} {E : Value → Shared → Prop} {s : Shared}
def byT (w : World) : Bool := w.params.followText "set-order"
abbrev set0 (w : World) : Obj := { cls := .type "set", dict := none, data := .set #[] 0 (.fresh 0 0 (!byT w)) }
theorem set_new1 (a : Value) {Q₁ : Value → Shared → Prop} (h : Q₁ (.ref s.heap.objs.size) { s with heap := s.heap.push (set0 w) }) :
    codeAny (model prog w) A (.call (.builtin "set.__new__") ⟨[.type "set", a], []⟩) (wants Q₁ E) s := by
  refine codeAny_of_tree ?_
  show wpAny _ A.in1 (do checkBuiltinCall "set.__new__" ⟨[.type "set", a], []⟩; again (.builtin "set.__new__" ⟨[.type "set", a], []⟩)) _ _ s
  refine wpAny_bind (wpAny_of_eq (SF.ncall a) (wpAny_pure ⟨plainId_quiet F.plain_set_new _, codeAny_builtin F.entry_set_new ?_⟩))
  rw [Around.under_plainId F.plain_set_new _]
  unfold Builtin.«set.__new__» Builtin.Frozenset.newClass
  have q := sub_set_self
  obtain ⟨hp, g, d, tk, os⟩ := s
  dsimp only
  wp_walk
  refine wpAny_askSetting (wpAny_pure ?_)
  simp only [newObj]
  exact wpAny_bind (wpAny_alloc (wpAny_pure (wpAny_pure h)))
theorem set_init1 {M : Model} {self a : Value} {Q : Unit → Shared → Prop} (hT : s.TypeIs self "set") (hQ : Q () s) : wpAny M A (checkBuiltinCall "set.__init__" ⟨[self, a], []⟩) Q E s := by
  simp only [checkBuiltinCall, kind_set_init, split_set_init, sig_set_init]
  refine wpAny_bind (wpAny_isInstance hT sub_set_self ?_)
  simp only [Bool.not_true, Bool.false_eq_true, if_false]
  unfold Bind.checkArgs
  dsimp only
  refine wpAny_bind (m := Bind.printed "set" true _ _) (PyProof.Rows.printed_name (by decide) ?_)
  refine wpAny_bind (m := Bind.printed "*" false _ _) (PyProof.Rows.printed_star (self := self) rfl hT fun short => ?_)
  have e1 : (Manifest.Receiver.self == Manifest.Receiver.none) = false := by decide
  have e2 : (if (Manifest.Receiver.self == Manifest.Receiver.none) = true then [self, a].length else [self, a].length - 1) = 1 := by simp [e1]
  rw [e2]
  simp only [List.map_nil]
  have k1 : (Manifest.ParamKind.posOnly == Manifest.ParamKind.posOnly) = true := by decide
  have k2 : (Manifest.ParamKind.posOnly == Manifest.ParamKind.posOrKw) = false := by decide
  have k3 : (Manifest.ParamKind.posOnly == Manifest.ParamKind.varPos) = false := by decide
  have e3 : Bind.check ⟨.positional, "set", "*", .self, [⟨"iterable", .posOnly, false⟩]⟩ "set" short 1 [] = pure () := by
    simp [Bind.check, Bind.checkCount, Bind.isPositional, k1, k2, k3]
  rw [e3]
  exact wpAny_pure hQ
theorem SetK.start {h : Heap} {a : Addr} (e : h.get? a = some (set0 w)) : SetK knd pk (!byT w) h a [] :=
  ⟨set0 w, #[], 0, .fresh 0 0 (!byT w), e, ⟨rfl, rfl, rfl⟩, rfl, ⟨[], .refl _, .nil⟩, by decide, by rfl, rfl, fun _ k hk => by cases hk⟩
set_option maxHeartbeats 3200000 in
theorem call_set_tup {l : Addr} {items : Array Value} {Q : Value → Shared → Prop} (hh : A.handled = none) (hl : s.heap.IsTuple l items) (val : Nat → K) (hval : ∀ (i : Nat) v, items[i]? = some v → knd.is (val i) v = true ∧ v.scannable = true ∧ plainKind v = pk (val i))
    (hb : items.size + 1 < scanBound)
    (h : ∀ (h' : Heap) (tk : Nat), SetK knd pk (!byT w) h' s.heap.objs.size (met val items.size) → (∀ b o, b < s.heap.objs.size → s.heap.get? b = some o → h'.get? b = some o) → Q (.ref s.heap.objs.size) { s with heap := h', toks := tk }) :
    wpAny (model prog w) A (call (.type "set") [.ref l]) Q E s := by
  obtain ⟨c, tl, hmro⟩ := F.called_set.mro
  have c1 := F.called_set.made
  have c2 := F.called_set.sub
  refine wpAny_call (codeAny_of_tree ?_)
  show wpAny _ _ (callAny (.type "set") _) _ _ _
  refine wpAny_pure ⟨Code.quiet_builtin _ (by decide +kernel), codeAny_builtin F.entry_type_call ?_⟩
  rw [Around.under_plain (weight_type_call_type "set" [.ref l] []) rfl]
  have c3 := F.called_set.notType
  have c4 := F.called_set.canCreate
  have c5 := SF.tcall (.ref l)
  repeat (any_goals (first | assumption | wp_step))
  refine codeAny_mono (set_new1 (.ref l) (E := E) (Q₁ := fun obj s₁ => obj = .ref s.heap.objs.size ∧ s₁ = { s with heap := s.heap.push (set0 w) }) ⟨rfl, rfl⟩) fun r s₁ hr => ?_
  cases r with
  | error e => exact hr
  | ok fl =>
    cases fl with
    | ret obj =>
      obtain ⟨rfl, rfl⟩ := hr
      have hS : (s.heap.push (set0 w)).get? s.heap.objs.size = some (set0 w) := Heap.get?_push_size _ rfl
      have hT : Shared.TypeIs { s with heap := s.heap.push (set0 w) } (.ref s.heap.objs.size) "set" := ⟨_, hS, rfl⟩
      have i1 := F.called_set.init.lookup
      have i2 := F.called_set.init.bind (.ref s.heap.objs.size)
      repeat (any_goals (first | assumption | wp_step))
      refine codeAny_mono (codeAny_call_builtin (R := wants (fun r s₂ => r = .none ∧ ∃ h' tk, s₂ = { s with heap := h', toks := tk } ∧ SetK knd pk (!byT w) h' s.heap.objs.size (met val items.size) ∧
          (∀ b o, b < s.heap.objs.size → s.heap.get? b = some o → h'.get? b = some o)) E) F.called_set.init.plain F.entry_set_init (set_init1 hT ?_)) fun r₂ s₂ hr₂ => ?_
      · obtain ⟨⟨ocls, odict, odata, oslots⟩, hol, hcl, nl, hdl⟩ := id hl
        simp only at hcl hdl
        subst hcl hdl
        have hol' := Heap.get?_push_of_some (set0 w) hol
        have t1 := F.sub_tuple_set
        have t2 := F.sub_tuple_frozenset
        have t3 : (Value.type "tuple" == Value.type "dict") = false := by decide
        have hl1 : (s.heap.push (set0 w)).IsTuple l items := ⟨_, hol', rfl, nl, rfl⟩
        unfold Builtin.«set.__init__» noKeywords Builtin.Frozenset.updateFrom
        generalize hPI : pyIter = PI
        wp_walk
        subst hPI
        refine wpAny_pyIter_tuple hl1 ?_
        refine wpAny_bind (wpAny_runValue ?_)
        have hlS : l < s.heap.objs.size := Heap.lt_size hol
        have z1 : (s.heap.push (set0 w)).objs.size = s.heap.objs.size + 1 := Heap.size_push ..
        have hneI : l ≠ (s.heap.push (set0 w)).objs.size := by rw [z1]; exact Nat.ne_of_lt (Nat.lt_succ_of_lt hlS)
        have hSf : s.heap.objs.size ∉ [(s.heap.push (set0 w)).objs.size, l] := by
          rw [z1]; intro hm
          rcases List.mem_cons.mp hm with e | hm
          · exact Nat.ne_of_lt (Nat.lt_succ_self _) e
          · exact Nat.ne_of_gt hlS (List.mem_singleton.mp hm)
        refine set_loop (pk := pk) (led := !byT w) ((Walks.tuple (by simp [hh]) _ l hneI items).toS) s.heap.objs.size hSf val hval hb (items.size - 0) 0 _ (by omega) (Nat.zero_le _)
          ⟨⟨_, Heap.get?_push_size _ rfl, rfl, rfl⟩, ⟨_, Heap.get?_push_of_some _ hol', rfl, nl, rfl⟩⟩ (SetK.start (Heap.get?_push_of_some _ hS)) fun s' hm hS' => ?_
        obtain ⟨h', g', d', tk', os'⟩ := s'
        have eg : g' = s.gens := hm.gens
        have ed : d' = s.drawn := hm.drawn
        have eo : os' = s.os := hm.os
        subst eg ed eo
        show wpAny _ _ _ _ _ _
        refine wpAny_pure ?_
        show wpAny _ _ (ret Value.none) _ _ _
        refine wpAny_pure ⟨rfl, h', tk', rfl, hS', fun b o hb e => hm.heap b o ?_ (Heap.get?_push_of_some _ (Heap.get?_push_of_some _ e))⟩
        intro hm
        rcases List.mem_cons.mp hm with e | hm
        · exact Nat.ne_of_lt hb e
        · rw [z1] at hm
          exact Nat.ne_of_lt (Nat.lt_succ_of_lt hb) (List.mem_singleton.mp hm)
      · cases r₂ with
        | error e => exact hr₂
        | ok fl₂ =>
          cases fl₂ with
          | ret r =>
            obtain ⟨rfl, h', tk, rfl, hS', hk'⟩ := hr₂
            repeat (any_goals (first | assumption | wp_step))
            exact h _ _ hS' hk'
          | _ => exact hr₂.elim
    | _ => exact hr.elim
end
end
end L2
namespace L2
open PySem
section
variable {prog : Program} {w : World} {A : Around} {E : Value → Shared → Prop} {s : Shared}
theorem wp_choose {src : Source} {n : Nat} {Q : Nat → Shared → Prop} (hn : n ≠ 0) (h : ∀ i, i < n → Q i { s with drawn := s.drawn.bump src }) : wpAny (model prog w) A (choose src n) Q E s :=
  fun _ _ _ => ⟨hn, h _ (Nat.mod_lt _ (Nat.pos_of_ne_zero hn))⟩
theorem erase_perm {α : Type} : ∀ {xs : List α} {i : Nat} {x : α}, xs[i]? = some x → (x :: xs.eraseIdx i).Perm xs
  | [], _, _, h => by simp at h
  | y :: ys, 0, x, h => by simp at h; subst h; exact .refl _
  | y :: ys, i + 1, x, h => by
    rw [List.getElem?_cons_succ] at h
    rw [List.eraseIdx_cons_succ]
    exact (List.Perm.swap y x _).trans ((erase_perm h).cons y)
theorem wp_drawOrder {α : Type} : ∀ (n : Nat) (xs : List α) {s : Shared} {Q : List α → Shared → Prop}, xs.length = n → (∀ ys d, ys.Perm xs → Q ys { s with drawn := d }) → wpAny (model prog w) A (drawOrder n xs) Q E s
  | 0, xs, s, Q, hl, h => by
    obtain rfl := List.length_eq_zero_iff.mp hl
    unfold drawOrder
    exact wpAny_pure (h [] s.drawn (.refl _))
  | n + 1, [], s, Q, hl, h => by simp at hl
  | n + 1, x :: r, s, Q, hl, h => by
    unfold drawOrder
    refine wpAny_bind (wp_choose (by simp) fun i hi => ?_)
    have e := List.getElem?_eq_getElem hi
    rw [e]
    dsimp only
    refine wpAny_bind (wp_drawOrder n _ (by rw [List.length_eraseIdx_of_lt hi, hl]; omega) fun ys d p => ?_)
    exact wpAny_pure (h _ d ((p.cons _).trans (erase_perm e)))
theorem pick_perm {α : Type} (next : Nat → Nat) : ∀ (m k : Nat) (left : List α) (out : Array α), left.length = m → (pickOrder.go next m k left out).toList.Perm (out.toList ++ left)
  | 0, k, left, out, hl => by
    obtain rfl := List.length_eq_zero_iff.mp hl
    unfold pickOrder.go; rw [List.append_nil]
  | m + 1, k, left, out, hl => by
    have hi : next k % left.length < left.length := Nat.mod_lt _ (by omega)
    have e := List.getElem?_eq_getElem hi
    unfold pickOrder.go
    rw [e]
    dsimp only
    refine (pick_perm next m (k + 1) _ _ (by rw [List.length_eraseIdx_of_lt hi, hl]; omega)).trans ?_
    rw [Array.toList_push, List.append_assoc]
    exact (erase_perm e).append_left _
def SetIt (h : Heap) (it a : Addr) (first : Value) (i n ep : Nat) : Prop := ∃ o, h.get? it = some o ∧ o.cls = .type "set_iterator" ∧ o.data = .fields #[first, .int i 0, .ref a, .int n 0, .int ep 0]
inductive Way (w : World) (a it : Addr) (es : Array (Int × Value)) (ep : Nat) (t : SetTable) : Array (Int × Value) → List Addr → (Nat → Value → Heap → Prop) → Prop where
  | text (hb : byT w = true) : Way w a it es ep t (pickOrder (w.params.setOrder a ep) es) [it, a] (fun _ f _ => ∃ k : Nat, f = .int k 0)
  | one (hb : byT w = false) (hl : t.led = true) (h1 : es.size ≤ 1) : Way w a it es ep t es [it, a] (fun i f _ => f = .int 0 0 ∧ i = 0 ∨ ∃ j, t.place[0]? = some j ∧ f = .int ((j + 1 : Nat) : Int) 0 ∧ i = 1)
  | drawn (hb : byT w = false) (hp : t.plain = false) (h1 : 1 < es.size) (tp : Addr) (order : List Nat) (ho : order.Perm (List.range es.size)) : tp ≠ it →
    Way w a it es ep t (order.filterMap fun i => es[i]?).toArray [it, a, tp] (fun _ f h => f = .ref tp ∧ h.IsTuple tp (order.map fun (i : Nat) => Value.int i 0).toArray)
theorem order_get {es : Array (Int × Value)} {order : List Nat} (ho : order.Perm (List.range es.size)) : (order.filterMap fun i => es[i]?).length = order.length ∧ ∀ i : Nat, (order.filterMap fun i => es[i]?)[i]? = (order[i]?).bind fun j => es[j]? := by
  have hall : ∀ j ∈ order, j < es.size := fun j hj => List.mem_range.mp (ho.mem_iff.mp hj)
  clear ho
  induction order with
  | nil => exact ⟨rfl, fun i => by simp⟩
  | cons j r ih =>
    have hj := hall j (List.mem_cons_self ..)
    obtain ⟨h1, h2⟩ := ih fun k hk => hall k (List.mem_cons_of_mem _ hk)
    rw [List.filterMap_cons_some (b := es[j]) (by simp [hj])]
    refine ⟨by simp [h1], fun i => ?_⟩
    cases i with
    | zero => simp [hj]
    | succ i => simpa using h2 i
theorem Way.perm {a it : Addr} {es : Array (Int × Value)} {ep : Nat} {t : SetTable} {out : Array (Int × Value)} {fp : List Addr} {F : Nat → Value → Heap → Prop} (y : Way w a it es ep t out fp F) : out.toList.Perm es.toList := by
  cases y with
  | text hb => simpa [pickOrder] using pick_perm (w.params.setOrder a ep) es.size 0 es.toList #[] (by simp)
  | one => exact .refl _
  | drawn hb hp h1 tp order ho hne =>
    have q := ho.filterMap fun i => es[i]?
    rw [filterMap_getElem?_range] at q
    simpa using q
end
end L2
namespace L2
open PySem
section
variable {prog : Program} {w : World} {A : Around} {E : Value → Shared → Prop} {s : Shared}
variable {a it : Addr} {o : Obj} {es : Array (Int × Value)} {ep : Nat} {t : SetTable}
theorem wp_byText {Q : Bool → Shared → Prop} (h : Q (byT w) s) : wpAny (model prog w) A setsByText Q E s := by
  unfold setsByText
  exact wpAny_bind (wpAny_askSetting (wpAny_pure h))
theorem wp_setDrawn {Q : Bool → Shared → Prop} (ho : s.heap.get? a = some o) (hd : o.data = .set es ep t) (hf : t.fits es.size = true) (h : Q (!byT w && (!t.plain && decide (es.size > 1))) s) : wpAny (model prog w) A (setDrawn a) Q E s := by
  unfold setDrawn
  refine wpAny_bind (wpAny_setState_of ho hd hf ?_)
  dsimp only
  exact wpAny_bind (wp_byText (wpAny_pure h))
theorem pyIter_set {Q : Value → Shared → Prop} (ho : s.heap.get? a = some o) (hex : o.ExactSet) (hd : o.data = .set es ep t) (hf : t.fits es.size = true) (hz : es.size ≤ sizeLine) (hled : byT w = false → t.led = true) (hpl : t.plain = false ∨ es.size ≤ 1)
    (h : ∀ it out fp F first h' d, Way w a it es ep t out fp F → SetIt h' it a first 0 es.size ep → F 0 first h' → (∀ b o, s.heap.get? b = some o → h'.get? b = some o) → s.heap.objs.size ≤ it → (∀ b ∈ fp, b = a ∨ s.heap.objs.size ≤ b) →
      Q (.ref it) { s with heap := h', drawn := d }) : wpAny (model prog w) A (pyIter (.ref a)) Q E s := by
  have hT : s.TypeIs (.ref a) "set" := ⟨o, ho, hex.1⟩
  refine wpAny_pyIter_slot hT F.slot_set_iter (wpAny_call_entry F.slot_set_iter hT SF.ent_iter ?_ (F.args_set_iter_1 _))
  unfold Builtin.«frozenset.__iter__» Builtin.Frozenset.slot0 slotArgs
  simp only [List.isEmpty_nil, Bool.not_true, Bool.false_eq_true, ↓reduceIte, bind_assoc, List.length_nil, bne_self_eq_false]
  unfold Builtin.Frozenset.addrOf Builtin.Frozenset.sizeOf
  refine wpAny_bind (wpAny_pure ?_)
  try dsimp only
  refine wpAny_bind (wpAny_pure ?_)
  refine wpAny_bind (wpAny_bind (wpAny_setEntries_of ho hd hf (wpAny_pure ?_)))
  refine wpAny_bind (wp_setDrawn ho hd hf ?_)
  have ha : a < s.heap.objs.size := Heap.lt_size ho
  cases hc : (!byT w && (!t.plain && decide (es.size > 1))) with
  | true =>
    rw [Bool.and_eq_true, Bool.and_eq_true, Bool.not_eq_true', Bool.not_eq_true'] at hc
    obtain ⟨hb, hp, h1⟩ := hc
    have h1 := of_decide_eq_true h1
    rw [if_pos rfl]
    refine wpAny_bind (wp_drawOrder es.size (List.range es.size) (by simp) fun order d hpm => ?_)
    have hlen : order.length = es.size := by rw [hpm.length_eq, List.length_range]
    refine wpAny_bind (wpAny_newTuple ?_ (by rw [List.length_map, hlen]; exact hz))
    refine wpAny_bind (wpAny_setEpoch_of (Heap.get?_push_of_some _ ho) hd hf ?_)
    refine wpAny_bind (wpAny_newObj_type (wpAny_pure ⟨_, rfl, "set_iterator", _, ⟨_, Heap.get?_push_size _ rfl, rfl⟩, SF.slot_next.lookup, ?_⟩))
    refine h _ _ _ _ (.ref s.heap.objs.size) _ d (Way.drawn hb hp h1 s.heap.objs.size order hpm ?_) ⟨_, Heap.get?_push_size _ rfl, rfl, rfl⟩ ⟨rfl, ⟨_, Heap.get?_push_of_some _ (Heap.get?_push_size _ rfl), rfl, 0, ?_⟩⟩
      (fun b o e => Heap.get?_push_of_some _ (Heap.get?_push_of_some _ e)) ?_ ?_
    · rw [Heap.size_push]; exact Nat.ne_of_lt (Nat.lt_succ_self _)
    · rfl
    · rw [Heap.size_push]; exact Nat.le_succ _
    · intro b hb
      rcases List.mem_cons.mp hb with e | hb
      · rw [e, Heap.size_push]; exact .inr (Nat.le_succ _)
      rcases List.mem_cons.mp hb with e | hb
      · exact .inl e
      · rw [List.mem_singleton.mp hb]; exact .inr (Nat.le_refl _)
  | false =>
    rw [if_neg (by decide)]
    refine wpAny_bind (wpAny_pure ?_)
    refine wpAny_bind (wpAny_setEpoch_of ho hd hf ?_)
    refine wpAny_bind (wpAny_newObj_type (wpAny_pure ⟨_, rfl, "set_iterator", _, ⟨_, Heap.get?_push_size _ rfl, rfl⟩, SF.slot_next.lookup, ?_⟩))
    have hfp : ∀ b ∈ [s.heap.objs.size, a], b = a ∨ s.heap.objs.size ≤ b := fun b hb => by
      rcases List.mem_cons.mp hb with e | hb
      · rw [e]; exact .inr (Nat.le_refl _)
      · exact .inl (List.mem_singleton.mp hb)
    cases hb : byT w with
    | true => exact h _ _ _ _ (.int 0 0) _ s.drawn (Way.text hb) ⟨_, Heap.get?_push_size _ rfl, rfl, rfl⟩ ⟨0, rfl⟩ (fun b o e => Heap.get?_push_of_some _ e) (Nat.le_refl _) hfp
    | false =>
      have h1 : es.size ≤ 1 := by
        rcases hpl with hp | h1
        · rw [hb, hp] at hc
          have := of_decide_eq_false (show decide (es.size > 1) = false from hc)
          omega
        · exact h1
      exact h _ _ _ _ (.int 0 0) _ s.drawn (Way.one hb (hled hb) h1) ⟨_, Heap.get?_push_size _ rfl, rfl, rfl⟩ (.inl ⟨rfl, rfl⟩) (fun b o e => Heap.get?_push_of_some _ e) (Nat.le_refl _) hfp
theorem SetIt.ty {first : Value} {i n : Nat} (x : SetIt s.heap it a first i n ep) : s.TypeIs (.ref it) "set_iterator" := let ⟨o, ho, hc, _⟩ := x; ⟨o, ho, hc⟩
theorem wp_setNext_text {k i : Nat} {Q : Option (Value × Nat) → Shared → Prop} (ho : s.heap.get? a = some o) (hd : o.data = .set es ep t) (hf : t.fits es.size = true) (hb : byT w = true)
    (h : Q (((pickOrder (w.params.setOrder a ep) es)[i]?).map fun e => (e.2, k)) s) : wpAny (model prog w) A (setNext a k i ep) Q E s := by
  unfold setNext
  refine wpAny_bind (wpAny_setState_of ho hd hf ?_)
  dsimp only
  refine wpAny_bind (wp_byText ?_)
  rw [hb, if_pos rfl, if_neg (by simp)]
  refine wpAny_bind ?_
  unfold setWalk
  refine wpAny_bind (wpAny_setState_of ho hd hf ?_)
  dsimp only
  refine wpAny_bind (wp_byText ?_)
  rw [hb, if_pos rfl]
  exact wpAny_bind (wpAny_askSetting (wpAny_pure (wpAny_pure h)))
theorem wp_setNext_one {k i : Nat} {Q : Option (Value × Nat) → Shared → Prop} (ho : s.heap.get? a = some o) (hd : o.data = .set es ep t) (hf : t.fits es.size = true) (hb : byT w = false) (hl : t.led = true) (h1 : es.size ≤ 1)
    (h : Q (match es[SetTable.below t.place k]?, t.place[SetTable.below t.place k]? with | some (_, x), some j => some (x, j + 1) | _, _ => none) s) : wpAny (model prog w) A (setNext a k i ep) Q E s := by
  unfold setNext
  refine wpAny_bind (wpAny_setState_of ho hd hf ?_)
  dsimp only
  refine wpAny_bind (wp_byText ?_)
  rw [hb, if_neg (by decide)]
  have e1 : (!t.plain && decide (es.size > 1)) = false := by rw [decide_eq_false (by omega), Bool.and_false]
  show wpAny _ _ (if (!t.plain && decide (es.size > 1)) = true then _ else _) _ _ _
  rw [e1, if_neg (by decide)]
  refine wpAny_bind ?_
  show wpAny _ _ (if (!t.led && !es.isEmpty) = true then _ else _) _ _ _
  rw [hl, if_neg (by simp)]
  exact wpAny_pure (wpAny_pure h)
end
end L2
namespace L2
open PySem
section
variable {prog : Program} {w : World} {A : Around} {E : Value → Shared → Prop} {s : Shared}
variable {a it : Addr} {o : Obj} {es : Array (Int × Value)} {ep : Nat} {t : SetTable}
theorem below_one0 (j : Nat) : SetTable.below #[j] 0 = 0 := by
  simp [SetTable.below, SetTable.below.go]
theorem below_one1 (j : Nat) : SetTable.below #[j] (j + 1) = 1 := by
  simp [SetTable.below, SetTable.below.go]
theorem below_none (k : Nat) : SetTable.below #[] k = 0 := by
  simp [SetTable.below, SetTable.below.go]
theorem setIt_upd {h : Heap} {first f' : Value} {i n : Nat} (x : SetIt h it a first i n ep) :
    SetIt (h.update it (Obj.mapFields (·.setIfInBounds 0 f'))) it a f' i n ep := by
  obtain ⟨o, ho, hc, hd⟩ := x
  exact ⟨_, Heap.get?_update_self _ ho (Obj.isFreed_of_fields (Obj.data_mapFields hd _)), (Obj.cls_mapFields ..).trans hc, by rw [Obj.data_mapFields hd]; simp⟩
theorem setIt_up1 {h : Heap} {first : Value} {i n : Nat} (x : SetIt h it a first i n ep) :
    SetIt (h.update it (Obj.mapFields (·.setIfInBounds 1 (rawInt ((i : Int) + 1))))) it a first (i + 1) n ep := by
  obtain ⟨o, ho, hc, hd⟩ := x
  exact ⟨_, Heap.get?_update_self _ ho (Obj.isFreed_of_fields (Obj.data_mapFields hd _)), (Obj.cls_mapFields ..).trans hc, by rw [Obj.data_mapFields hd]; simp [rawInt]⟩
set_option maxHeartbeats 1000000 in
theorem next_item {out : Array (Int × Value)} {fp : List Addr} {F : Nat → Value → Heap → Prop} {first : Value} {i : Nat} {x : Int × Value} {Q : Option Value → Shared → Prop} (y : Way w a it es ep t out fp F) (hne : a ≠ it) (ho : s.heap.get? a = some o) (hd : o.data = .set es ep t)
    (hf : t.fits es.size = true) (hit : SetIt s.heap it a first i es.size ep) (hF : F i first s.heap) (hx : out[i]? = some x)
    (hQ : ∀ f' h', SetIt h' it a f' (i + 1) es.size ep → F (i + 1) f' h' → Heap.SameBut it s.heap h' → Q (some x.2) { s with heap := h' }) : wpAny (model prog w) A (pyNext (.ref it)) Q E s := by
  obtain ⟨oi, hoi, hci, hdi⟩ := id hit
  unfold pyNext
  refine wpAny_bind (wpAny_attempt (wpAny_callSpecial?_slot (name := Str.ofString "__next__") hit.ty SF.slot_next (wpAny_call_entry SF.slot_next hit.ty SF.ent_next ?_ (SF.args_next _))))
  unfold Builtin.«set_iterator.__next__»
  refine wpAny_bind (wpAny_pure ?_)
  refine wpAny_bind (wpAny_fieldsOf hoi hdi ?_)
  dsimp only
  refine wpAny_bind (wpAny_setEntries_of ho hd hf ?_)
  rw [if_neg (by simp)]
  have step : ∀ (f' : Value), F (i + 1) f' ((s.heap.update it (Obj.mapFields (·.setIfInBounds 0 f'))).update it (Obj.mapFields (·.setIfInBounds 1 (rawInt ((i : Int) + 1))))) → ∀ (k : Nat), f' = rawInt k → ∀ (E' : Value → Shared → Prop),
      wpAny (model prog w) A.in1 (do setField (.ref it) 0 (rawInt k); setField (.ref it) 1 (rawInt ((i : Int) + 1)); ret x.2) (fun fin s' => ∃ v, fin = .done (.ret v) ∧ Q (some v) s') E' s := by
    rintro f' hF' k rfl E'
    refine wpAny_bind (wpAny_setField hoi hdi (by simp) ?_)
    have u1 := setIt_upd (f' := rawInt k) hit
    obtain ⟨o1, ho1, hc1, hd1⟩ := id u1
    refine wpAny_bind (wpAny_setField ho1 hd1 (by simp) (wpAny_pure ⟨_, rfl, ?_⟩))
    exact hQ _ _ (setIt_up1 u1) hF' ((Heap.SameBut.update ..).trans (Heap.SameBut.update ..))
  cases y with
  | text hb =>
    obtain ⟨k, rfl⟩ := hF
    dsimp only
    refine wpAny_bind (wp_setNext_text ho hd hf hb ?_)
    simp only [Int.toNat_natCast]
    rw [hx]
    exact wpAny_mono (step (rawInt k) ⟨k, rfl⟩ k rfl _) (fun _ _ h => let ⟨v, e, q⟩ := h; ⟨v, e, wpAny_pure q⟩) fun _ _ h => h
  | one hb hl h1 =>
    have hi : i < es.size := (Array.getElem?_eq_some_iff.mp hx).1
    have i0 : i = 0 := by omega
    subst i0
    have hsz : t.place.size = 1 := by
      have := hf
      simp only [SetTable.fits, Bool.and_eq_true, beq_iff_eq] at this
      omega
    obtain ⟨j, hj⟩ : ∃ j, t.place = #[j] := by
      rcases ht : t.place with ⟨l⟩
      rw [ht] at hsz
      match l, hsz with
      | [j], _ => exact ⟨j, rfl⟩
    rcases hF with ⟨rfl, _⟩ | ⟨_, _, _, e⟩
    · dsimp only
      refine wpAny_bind (wp_setNext_one ho hd hf hb hl h1 ?_)
      rw [hj]
      have e0 : SetTable.below #[j] (Int.toNat 0) = 0 := below_one0 j
      rw [e0, hx]
      exact wpAny_mono (step (rawInt ((j + 1 : Nat) : Int)) (.inr ⟨j, by rw [hj]; rfl, rfl, rfl⟩) (j + 1) rfl _) (fun _ _ h => let ⟨v, e, q⟩ := h; ⟨v, e, wpAny_pure q⟩) fun _ _ h => h
    · cases e
  | drawn hb hp h1 tp order hpm hnt =>
    obtain ⟨rfl, htp⟩ := hF
    obtain ⟨otp, hotp, hctp, ntp, hdtp⟩ := id htp
    dsimp only
    refine wpAny_bind (wpAny_seqItems hotp hdtp ?_)
    obtain ⟨g1, g2⟩ := order_get (es := es) hpm
    have hx' : (order.filterMap fun i => es[i]?)[i]? = some x := by simpa using hx
    rw [g2 i] at hx'
    obtain ⟨p, hp1, hp2⟩ := Option.bind_eq_some_iff.mp hx'
    have e1 : ((order.map fun (i : Nat) => Value.int i 0).toArray)[Int.toNat (i : Int)]? = some (.int p 0) := by
      rw [Int.toNat_natCast, List.getElem?_toArray, List.getElem?_map, hp1]; rfl
    dsimp only
    rw [e1]
    dsimp only
    refine wpAny_bind ?_
    unfold setNextDrawn
    refine wpAny_bind (wpAny_setState_of ho hd hf ?_)
    dsimp only
    rw [Int.toNat_natCast, Int.toNat_natCast, if_neg (by simp), hp2]
    refine wpAny_pure ?_
    refine wpAny_bind (wpAny_setField hoi hdi (by simp) (wpAny_pure ⟨_, rfl, wpAny_pure ?_⟩))
    exact hQ _ _ (setIt_up1 hit) ⟨rfl, ⟨otp, ((Heap.SameBut.update ..).2 tp hnt).trans hotp, hctp, ntp, hdtp⟩⟩ (Heap.SameBut.update ..)
end
end L2
namespace L2
open PySem
section
variable {prog : Program} {w : World} {A : Around} {E : Value → Shared → Prop} {s : Shared}
variable {a it : Addr} {o : Obj} {es : Array (Int × Value)} {ep : Nat} {t : SetTable}
theorem raise_stop {α : Type} {Q : α → Shared → Prop} (hh : A.handled = none) (h : ∀ h' e, (∀ b o, s.heap.get? b = some o → h'.get? b = some o) → (∃ o, h'.get? e = some o ∧ o.cls = .type "StopIteration") → E (.ref e) { s with heap := h' }) :
    wpAny (model prog w) A (newExc (.type "StopIteration") [] >>= fun e => (raiseNew e : Sem α)) Q E s := by
  refine wpAny_bind ?_
  simp only [newExc, newTuple]
  refine wpAny_bind (wpAny_newObj_type ?_ (by size_fits))
  refine wpAny_bind (m := firstArgMember _ _) (wpAny_of_eq (a := Value.none) (by first | rfl | (simp only [firstArgMember]; rfl)) ?_)
  refine wpAny_newObj_type ?_ (by size_fits)
  simp only [raiseNew]
  refine wpAny_bind (wpAny_handled ?_)
  rw [hh]
  refine wpAny_bind (wpAny_pure (wpAny_throw ?_))
  exact h _ _ (fun b o e => Heap.get?_push_of_some _ (Heap.get?_push_of_some _ e)) ⟨_, Heap.get?_push_size _ rfl, rfl⟩
set_option maxHeartbeats 1000000 in
theorem next_end {out : Array (Int × Value)} {fp : List Addr} {F : Nat → Value → Heap → Prop} {first : Value} {Q : Option Value → Shared → Prop} (hh : A.handled = none) (y : Way w a it es ep t out fp F) (hne : a ≠ it) (ho : s.heap.get? a = some o) (hd : o.data = .set es ep t)
    (hf : t.fits es.size = true) (hit : SetIt s.heap it a first es.size es.size ep) (hF : F es.size first s.heap)
    (hQ : ∀ h', (∀ b o, b ≠ it → s.heap.get? b = some o → h'.get? b = some o) → Q none { s with heap := h' }) : wpAny (model prog w) A (pyNext (.ref it)) Q E s := by
  have hsz : out.size = es.size := by have := y.perm.length_eq; simpa using this
  obtain ⟨oi, hoi, hci, hdi⟩ := id hit
  unfold pyNext
  refine wpAny_bind (wpAny_attempt (wpAny_callSpecial?_slot (name := Str.ofString "__next__") hit.ty SF.slot_next (wpAny_call_entry SF.slot_next hit.ty SF.ent_next ?_ (SF.args_next _))))
  unfold Builtin.«set_iterator.__next__»
  refine wpAny_bind (wpAny_pure ?_)
  refine wpAny_bind (wpAny_fieldsOf hoi hdi ?_)
  dsimp only
  refine wpAny_bind (wpAny_setEntries_of ho hd hf ?_)
  rw [if_neg (by simp)]
  have fin : ∀ (s1 : Shared) (Q' : Fin → Shared → Prop), (∀ b o, b ≠ it → s.heap.get? b = some o → s1.heap.get? b = some o) → (∀ h', ({ s with heap := h' } : Shared) = { s1 with heap := h' }) →
      wpAny (model prog w) A.in1 (newExc (.type "StopIteration") [] >>= fun e => (raiseNew e : Sem Fin)) Q'
        (fun e s' => wpAny (model prog w) A (do let b ← isInstance e (.type "StopIteration"); if b = true then pure none else throw e) Q E s') s1 := fun s1 Q' k1 k2 => by
    refine raise_stop (by simp [hh]) fun h' e k he => ?_
    obtain ⟨oe, hoe, hce⟩ := he
    refine wpAny_bind (wpAny_isInstance (T := "StopIteration") (b := true) ⟨oe, hoe, hce⟩ isSubtype_stop ?_)
    rw [if_pos rfl]
    refine wpAny_pure ?_
    rw [← k2]
    exact hQ h' fun b o nb e => k b o (k1 b o nb e)
  have up : ∀ (f : Array Value → Array Value) b o, b ≠ it → s.heap.get? b = some o → (s.heap.update it (Obj.mapFields f)).get? b = some o := fun f b o nb e => ((Heap.SameBut.update ..).2 b nb).trans e
  cases y with
  | text hb =>
    obtain ⟨k, rfl⟩ := hF
    dsimp only
    refine wpAny_bind (wp_setNext_text ho hd hf hb ?_)
    simp only [Int.toNat_natCast]
    rw [Array.getElem?_eq_none (by omega)]
    refine wpAny_bind (wpAny_setField hoi hdi (by simp) ?_)
    exact fin _ _ (up _) fun _ => rfl
  | one hb hl h1 =>
    have pz : t.place.size = es.size := by
      have := hf
      simp only [SetTable.fits, Bool.and_eq_true, beq_iff_eq] at this
      exact this.1
    have key : ∃ k : Nat, first = .int k 0 ∧ es[SetTable.below t.place k]? = none := by
      rcases hF with ⟨rfl, e⟩ | ⟨j, hj, rfl, e⟩
      · refine ⟨0, rfl, ?_⟩
        have : t.place = #[] := by apply Array.eq_empty_of_size_eq_zero; omega
        rw [this, below_none]
        exact Array.getElem?_eq_none (by omega)
      · refine ⟨j + 1, rfl, ?_⟩
        have : t.place = #[j] := by
          rcases ht : t.place with ⟨l⟩
          rw [ht] at pz hj
          match l, (show l.length = 1 by simpa [e] using pz), hj with
          | [x], _, hj => simp at hj; rw [hj]
        rw [this, below_one1]
        exact Array.getElem?_eq_none (by omega)
    obtain ⟨k, rfl, hk⟩ := key
    dsimp only
    refine wpAny_bind (wp_setNext_one ho hd hf hb hl h1 ?_)
    rw [Int.toNat_natCast, hk]
    refine wpAny_bind (wpAny_setField hoi hdi (by simp) ?_)
    exact fin _ _ (up _) fun _ => rfl
  | drawn hb hp h1 tp order hpm hnt =>
    obtain ⟨rfl, htp⟩ := hF
    obtain ⟨otp, hotp, hctp, ntp, hdtp⟩ := id htp
    dsimp only
    refine wpAny_bind (wpAny_seqItems hotp hdtp ?_)
    dsimp only
    have e1 : ((order.map fun (i : Nat) => Value.int i 0).toArray)[Int.toNat (es.size : Int)]? = none := by
      rw [Int.toNat_natCast, List.getElem?_toArray, List.getElem?_eq_none]
      rw [List.length_map, hpm.length_eq, List.length_range]; exact Nat.le_refl _
    rw [e1]
    dsimp only
    refine wpAny_bind (wpAny_setField hoi hdi (by simp) ?_)
    have u1 := setIt_upd (f' := rawInt 0) hit
    obtain ⟨o1, ho1, hc1, hd1⟩ := id u1
    refine wpAny_bind (wpAny_setField ho1 hd1 (by simp) ?_)
    exact fin _ _ (fun b o nb e => ((Heap.SameBut.update ..).2 b nb).trans (up _ b o nb e)) fun _ => rfl
theorem ent_self : entryFor table "set_iterator.__iter__" = some Builtin.«dict_keyiterator.__iter__» := entryFor_alias (id' := "dict_keyiterator.__iter__") (by kernel_rfl) rfl (by decide +kernel) (by kernel_rfl)
theorem args_self (a : Value) : argsOk "set_iterator.__iter__" ⟨[a], []⟩ := by
  unfold argsOk; rw [signature?_of (id := "set_iterator.__iter__") (n := ['_', '_', 'r', 'e', 't', 'i', '_', '_']) (o := ['r', 'o', 't', 'a', 'r', 'e', 't', 'i', '_', 't', 'e', 's']) (by kernel_rfl) SF.own_it]; kernel_rfl
theorem self_set {first : Value} {i n : Nat} {Q : Value → Shared → Prop} (hit : SetIt s.heap it a first i n ep) (h : Q (.ref it) s) : wpAny (model prog w) A (pyIter (.ref it)) Q E s := by
  refine wpAny_pyIter_slot hit.ty SF.slot_self (wpAny_call_entry SF.slot_self hit.ty ent_self ?_ (args_self _))
  show wpAny _ _ (ret (.ref it)) _ _ s
  exact wpAny_pure ⟨_, rfl, "set_iterator", _, hit.ty, SF.slot_next.lookup, h⟩
theorem SetIt.keep {h h' : Heap} {first : Value} {i n : Nat} (x : SetIt h it a first i n ep) (e : ∀ o, h.get? it = some o → h'.get? it = some o) : SetIt h' it a first i n ep := let ⟨o, ho, r⟩ := x; ⟨o, e o ho, r⟩
theorem Way.fp {out : Array (Int × Value)} {fp : List Addr} {F : Nat → Value → Heap → Prop} (y : Way w a it es ep t out fp F) : it ∈ fp ∧ a ∈ fp ∧ ∀ i f (h h' : Heap), (∀ b ∈ fp, b ≠ it → ∀ o, h.get? b = some o → h'.get? b = some o) → F i f h → F i f h' := by
  cases y with
  | text => exact ⟨by simp, by simp, fun _ _ _ _ _ x => x⟩
  | one => exact ⟨by simp, by simp, fun _ _ _ _ _ x => x⟩
  | drawn _ _ _ tp order _ hne => exact ⟨by simp, by simp, fun _ _ h h' k x => ⟨x.1, by obtain ⟨o, ho, r⟩ := x.2; exact ⟨o, k tp (by simp) hne o ho, r⟩⟩⟩
theorem Walks.set {out : Array (Int × Value)} {fp : List Addr} {F : Nat → Value → Heap → Prop} (hh : A.handled = none) (y : Way w a it es ep t out fp F) (hne : a ≠ it) (hex : o.ExactSet) (hd : o.data = .set es ep t) (hf : t.fits es.size = true) :
    Walks prog w A it fp [it] es.size (fun i v => (out[i]?).map (·.2) = some v) (fun i h => h.get? a = some o ∧ ∃ first, SetIt h it a first i es.size ep ∧ F i first h) where
  sub := fun b hb => by rw [List.mem_singleton.mp hb]; exact y.fp.1
  frame := fun i h h' st k => ⟨k a y.fp.2.1 o st.1, let ⟨f, h1, h2⟩ := st.2; ⟨f, h1.keep fun o e => k it y.fp.1 o e, y.fp.2.2 i f h h' (fun b hb _ o e => k b hb o e) h2⟩⟩
  item := fun i s Q E hi st hQ => by
    obtain ⟨ho, f, h1, h2⟩ := st
    have hsz : out.size = es.size := by have := y.perm.length_eq; simpa using this
    have hx : out[i]? = some out[i] := Array.getElem?_eq_getElem (by omega)
    refine next_item y hne ho hd hf h1 h2 hx fun f' h' k1 k2 sb => ?_
    refine hQ _ h' s.toks (by rw [hx]; rfl) ⟨(sb.2 a hne).trans ho, f', k1, k2⟩ fun b o hb e => (sb.2 b (fun z => hb (by simp [z]))).trans e
  done := fun s Q E st hQ => by
    obtain ⟨ho, f, h1, h2⟩ := st
    exact next_end hh y hne ho hd hf h1 h2 fun h' k => hQ h' s.toks fun b o hb e => k b o (fun z => hb (by simp [z])) e
  self := fun i s Q E st hQ => let ⟨f, h1, _⟩ := st.2; self_set h1 hQ
end
section
variable {prog : Program} {w : World} {A : Around} {E : Value → Shared → Prop} {s : Shared}
set_option maxHeartbeats 1000000 in
theorem collect_via {x : Addr} {T : String} (hTT : T = "set" ∨ T = "dict") (hT : s.TypeIs (.ref x) T) {Q : List Value → Shared → Prop} (Pf : List Value → Prop)
    (hiter : ∀ (h0 : Heap) (Q' : Value → Shared → Prop) (E' : Value → Shared → Prop), (∀ b o, s.heap.get? b = some o → h0.get? b = some o) → 
      (∀ (I : Addr) (fp wr : List Addr) (n : Nat) (P : Nat → Value → Prop) (St : Nat → Shared → Prop) (s1 : Shared), WalksS prog w A.in1 I fp wr (fun a b => b = a) n P St → St 0 s1 → n ≤ sizeLine → (∀ b ∈ fp, b = x ∨ h0.objs.size ≤ b) → (∀ b ∈ wr, h0.objs.size ≤ b) →
        (∀ b o, h0.get? b = some o → s1.heap.get? b = some o) → s1.gens = s.gens → s1.os = s.os → (∀ acc, ItemsOf P acc n → Pf acc.toList) → Q' (.ref I) s1) → wpAny (model prog w) A.in1 (pyIter (.ref x)) Q' E' { s with heap := h0 })
    (hQ : ∀ s' acc, Pf acc → (∀ b o, s.heap.get? b = some o → s'.heap.get? b = some o) → s'.gens = s.gens → s'.os = s.os → Q acc s') : wpAny (model prog w) A (collect (.ref x)) Q E s := by
  obtain ⟨ox, hox, hcx⟩ := id hT
  have hxs : x < s.heap.objs.size := Heap.lt_size hox
  unfold collect
  refine wpAny_bind (wpAny_runValue (codeAny_builtin F.entry_proto_collect ?_))
  rw [Around.under_plainId F.plain_proto_collect _]
  show wpAny _ A.in1 (newList [] >>= fun l => again (.builtin "list.__iadd__" ⟨[l, .ref x], []⟩)) _ _ s
  refine wpAny_bind (wpAny_newObj_type ?_)
  refine wpAny_pure ⟨plainId_quiet F.plain_list_iadd _, codeAny_builtin F.entry_list_iadd ?_⟩
  rw [Around.under_plainId F.plain_list_iadd _]
  have hS1 : (s.heap.push { cls := .type "list", data := .seq ([] : List Value).toArray }).get? s.heap.objs.size = some { cls := .type "list", data := .seq ([] : List Value).toArray } := Heap.get?_push_size _ rfl
  have hT1 : Shared.TypeIs { s with heap := s.heap.push { cls := .type "list", data := .seq ([] : List Value).toArray } } (.ref x) T := ⟨ox, Heap.get?_push_of_some _ hox, hcx⟩
  have n1 : Builtin.List.listSameRef (.ref s.heap.objs.size) (.ref x) = false := by simp [Builtin.List.listSameRef, Nat.ne_of_gt hxs]
  show wpAny _ A.in1 (Builtin.List.listExtendWith (.ref s.heap.objs.size) (.ref x) (.ref s.heap.objs.size)) _ _ _
  unfold Builtin.List.listExtendWith
  refine wpAny_bind (wpAny_typeOf hT1 ?_)
  have kp : ∀ b o, s.heap.get? b = some o → (s.heap.push { cls := .type "list", data := .seq ([] : List Value).toArray }).get? b = some o := fun b o e => Heap.get?_push_of_some _ e
  have sz : (s.heap.push { cls := .type "list", data := .seq ([] : List Value).toArray }).objs.size = s.heap.objs.size + 1 := Heap.size_push ..
  have main : ∀ (I : Addr) (fp wr : List Addr) (n : Nat) (P : Nat → Value → Prop) (St : Nat → Shared → Prop) (s1 : Shared), WalksS prog w A.in1 I fp wr (fun a b => b = a) n P St → St 0 s1 → n ≤ sizeLine →
      (∀ b ∈ fp, b = x ∨ (s.heap.push { cls := .type "list", data := .seq ([] : List Value).toArray }).objs.size ≤ b) → (∀ b ∈ wr, (s.heap.push { cls := .type "list", data := .seq ([] : List Value).toArray }).objs.size ≤ b) →
      (∀ b o, (s.heap.push { cls := .type "list", data := .seq ([] : List Value).toArray }).get? b = some o → s1.heap.get? b = some o) → s1.gens = s.gens → s1.os = s.os → (∀ acc, ItemsOf P acc n → Pf acc.toList) →
      ∀ (R : Result → Shared → Prop), (∀ s' acc c, Pf acc.toList → (∀ b o, s.heap.get? b = some o → s'.heap.get? b = some o) → s'.gens = s.gens → s'.os = s.os → s'.heap.get? s.heap.objs.size = some { cls := .type "list", dict := none, data := .seq acc c, slots := #[] } → R (.ok (.ret (.ref s.heap.objs.size))) s') →
      wpAny (model prog w) A.in1 (rule "list.extend.makes-room" >>= fun _ => Builtin.List.listTouch (.ref s.heap.objs.size) >>= fun _ => again (.builtin "list.extend.loop" ⟨[.ref s.heap.objs.size, .ref I, .ref s.heap.objs.size], []⟩))
        (fun fin s' => match fin with | .done f => R (.ok f) s' | .again c' => c'.quiet = true ∧ codeAny (model prog w) A c' R s') (fun e s' => R (.error e) s') s1 := by
    intro I fp wr n P St s1 W st hn hfp hwr k1 g1 o1 hP R hR
    have hSf : s.heap.objs.size ∉ fp := fun hm => by
      rcases hfp _ hm with e | e
      · exact Nat.ne_of_gt hxs e
      · rw [sz] at e; exact Nat.not_succ_le_self _ e
    refine wpAny_bind (wpAny_rule ?_)
    refine wpAny_bind ?_
    have hS : s1.heap.get? s.heap.objs.size = some { cls := .type "list", data := .seq ([] : List Value).toArray } := k1 _ _ hS1
    show wpAny _ A.in1 (updateSeq s.heap.objs.size (·.push .none) >>= fun _ => updateSeq s.heap.objs.size (·.pop)) _ _ _
    refine wpAny_bind (wpAny_updateSeq hS rfl ?_)
    have hS2 := Heap.get?_update_self (Obj.mapSeq (·.push Value.none)) hS rfl
    refine wpAny_updateSeq (hz := by seq_fits) hS2 rfl ?_
    have hS3 := Heap.get?_update_self (Obj.mapSeq (·.pop)) hS2 rfl
    have oth : ∀ b o, b ≠ s.heap.objs.size → s1.heap.get? b = some o → ((s1.heap.update s.heap.objs.size (Obj.mapSeq (·.push Value.none))).update s.heap.objs.size (Obj.mapSeq (·.pop))).get? b = some o :=
      fun b o hb e => (Heap.get?_update_other _ _ (Ne.symm hb)).trans ((Heap.get?_update_other _ _ (Ne.symm hb)).trans e)
    refine wpAny_pure ⟨plainId_quiet F.plain_extend_loop _, codeAny_extend_loopS W hn _ hSf _ n 0 _ _ _ rfl (Nat.zero_le _) (W.frame 0 s1 _ s1.toks st (Nat.le_refl _) fun b hb o e => oth b o (fun h => hSf (h ▸ hb)) e) hS3 (ItemsOf.nil P) fun s' acc' c' hm hS' hacc => ?_⟩
    refine hR s' acc' c' (hP acc' hacc) (fun b o e => ?_) (hm.gens.trans g1) (hm.os.trans o1) hS'
    have hb : b < s.heap.objs.size := Heap.lt_size e
    refine hm.heap b o (fun z => ?_) (oth b o (Nat.ne_of_lt hb) (k1 b o (kp b o e)))
    rcases List.mem_cons.mp z with z | z
    · exact Nat.ne_of_lt hb z
    · have := hwr b z
      rw [sz] at this
      exact Nat.not_succ_le_self _ (Nat.le_trans this (Nat.le_of_lt hb))
  have last : ∀ (s' : Shared) (acc : Array Value) (c : Nat), Pf acc.toList → (∀ b o, s.heap.get? b = some o → s'.heap.get? b = some o) → s'.gens = s.gens → s'.os = s.os → s'.heap.get? s.heap.objs.size = some { cls := .type "list", dict := none, data := .seq acc c, slots := #[] } →
      wpAny (model prog w) A (load s.heap.objs.size >>= fun o => match o.data with | .seq xs _ => pure xs.toList | _ => unsupported "internal:collect") Q E s' := fun s' acc c h1 h2 h3 h4 h5 => wpAny_bind (wpAny_load h5 (wpAny_pure (hQ s' acc.toList h1 h2 h3 h4)))
  rcases hTT with rfl | rfl
  · rw [if_neg (by rw [n1]; decide)]
    refine wpAny_bind (hiter _ _ _ kp fun I fp wr n P St s1 W st hn hfp hwr k1 g1 o1 hP => ?_)
    have hT2 : s1.TypeIs (.ref x) "set" := ⟨ox, k1 _ _ (kp _ _ hox), hcx⟩
    refine wpAny_bind (wpAny_holding ?_)
    unfold Builtin.List.listLengthHint
    refine wpAny_bind (wpAny_specialOf hT2 F.slot_set_len.lookup ?_)
    (generalize hid : ("set.__len__" : String) = id0; wp_delta; rw [show splitId id0 = some ("set", "__len__") from by subst hid; decide +kernel]; subst hid)
    refine wpAny_bind (wpAny_isInstance (b := true) hT2 (by rw [isSubtype_type]; kernel_rfl) ?_)
    refine wpAny_bind (wpAny_typeOf hT2 ?_)
    refine wpAny_pure ?_
    dsimp only
    split
    · refine main I fp wr n P St s1 W st hn hfp hwr k1 g1 o1 hP (fun r s' => match r with
        | .ok (.ret v) => wpAny (model prog w) A (match v with
          | .ref a => do
            let o ← load a
            match o.data with
              | .seq xs _ => pure xs.toList
              | _ => unsupported "internal:collect"
          | _ => unsupported "internal:collect") Q E s'
        | .ok _ => False
        | .error e => E e s') ?_
      exact fun s2 acc c h1 h2 h3 h4 h5 => last s2 acc c h1 h2 h3 h4 h5
    · rename_i hneg
      exact absurd (by decide) hneg
  · rw [if_neg (by rw [n1]; decide)]
    refine wpAny_bind (hiter _ _ _ kp fun I fp wr n P St s1 W st hn hfp hwr k1 g1 o1 hP => ?_)
    have hT2 : s1.TypeIs (.ref x) "dict" := ⟨ox, k1 _ _ (kp _ _ hox), hcx⟩
    refine wpAny_bind (wpAny_holding ?_)
    unfold Builtin.List.listLengthHint
    refine wpAny_bind (wpAny_specialOf hT2 F.slot_dict_len.lookup ?_)
    (generalize hid : ("dict.__len__" : String) = id0; wp_delta; rw [show splitId id0 = some ("dict", "__len__") from by subst hid; decide +kernel]; subst hid)
    refine wpAny_bind (wpAny_isInstance (b := true) hT2 (by rw [isSubtype_type]; kernel_rfl) ?_)
    refine wpAny_bind (wpAny_typeOf hT2 ?_)
    refine wpAny_pure ?_
    dsimp only
    split
    · refine main I fp wr n P St s1 W st hn hfp hwr k1 g1 o1 hP (fun r s' => match r with
        | .ok (.ret v) => wpAny (model prog w) A (match v with
          | .ref a => do
            let o ← load a
            match o.data with
              | .seq xs _ => pure xs.toList
              | _ => unsupported "internal:collect"
          | _ => unsupported "internal:collect") Q E s'
        | .ok _ => False
        | .error e => E e s') ?_
      exact fun s2 acc c h1 h2 h3 h4 h5 => last s2 acc c h1 h2 h3 h4 h5
    · rename_i hneg
      exact absurd (by decide) hneg
end
end L2
namespace L2
open PySem PySem.Spec PyProof.Rows PySem.W
def sortedSetD : D → Option D
  | .tup ds => if ds.length < 64 then (strsO ds).map fun ss => .lst ((sortS (ss.foldl insK [])).map .str) else none
  | _ => none
def sortAnyO (d : D) (S : Sto) : Option D := match d with
  | .tup xs => (sortL xs).map .lst
  | .lst xs => (sortL xs).map .lst
  | .loc l => match S[l]? with
    | some (.dict kvs) => (sortL (kvs.map (·.1))).map .lst
    | _ => none
  | _ => none
def cSort (f : Rho → Sto → Out D) : Rho → Sto → Out D := fun ρ S => bindO (f ρ S) fun d S1 => valO (sortAnyO d S1) S1
def upperD : D → Option D
  | .str x => if x.cps.all (· < 128) = true then some (.str ⟨x.cps.map up1⟩) else none
  | _ => none
def isStrD : D → Bool
  | .str _ => true
  | _ => false
def cMet (k : D → Bool) (g : D → D → Option D) (fe fa : Rho → Sto → Out D) : Rho → Sto → Out D := fun ρ S => bindO (fe ρ S) fun x S1 => if k x = true then bindO (fa ρ S1) fun y S2 => valO (g x y) S2 else none
def findD : D → D → Option D
  | .str x, .str y => some (.int (Txt.find x y))
  | _, _ => none
section
variable {X : Cx} {W : WT}
variable {e : Expr} {fe : Rho → Sto → Out D} {gs : Rho → Sto → Out (List D)} {pos pos2 p p2 : Pos} {x y : Str}
theorem tooLong_le {n : Nat} (h : n ≤ sizeLine) : Builtin.Str.tooLong n = false := by
  unfold Builtin.Str.tooLong; exact decide_eq_false (by omega)
theorem mt_upper : MtR X "str.upper" (fun x xs H Q => ∃ z, x = .str z ∧ xs = [] ∧ z.cps.all (· < 128) = true ∧ z.length ≤ sizeLine ∧ Q (.str ⟨z.cps.map up1⟩) H) := by
  intro pins s σ H x xs v us Q I rx rs h
  obtain ⟨z, rfl, rfl, ha, hz, q⟩ := h
  obtain ⟨t, rfl⟩ := rx
  cases rs
  have e : Txt.upper z = ⟨z.cps.map up1⟩ := upper_ascii fun c hc => by
    have := Array.all_eq_true_iff_forall_mem.mp ha c (by simpa using hc)
    simpa using this
  have l : (Txt.upper z).length = z.length := by rw [e]; show (z.cps.map up1).size = z.cps.size; simp
  refine SC.upper (tooLong_le (by rw [l]; exact hz)) ?_
  rw [e]
  exact ⟨.str ⟨z.cps.map up1⟩, H, I.tok _, ⟨_, rfl⟩, q⟩
theorem mt_find : MtR X "str.find" (fun x xs H Q => ∃ z y, x = .str z ∧ xs = [.str y] ∧ Q (.int (Txt.find z y)) H) := by
  intro pins s σ H x xs v us Q I rx rs h
  obtain ⟨z, y, rfl, rfl, q⟩ := h
  obtain ⟨t, rfl⟩ := rx
  obtain ⟨u, rfl, ru⟩ := vals1 rs
  obtain ⟨t2, rfl⟩ := ru
  exact SC.find ⟨.int (Txt.find z y), H, I.tok _, ⟨_, rfl⟩, q⟩
theorem up1_lt {c : Nat} (h : c < 128) : up1 c < 128 := by
  revert c; decide
theorem me_upper {o : Expr} {name : Str} {apos cpos : Pos} (hn : name = "upper") (ho : SE X W o fe) (hbase : attributeBase o name X.env (eval o X.env) = eval o X.env := by rfl) (hline : (apos.endLine == cpos.line) = true := by rfl) :
    SE X W (.Call (.Attribute o name apos) [] [] cpos) (cUn upperD fe) := by
  subst hn
  refine PE.imp (pe_bm0 F.plainAttrs_str F.slot_str_upper F.type_str_upper mt_upper ho hbase hline) fun σ H Q h => (tG.bindE h).mono fun v H1 ⟨d, h1⟩ => ?_
  obtain ⟨J, dx, d', hJ, ax, eq, q⟩ := tG.op1 h1
  unfold upperD at eq
  split at eq
  · rename_i z
    split at eq
    · rename_i ha
      cases eq
      obtain ⟨ev, ok⟩ := At.str_iff.mp ax
      subst ev
      refine ⟨rfl, z, rfl, rfl, ha, ok.1, q H1 _ (Same.refl _) (At.str_iff.mpr ⟨rfl, ?_, ?_⟩)⟩
      · show (z.cps.map up1).size ≤ sizeLine; rw [Array.size_map]; exact ok.1
      · have e : (⟨z.cps.map up1⟩ : Str) = ⟨(z.cps.toList.map up1).toArray⟩ := by rw [← Array.toList_map]
        rw [e]
        refine strOk_of fun c hc => ?_
        obtain ⟨b, hb, rfl⟩ := List.mem_map.mp hc
        have hb' := Array.all_eq_true_iff_forall_mem.mp ha b (by simpa using hb)
        have := up1_lt (c := b) (by simpa using hb')
        omega
    · cases eq
  · cases eq
theorem met_read {k : D → Bool} {g : D → D → Option D} {fa : Rho → Sto → Out D} {T : String} {r : V → List V → Hp → VK → Prop} {σ : St} {H : Hp} {Q : VK} (hT : ∀ J H1 d v, k d = true → At X.K H1 J d v → tyV X.K T v H1)
    (hr : ∀ (v v2 : V) (H2 : Hp) (Q : VK), rD2 X.K g v v2 H2 Q → r v [v2] H2 Q) (h : tE X W (cMet k g fe fa) σ H Q) : tBM X.K T r (tE X W fe) (tCons (tE X W fa) tNil) σ H Q :=
  (tG.bindE h).mono fun v H1 ⟨d, h1⟩ => by
    by_cases hk : k d = true
    · simp only [hk, if_true] at h1
      refine ⟨?_, (tG.bindE h1).mono fun v2 H2 ⟨d2, h2⟩ => hr v v2 H2 Q (tG.op2 h2)⟩
      obtain ⟨J, _, _, _, _, _, m, _, _⟩ := h1
      exact hT J H1 d v hk m.uncons.1
    · obtain ⟨J, ρ, S, r, S', c, m, e, z⟩ := h1
      simp only [hk, Bool.false_eq_true, if_false] at e
      cases e
theorem str_ty {J : List Addr} {H1 : Hp} {d : D} {v : V} (hk : isStrD d = true) (m : At X.K H1 J d v) : tyV X.K "str" v H1 := by
  cases d <;> first | (cases hk; done) | skip
  rename_i z
  cases (At.str_iff.mp m).1
  rfl
theorem me_find {o : Expr} {name : Str} {apos cpos : Pos} {a : Expr} {fa : Rho → Sto → Out D} (hn : name = "find") (ho : SE X W o fe) (ha : SE X W a fa) (hbase : attributeBase o name X.env (eval o X.env) = eval o X.env := by rfl)
    (hfew : ((backTo cpos (starEach [a] X.env)).all (fun x => !x.1) && (backToKw cpos (keywordEach [] X.env)).all (fun x => x.1.isSome)
      && decide ([a].length + ([] : List Keyword).length + (if ([] : List Keyword).isEmpty then 0 else 1) < 30)) = true := by rfl)
    (hline : (apos.endLine == cpos.line) = true := by rfl) (hs : starEach [a] X.env = (false, eval a X.env) :: starEach [] X.env := by rfl) (hplain : (backTo cpos (starEach [] X.env)).any (·.1) = false := by rfl) :
    SE X W (.Call (.Attribute o name apos) [a] [] cpos) (cMet isStrD findD fe fa) := by
  subst hn
  refine PE.imp (pe_bm F.plainAttrs_str F.slot_str_find F.type_str_find mt_find ho (pa_cons ha pa_nil hs) hbase hfew hline hs hplain) fun σ H Q h => met_read (fun J H1 d v hk m => str_ty hk m) (fun v v2 H2 Q q => ?_) h
  obtain ⟨J, dx, dy, d', hJ, ax, ay, eq, q⟩ := q
  unfold findD at eq
  split at eq
  · rename_i z y
    cases eq
    cases (At.str_iff.mp ax).1; cases (At.str_iff.mp ay).1
    exact ⟨z, y, rfl, rfl, q H2 _ (Same.refl _) (At.int_iff.mpr rfl)⟩
  · cases eq
def plK : Key → Bool
  | .inl _ => true
  | .inr _ => false
def SetH (P : Program) (w : World) (p : Addr) (ks : List Key) : HO := HO.ext fun h => SetK (mixKind P w) plK (!byT w) h p ks
theorem key_sc {k : Key} {u : Value} (r : RelV (kV k) u) : u.scannable = true ∧ plainKind u = plK k := by
  cases k with
  | inl i => obtain ⟨t, e⟩ := (show ∃ t, u = Value.int i t from r); subst e; exact ⟨rfl, rfl⟩
  | inr x => obtain ⟨t, e⟩ := (show ∃ t, u = Value.str x t from r); subst e; exact ⟨rfl, rfl⟩
theorem met_getD (ks : List Key) : met (fun i => ks.getD i (.inl 0)) ks.length = ks.foldl insK [] := by
  unfold met
  congr 1
  apply List.ext_getElem (by simp)
  intro i h1 h2
  simp at h1
  simp [List.getD, h1]
theorem cr_set (hc : X.calm = true) : CallR X (.type "set") (fun xs H Q => ∃ (a : Addr) (ks : List Key), xs = [.ref a] ∧ SqT X.K H a (ks.map kV) ∧ ks.length + 1 < 4096 ∧ ∀ p, H p = none → Q (.ref p) (upd H p (SetH X.prog X.w p (ks.foldl insK [])))) := by
  intro pins s σ H xs us Q I r h
  obtain ⟨a, ks, rfl, hq, hb, q⟩ := h
  obtain ⟨u, rfl, ru⟩ := vals1 r
  cases ru
  obtain ⟨its, rv, tp, hz⟩ := I.tuple hq
  have hl : its.length = ks.length := by rw [← rv.length, List.length_map]
  refine call_set_tup (knd := mixKind X.prog X.w) (pk := plK) (I.ok.hd hc) (show s.heap.IsTuple a its.toArray from tp) (fun i => ks.getD i (.inl 0)) (fun i v hv => ?_) (by rw [List.size_toArray, hl]; exact hb) fun h' tk hS k => ?_
  · have hv' : its[i]? = some v := by simpa using hv
    have hi : i < ks.length := by rw [← hl]; exact (List.getElem?_eq_some_iff.mp hv').1
    obtain ⟨u, e1, e2⟩ := rv.get (i := i) (x := kV ks[i]) (by rw [List.getElem?_map, List.getElem?_eq_getElem hi]; rfl)
    rw [hv'] at e1
    cases e1
    have e3 : ks.getD i (.inl 0) = ks[i] := by simp [List.getD, hi]
    simp only [e3]
    exact ⟨kV_is e2, (key_sc e2).1, (key_sc e2).2⟩
  · have es0 : its.toArray.size = ks.length := by rw [List.size_toArray, hl]
    rw [es0, met_getD] at hS
    refine ⟨.ref s.heap.objs.size, _, I.laid (t' := tk) (o := SetH X.prog X.w s.heap.objs.size (ks.foldl insK [])) (fun b o e => k b o (Heap.lt_size e) e) (Nat.le_refl _) ⟨hS, ?_, fun h1 h2 z k => z.keep k⟩, rfl, q _ I.fresh⟩
    obtain ⟨o, es, ep, t, ho, _⟩ := hS
    exact ⟨o, ho⟩
theorem SetK.len {h : Heap} {p : Addr} {ks : List Key} {P : Program} {w : World} {es : Array (Int × Value)} (hl : ∃ l : List (Int × Value), l.Perm es.toList ∧ Paired (MemE (mixKind P w)) ks l) : es.size = ks.length := by
  obtain ⟨l, pm, r⟩ := hl
  have e1 := pm.length_eq
  have e2 := paired_len' r
  simp only [Array.length_toList] at e1
  omega
theorem set_inner {a : Expr} (hc : X.calm = true) (hy : y = "set") (hm2 : X.mg y = none) (ha : SE X W a fe) (hg2 : Gl X y) (he : starEach [a] X.env = (false, eval a X.env) :: starEach [] X.env) (hpl : (backTo pos2 (starEach [] X.env)).any (·.1) = false) :
    PE X (.Call (.Name y p2) [a] [] pos2) (tCB (fun xs H Q => ∃ (a : Addr) (ks : List Key), xs = [.ref a] ∧ SqT X.K H a (ks.map kV) ∧ ks.length + 1 < 4096 ∧ ∀ p, H p = none → Q (.ref p) (upd H p (SetH X.prog X.w p (ks.foldl insK [])))) (tCons (tE X W fe) tNil)) := by
  subst hy
  exact pe_callTy (X := X) (p := p2) (pos := pos2) (cr_set hc) hg2 hm2 bb_set (pa_cons ha pa_nil he) (by decide) (by decide) he hpl
theorem SetK.vals {P : Program} {w : World} {ks : List Key} {l : List (Int × Value)} (r : Paired (MemE (mixKind P w)) ks l) : Vals (ks.map kV) (l.map (·.2)) := by
  induction r with
  | nil => exact .nil
  | cons f t ih =>
    rename_i k e ks l
    refine .cons ?_ ih
    obtain ⟨f1, _, _⟩ := f
    rcases keyIs_shape f1 with ⟨i, t, rfl, e⟩ | ⟨x, t, rfl, e⟩
    · exact ⟨t, e⟩
    · exact ⟨t, e⟩
theorem vals_perm : ∀ {us us' : List Value}, us'.Perm us → ∀ {vs : List V}, Vals vs us → ∃ vs' : List V, vs'.Perm vs ∧ Vals vs' us' := by
  intro us us' pm
  induction pm with
  | nil => intro vs r; exact ⟨vs, .refl _, r⟩
  | cons x _ ih =>
    intro vs r
    cases r with
    | cons r1 r2 => obtain ⟨w, p, q⟩ := ih r2; exact ⟨_ :: w, p.cons _, .cons r1 q⟩
  | swap x y l =>
    intro vs r
    cases r with
    | cons r1 r2 => cases r2 with
      | cons r3 r4 => exact ⟨_ :: _ :: _, .swap .., .cons r3 (.cons r1 r4)⟩
  | trans _ _ ih1 ih2 =>
    intro vs r
    obtain ⟨w, p, q⟩ := ih2 r
    obtain ⟨w', p', q'⟩ := ih1 q
    exact ⟨w', p'.trans p, q'⟩
theorem ats_perm {K : PySem.W.Frag} {H : Hp} {J : List Addr} {vs' vs : List V} (pm : vs'.Perm vs) : ∀ {ds : List D}, Ats K H J ds vs → ∃ ds' : List D, ds'.Perm ds ∧ Ats K H J ds' vs' := by
  induction pm with
  | nil => intro ds m; exact ⟨ds, .refl _, m⟩
  | cons x _ ih =>
    intro ds m
    cases ds with
    | nil => cases Ats.nil_iff.mp m
    | cons d ds => obtain ⟨a, b⟩ := m.uncons; obtain ⟨w, p, q⟩ := ih b; exact ⟨d :: w, p.cons _, .cons a q⟩
  | swap x y l =>
    intro ds m
    cases ds with
    | nil => cases Ats.nil_iff.mp m
    | cons d ds => cases ds with
      | nil => cases Ats.nil_iff.mp m.uncons.2
      | cons d2 ds => obtain ⟨a, b⟩ := m.uncons; obtain ⟨a2, b2⟩ := b.uncons; exact ⟨d2 :: d :: ds, .swap .., .cons a2 (.cons a b2)⟩
  | trans _ _ ih1 ih2 =>
    intro ds m
    obtain ⟨w, p, q⟩ := ih2 m
    obtain ⟨w', p', q'⟩ := ih1 q
    exact ⟨w', p'.trans p, q'⟩
theorem insK_mem {K : Type} [DecidableEq K] : ∀ (l ks : List K) (k : K), k ∈ l.foldl insK ks ↔ k ∈ ks ∨ k ∈ l
  | [], ks, k => by simp
  | a :: l, ks, k => by
    rw [List.foldl_cons, insK_mem l, List.mem_cons]
    unfold insK
    split
    · constructor
      · rintro (h | h)
        · exact .inl h
        · exact .inr (.inr h)
      · rintro (h | rfl | h)
        · exact .inl h
        · left; assumption
        · exact .inr h
    · simp only [List.mem_append, List.mem_singleton]
      constructor
      · rintro ((h | h) | h)
        · exact .inl h
        · exact .inr (.inl h)
        · exact .inr (.inr h)
      · rintro (h | h | h)
        · exact .inl (.inl h)
        · exact .inl (.inr h)
        · exact .inr h
theorem insK_len {K : Type} [DecidableEq K] : ∀ (l ks : List K), (l.foldl insK ks).length ≤ ks.length + l.length
  | [], ks => Nat.le_refl _
  | a :: l, ks => by
    rw [List.foldl_cons]
    have := insK_len l (insK ks a)
    have h2 : (insK ks a).length ≤ ks.length + 1 := by unfold insK; split <;> simp
    rw [List.length_cons]; omega
theorem insK_map (f : Str → Key) (hf : ∀ a b, f a = f b → a = b) : ∀ (l ks : List Str), (l.map f).foldl insK (ks.map f) = (l.foldl insK ks).map f
  | [], ks => rfl
  | a :: l, ks => by
    rw [List.map_cons, List.foldl_cons, List.foldl_cons, ← insK_map f hf]
    congr 1
    unfold insK
    by_cases h : a ∈ ks
    · rw [if_pos h, if_pos (List.mem_map_of_mem h)]
    · rw [if_neg h, if_neg, List.map_append]
      · rfl
      · intro hm
        obtain ⟨b, hb, e⟩ := List.mem_map.mp hm
        exact h (hf b a e ▸ hb)
theorem Inv.moved {pins : List (Addr × Obj)} {σ : St} {H : Hp} {s s' : Shared} (I : Inv X pins σ H s) (k : ∀ b o, s.heap.get? b = some o → s'.heap.get? b = some o) (g : s'.gens = s.gens) (o : s'.os = s.os) : Inv X pins σ H s' := by
  obtain ⟨h', g', d', t', o'⟩ := s'
  cases g; cases o
  exact I.call (d' := d') (t' := t') (g' := s.gens) (ch := []) (Un.kept k) (I.hok.kept k) I.bare fun b z => absurd z (by simp)
theorem cr_sortedSet (hc : X.calm = true) : CallR X (.builtin "sorted") (fun xs H Q => ∃ (p : Addr) (ss : List Str) (J : List Addr) (out : List D), xs = [.ref p] ∧ H p = some (SetH X.prog X.w p (ss.map Sum.inr)) ∧ (∀ a ∈ J, H a ≠ none) ∧ (∀ x ∈ ss, okS x) ∧ sortL (ss.map .str) = some out ∧ ∀ H' v, Same H H' → At X.K H' J (.lst out) v → Q v H') := by
  intro pins s σ H xs us Q I r h
  obtain ⟨p, ss, J, out, rfl, hp, hJ, hok, e, q⟩ := h
  obtain ⟨u, rfl, ru⟩ := vals1 r
  cases ru
  obtain ⟨⟨o, es, ep, t, ho, hex, hd, hl, hb, hf, hled, hpl⟩, _, _⟩ := I.hok p _ hp
  obtain ⟨l, pm, rl⟩ := id hl
  have ez := SetK.len (h := s.heap) (p := p) hl
  have hz : es.size ≤ sizeLine := Nat.le_of_lt (Nat.lt_of_lt_of_le hb (by decide))
  have hpl' : t.plain = false ∨ es.size ≤ 1 := by
    cases hq : t.plain with
    | false => exact .inl rfl
    | true =>
      refine .inr ?_
      rw [ez]
      cases ss with
      | nil => simp
      | cons a b => have := hpl hq (Sum.inr a) (by simp); cases this
  refine sorted_of hJ e q fun Q' E hQ => ?_
  have hh : X.A.in1.handled = none := I.ok.hd hc
  refine collect_via (.inl rfl) ⟨o, ho, hex.1⟩ (fun us => us.Perm (l.map (·.2))) (fun h0 Q2 E2 k0 hgo => ?_) fun s' acc hperm k g os => ?_
  · refine pyIter_set (s := { s with heap := h0 }) (k0 _ _ ho) hex hd hf hz (fun hb => by rw [hled, hb]; rfl) hpl' fun it ot fp F first h' d y si hF k1 hle hfp => ?_
    have hne : p ≠ it := fun z => by
      have h1 : p < h0.objs.size := Heap.lt_size (k0 _ _ ho)
      rw [z] at h1
      exact absurd (Nat.lt_of_lt_of_le h1 hle) (Nat.lt_irrefl _)
    refine hgo it fp [it] es.size _ _ _ ((Walks.set (A := X.A.in1.in1) hh y hne hex hd hf).toS) ⟨k1 _ _ (k0 _ _ ho), first, si, hF⟩ hz hfp (fun b hb => by rw [List.mem_singleton.mp hb]; exact hle) k1 rfl rfl fun acc ha => ?_
    obtain ⟨a1, a2⟩ := ha
    have osz : ot.size = es.size := by have := y.perm.length_eq; simpa using this
    have e3 : acc.toList = ot.toList.map (·.2) := by
      apply List.ext_getElem? 
      intro i
      by_cases hi : i < es.size
      · have hv : acc[i]? = some acc[i] := Array.getElem?_eq_getElem (by omega)
        have := a2 i _ hv
        rw [List.getElem?_map, Array.getElem?_toList, Array.getElem?_toList, hv, this]
      · rw [List.getElem?_map, Array.getElem?_toList, Array.getElem?_toList, Array.getElem?_eq_none (by omega), Array.getElem?_eq_none (by omega)]; rfl
    rw [e3]
    exact (y.perm.trans pm.symm).map _
  · have rv := SetK.vals rl
    obtain ⟨vs', p1, r1⟩ := vals_perm hperm rv
    have m0 : Ats X.K H J (ss.map .str) ((ss.map Sum.inr).map kV) := by rw [List.map_map]; exact Ats.ofStrs hok
    obtain ⟨ds', p2, m2⟩ := ats_perm p1 m0
    exact hQ acc vs' s' ds' (I.moved k g os) r1 p2 m2
theorem strs_ok {K : PySem.W.Frag} {H : Hp} {J : List Addr} {ss : List Str} {vs : List V} (m : Ats K H J (ss.map .str) vs) : vs = ss.map V.str ∧ ∀ x ∈ ss, okS x := by
  induction ss generalizing vs with
  | nil => exact ⟨Ats.nil_iff.mp m, fun x hx => by cases hx⟩
  | cons a l ih =>
    obtain ⟨v, r, rfl, m1, m2⟩ := Ats.cons_iff.mp m
    obtain ⟨e1, k1⟩ := At.str_iff.mp m1
    obtain ⟨e2, k2⟩ := ih m2
    subst e1 e2
    refine ⟨rfl, fun x hx => ?_⟩
    rcases List.mem_cons.mp hx with rfl | hx
    · exact k1
    · exact k2 x hx
theorem se_sortedSet {a : Expr} (hx : x = "sorted") (hy : y = "set") (hc : X.calm = true) (hm : X.mg x = none) (hm2 : X.mg y = none) (ha : SE X W a fe) (hg : Gl X x := by rfl) (hg2 : Gl X y := by rfl)
    (he : starEach [a] X.env = (false, eval a X.env) :: starEach [] X.env := by rfl)
    (he2 : starEach [(.Call (.Name y p2) [a] [] pos2)] X.env = (false, eval (.Call (.Name y p2) [a] [] pos2) X.env) :: starEach [] X.env := by rfl)
    (hpl : (backTo pos2 (starEach [] X.env)).any (·.1) = false := by rfl) (hpl2 : (backTo pos (starEach [] X.env)).any (·.1) = false := by rfl) :
    SE X W (.Call (.Name x p) [.Call (.Name y p2) [a] [] pos2] [] pos) (cUn sortedSetD fe) := by
  subst hx
  refine PE.imp (pe_callB (cr_sortedSet hc) hg hm bb_sorted (pa_cons (set_inner hc hy hm2 ha hg2 he hpl) pa_nil he2) (by decide) (by decide) he2 hpl2) fun σ H Q h => ?_
  refine (tG.bindE h).mono fun v H1 ⟨d, h1⟩ => ?_
  obtain ⟨J, dx, d', hJ, ax, eq, q⟩ := tG.op1 h1
  unfold sortedSetD at eq
  split at eq
  · rename_i ds
    split at eq
    · rename_i hb
      obtain ⟨ss, e1, e2⟩ := Option.map_eq_some_iff.mp eq
      subst e2
      have ed := strsO_eq e1
      subst ed
      rw [List.length_map] at hb
      obtain ⟨b, vs, rfl, tq, m⟩ := At.tup_iff.mp ax
      obtain ⟨ev, ok⟩ := strs_ok m
      have ev' : vs = (ss.map Sum.inr).map kV := by rw [ev, List.map_map]; rfl
      subst ev'
      show tNil _ _ _
      refine ⟨b, ss.map Sum.inr, rfl, tq.sq, by rw [List.length_map]; omega, fun p hp => ?_⟩
      show tNil _ _ _
      have ei : (ss.map (Sum.inr : Str → Key)).foldl insK [] = (ss.foldl insK []).map Sum.inr := insK_map Sum.inr (fun a b h => by cases h; rfl) ss []
      rw [ei]
      refine ⟨p, ss.foldl insK [], J, _, rfl, upd_same, fun a ha => ?_, fun x hx => ok x ?_, ?_, fun H' v sm m' => q H' v ((same_upd hp _).trans sm) m'⟩
      · by_cases z : a = p
        · rw [z, upd_same]; simp
        · rw [upd_ne z]; exact hJ a ha
      · rcases (insK_mem ss [] x).mp hx with h | h
        · cases h
        · exact h
      · unfold sortL
        have l2 := insK_len ss ([] : List Str)
        rw [if_pos (by rw [List.length_map]; simp only [List.length_nil] at l2; omega), strsO_map]
    · cases eq
  · cases eq
theorem paired_of {α β : Type} {R : α → β → Prop} : ∀ {l : List α} {m : List β}, l.length = m.length → (∀ (i : Nat) a b, l[i]? = some a → m[i]? = some b → R a b) → Paired R l m
  | [], [], _, _ => .nil
  | a :: l, b :: m, h, k => .cons (k 0 a b rfl rfl) (paired_of (by simpa using h) fun i x y hx hy => k (i + 1) x y (by simpa using hx) (by simpa using hy))
  | [], _ :: _, h, _ => by simp at h
  | _ :: _, [], h, _ => by simp at h
theorem paired_get {α β : Type} {R : α → β → Prop} {l : List α} {m : List β} (r : Paired R l m) : ∀ (i : Nat) a b, l[i]? = some a → m[i]? = some b → R a b := by
  induction r with
  | nil => intro i a b h; simp at h
  | cons f t ih =>
    intro i a b h1 h2
    cases i with
    | zero => simp at h1 h2; subst h1 h2; exact f
    | succ i => exact ih i a b (by simpa using h1) (by simpa using h2)
theorem key_rel {P : Program} {w : World} {k : Key} {u : Value} (h : (mixKind P w).is k u = true) : RelV (kV k) u := by
  rcases keyIs_shape h with ⟨i, t, rfl, e⟩ | ⟨x, t, rfl, e⟩
  · exact ⟨t, e⟩
  · exact ⟨t, e⟩
theorem cr_sortDict (hc : X.calm = true) : CallR X (.builtin "sorted") (fun xs H Q => ∃ (p : Addr) (ps : List (Key × V)) (J : List Addr) (ds out : List D), xs = [.ref p] ∧ H p = some (.dK ps) ∧ (∀ a ∈ J, H a ≠ none) ∧ Ats X.K H J ds (ps.map fun q => kV q.1) ∧ sortL ds = some out ∧ ∀ H' v, Same H H' → At X.K H' J (.lst out) v → Q v H') := by
  intro pins s σ H xs us Q I r h
  obtain ⟨p, ps, J, ds, out, rfl, hp, hJ, m, e, q⟩ := h
  obtain ⟨u, rfl, ru⟩ := vals1 r
  cases ru
  obtain ⟨hz, hsys, vs, hkv, hd⟩ := I.hok p _ hp
  obtain ⟨ep, hda⟩ := hd.dictAt
  have hlen : vs.length = ps.length := (KV.length hkv).symm
  refine sorted_of hJ e q fun Q' E hQ => ?_
  have hh : X.A.in1.handled = none := I.ok.hd hc
  refine collect_via (.inr rfl) hd.typeIs (fun us => Vals (ps.map fun q => kV q.1) us) (fun h0 Q2 E2 k0 hgo => ?_) fun s' acc hv k g os => ?_
  · have hd0 : h0.DictAt (mixKind X.prog X.w) p vs ep := hda.keep k0
    refine wpAny_pyIter_dict (s := { s with heap := h0 }) hsys hd0 ?_
    have hpl : p < h0.objs.size := hd0.lt_size
    refine hgo h0.objs.size [h0.objs.size, p] [h0.objs.size] vs.length _ _ _ ((Walks.dictKeys (A := X.A.in1.in1) hh h0.objs.size p (Nat.ne_of_lt hpl) vs ep).toS) ⟨⟨_, Heap.get?_push_size _ rfl, rfl, rfl⟩, hd0.push _⟩ (by rw [hlen]; exact hz)
      (fun b hb => by
        rcases List.mem_cons.mp hb with z | hb
        · rw [z]; exact .inr (Nat.le_refl _)
        · exact .inl (List.mem_singleton.mp hb))
      (fun b hb => by rw [List.mem_singleton.mp hb]; exact Nat.le_refl _) (fun b o e => Heap.get?_push_of_some _ e) rfl rfl fun acc ha => ?_
    obtain ⟨a1, a2⟩ := ha
    refine paired_of (by have e1 : acc.toList.length = acc.size := Array.length_toList; rw [List.length_map, e1, a1, hlen]) fun i v u hv hu => ?_
    rw [Array.getElem?_toList] at hu
    obtain ⟨k, x, e1, e2⟩ := a2 i u hu
    rw [List.getElem?_map] at hv
    obtain ⟨q, e3, e4⟩ := Option.map_eq_some_iff.mp hv
    have e5 := (paired_get hkv i q (k, x) e3 e1).1
    rw [← e4, e5]
    exact key_rel e2
  · exact hQ acc _ s' ds (I.moved k g os) hv (.refl _) m
theorem se_sort (hx : x = "sorted") (hc : X.calm = true) (hm : X.mg x = none) (ha : SE X W e fe) (hg : Gl X x := by rfl) (he : starEach [e] X.env = (false, eval e X.env) :: starEach [] X.env := by rfl) (hpl : (backTo pos (starEach [] X.env)).any (·.1) = false := by rfl) :
    SE X W (.Call (.Name x p) [e] [] pos) (cSort fe) := by
  subst hx
  refine SE.either (g1 := cCall sortD (cCons fe cNil)) (g2 := fun ρ S => bindO (fe ρ S) fun d S1 => valO (match d with | .loc l => (match S1[l]? with | some (.dict kvs) => (sortL (kvs.map (·.1))).map .lst | _ => none) | _ => none) S1)
    (se_callB cd_sort hm bb_sorted (sa_cons ha sa_nil he) hg (by decide) (by decide) he hpl) ?_ fun ρ S => ?_
  · refine PE.imp (pe_callB (cr_sortDict hc) hg hm bb_sorted (pa_cons ha pa_nil he) (by decide) (by decide) he hpl) fun σ H Q h => ?_
    refine (tG.bindE h).mono fun v H1 ⟨d, h1⟩ => ?_
    obtain ⟨J, ρ, S, r, S', c, m, eq, z⟩ := h1
    obtain ⟨m, _⟩ := m.uncons
    show tNil _ _ _
    cases d with
    | loc l =>
      obtain ⟨a, rfl, hl⟩ := At.loc_iff.mp m
      cases hS : S[l]? with
      | none => simp [hS] at eq
      | some mo =>
        cases mo with
        | lst xs => simp [hS] at eq
        | dict kvs =>
          simp only [hS] at eq
          cases hq : sortL (kvs.map (·.1)) with
          | none => simp [hq] at eq
          | some out =>
            simp only [hq, Option.map_some, valO_some, okO] at eq
            cases eq
            obtain ⟨ps, hp, hkv⟩ := c.sto.at_ l a _ hl hS
            refine ⟨a, ps, J, kvs.map (·.1), out, rfl, hp, c.sto.all, ?_, hq, fun H' v sm m' => z J H' v (Ex.same sm) (c.sto.same sm) m'⟩
            clear hq hS z hp
            induction hkv with
            | nil => exact .nil
            | cons f t ih => exact .cons f.1.2 ih
    | _ => simp at eq
  · unfold cSort cCall cCons cNil
    cases q : fe ρ S with
    | none => exact .inl rfl
    | some o =>
      obtain ⟨ro, S1⟩ := o
      cases ro with
      | error c => exact .inl rfl
      | ok d => cases d <;> first | exact .inl rfl | exact .inr rfl
end
end L2
namespace L2
open PySem PySem.Spec PyProof.Rows PySem.W
mutual
inductive Lit : Expr → D → Prop
  | int {i : Int} {j p} : Lit (.Constant (.int i) j p) (.int i)
  | bl {b : Bool} {j p} : Lit (.Constant (.bool b) j p) (.bl b)
  | non {j p} : Lit (.Constant .none j p) .non
  | str {x : Str} {j p} (hx : okS x) : Lit (.Constant (.str x) j p) (.str x)
  | neg {i : Int} {j p q} : Lit (.UnaryOp .USub (.Constant (.int i) j p) q) (.int (-i))
  | tup {es : List Expr} {ds : List D} {k p} (h : Lits es ds) (n : ds.length ≤ 1000) : Lit (.Tuple es k p) (.tup ds)
  | lst {es : List Expr} {ds : List D} {p} (h : Lits es ds) (n : ds.length ≤ 1000) : Lit (.List es p) (.lst ds)
inductive Lits : List Expr → List D → Prop
  | nil : Lits [] []
  | cons {e : Expr} {d : D} {es : List Expr} {ds : List D} (h : Lit e d) (r : Lits es ds) : Lits (e :: es) (d :: ds)
end
section
variable {X : Cx} {W : WT}
theorem SE.eq {e : Expr} {g g' : Rho → Sto → Out D} (h : SE X W e g) (q : g = g') : SE X W e g' := q ▸ h
theorem SA.eq {e : List Expr} {g g' : Rho → Sto → Out (List D)} (h : SA X W e g) (q : g = g') : SA X W e g' := q ▸ h
theorem star_lit {e : Expr} {d : D} (h : Lit e d) (es : List Expr) : starEach (e :: es) X.env = (false, eval e X.env) :: starEach es X.env := by
  cases h <;> rfl
mutual
theorem se_lit : ∀ {e : Expr} {d : D}, Lit e d → SE X W e (cCon d)
  | _, _, .int => se_int
  | _, _, .bl => se_bl
  | _, _, .non => se_non
  | _, _, .str hx => se_str hx
  | _, _, .neg => SE.eq (se_un ud_neg se_int) rfl
  | _, _, .tup (ds := ds) h n => SE.eq (se_tup (sa_lit h)) (by
      funext ρ S
      show valO (szO ds (.tup ds)) S = okO (.tup ds) S
      unfold szO
      rw [if_pos (Nat.le_trans n (by decide))]; rfl)
  | _, _, .lst (ds := ds) h n => SE.eq (se_lst (sa_lit h)) (by
      funext ρ S
      show valO (szO ds (.lst ds)) S = okO (.lst ds) S
      unfold szO
      rw [if_pos (Nat.le_trans n (by decide))]; rfl)
theorem sa_lit : ∀ {es : List Expr} {ds : List D}, Lits es ds → SA X W es (fun _ S => okO ds S)
  | _, _, .nil => sa_nil
  | _, _, .cons h r => SA.eq (sa_cons (se_lit h) (sa_lit r) (star_lit h _)) rfl
end
end
end L2
namespace L2
open PySem PyProof.Rows
section
variable (f g : Rho → Sto → Out D) (ρ : Rho) (S : Sto) (i : Nat) (k : Bool)
@[simp] theorem e_con (d : D) : cCon d ρ S = okO d S := rfl
@[simp] theorem e_bin (op : D → D → Option D) : cBin op f g ρ S = bindO (f ρ S) fun x S1 => bindO (g ρ S1) fun y S2 => valO (op x y) S2 := rfl
@[simp] theorem e_un (op : D → Option D) : cUn op f ρ S = bindO (f ρ S) fun x S1 => valO (op x) S1 := rfl
@[simp] theorem e_tst : cTst f ρ S = bindO (f ρ S) fun x S1 => valO (blO x) S1 := rfl
@[simp] theorem e_chain (a b : D → D → Option D) (h : Rho → Sto → Out D) : cChain a b f g h ρ S = bindO (f ρ S) fun x S1 => bindO (g ρ S1) fun y S2 => bindO (valO ((a x y).bind blO) S2) fun k S3 => if k = true then bindO (h ρ S3) fun z S4 => valO (b y z) S4 else okO (.bl false) S3 := rfl
@[simp] theorem e_andT (a b : Rho → Sto → Out Bool) : cAndT a b ρ S = bindO (a ρ S) fun k S1 => if k = true then b ρ S1 else okO false S1 := rfl
@[simp] theorem e_orT (a b : Rho → Sto → Out Bool) : cOrT a b ρ S = bindO (a ρ S) fun k S1 => if k = true then okO true S1 else b ρ S1 := rfl
@[simp] theorem e_notT (a : Rho → Sto → Out Bool) : cNotT a ρ S = bindO (a ρ S) fun k S1 => okO (!k) S1 := rfl
@[simp] theorem e_and : cAnd f g ρ S = bindO (f ρ S) fun x S1 => bindO (valO (blO x) S1) fun k S2 => if k = true then g ρ S2 else okO (.bl false) S2 := rfl
@[simp] theorem e_or : cOr f g ρ S = bindO (f ρ S) fun x S1 => bindO (valO (blO x) S1) fun k S2 => if k = true then okO (.bl true) S2 else g ρ S2 := rfl
@[simp] theorem e_not : cNot f ρ S = bindO (f ρ S) fun x S1 => bindO (valO (blO x) S1) fun k S2 => okO (.bl (!k)) S2 := rfl
@[simp] theorem e_ite (t : Rho → Sto → Out Bool) : cIte t f g ρ S = bindO (t ρ S) fun k S1 => if k = true then f ρ S1 else g ρ S1 := rfl
@[simp] theorem e_nil : cNil ρ S = okO [] S := rfl
@[simp] theorem e_cons (t : Rho → Sto → Out (List D)) : cCons f t ρ S = bindO (f ρ S) fun d S1 => bindO (t ρ S1) fun ds S2 => okO (d :: ds) S2 := rfl
@[simp] theorem e_tup (t : Rho → Sto → Out (List D)) : cTup t ρ S = bindO (t ρ S) fun ds S1 => valO (szO ds (.tup ds)) S1 := rfl
@[simp] theorem e_lst (t : Rho → Sto → Out (List D)) : cLst t ρ S = bindO (t ρ S) fun ds S1 => valO (szO ds (.lst ds)) S1 := rfl
@[simp] theorem e_call (h : List D → Option D) (t : Rho → Sto → Out (List D)) : cCall h t ρ S = bindO (t ρ S) fun ds S1 => valO (h ds) S1 := rfl
@[simp] theorem e_next : cNext ρ S = okO (.next ρ) S := rfl
@[simp] theorem e_seq (a b : Rho → Sto → Out Fl) : cSeq a b ρ S = bindO (a ρ S) fun fl S1 => match fl with
  | .next ρ' => b ρ' S1
  | o => okO o S1 := rfl
@[simp] theorem e_ret : cRet f ρ S = bindO (f ρ S) fun d S1 => okO (.ret d) S1 := rfl
@[simp] theorem e_if (t : Rho → Sto → Out Bool) (a b : Rho → Sto → Out Fl) : cIf t a b ρ S = bindO (t ρ S) fun k S1 => if k = true then a ρ S1 else b ρ S1 := rfl
@[simp] theorem e_set : cSet i f ρ S = bindO (f ρ S) fun d S1 => okO (.next (ρ.set i (some d))) S1 := rfl
@[simp] theorem e_for (fi : Rho → Sto → Out (List D)) (u : D → Rho → Option Rho) (b : Rho → Sto → Out Fl) : cFor fi u b ρ S = bindO (fi ρ S) fun ds S1 => loopF u b ds ρ S1 := rfl
@[simp] theorem e_rng (h : List D → Option (List D)) (t : Rho → Sto → Out (List D)) : cRng h t ρ S = bindO (t ρ S) fun ds S1 => valO (h ds) S1 := rfl
@[simp] theorem e_seqIt : cSeqIt f ρ S = bindO (f ρ S) fun d S1 => valO (seqItD d) S1 := rfl
@[simp] theorem e_true : cTrue ρ S = okO true S := rfl
@[simp] theorem e_def (F : List D → Sto → Out D) (t : Rho → Sto → Out (List D)) : cDef F t ρ S = bindO (t ρ S) fun ds S1 => noErr (F ds S1) := rfl
@[simp] theorem e_noErr (d : D) : noErr (okO d S) = okO d S := rfl
@[simp] theorem e_noErr' (d : D) : noErr (some (.ok d, S)) = okO d S := rfl
@[simp] theorem e_ix : cIx f g ρ S = bindO (f ρ S) fun x S1 => bindO (g ρ S1) fun y S2 => valO (ixO x y S2) S2 := rfl
@[simp] theorem e_in : cIn k f g ρ S = bindO (f ρ S) fun x S1 => bindO (g ρ S1) fun y S2 => valO (inO k x y S2) S2 := rfl
@[simp] theorem e_sort : cSort f ρ S = bindO (f ρ S) fun d S1 => valO (sortAnyO d S1) S1 := rfl
@[simp] theorem e_new : cNewD ρ S = okO (.loc S.length) (S ++ [.dict []]) := rfl
@[simp] theorem e_put (h : Rho → Sto → Out D) : cPut f g h ρ S = bindO (h ρ S) fun v S1 => bindO (f ρ S1) fun x S2 => bindO (g ρ S2) fun k S3 => putO x k v ρ S3 := rfl
@[simp] theorem e_comp (n : Nat) (ix : List Nat) (fi : Rho → Sto → Out (List D)) (u : D → Rho → Option Rho) (gt : Rho → Sto → Out Bool) : cComp n ix fi u gt f ρ S = bindO (fi ρ S) fun ds S1 =>
  match compF u gt f ds (caps n ix ρ) S1 with
  | some (out, S2) => okO (.lst out) S2
  | none => none := rfl
@[simp] theorem e_sl (op : D → Option Int → Option Int → Option D) (lo hi : Option (Rho → Sto → Out D)) : cSl op f lo hi ρ S = bindO (f ρ S) fun x S1 => bindO (cPart lo ρ S1) fun l S2 => bindO (cPart hi ρ S2) fun u S3 => valO (op x l u) S3 := rfl
@[simp] theorem e_part0 : cPart none ρ S = okO none S := rfl
@[simp] theorem e_part1 : cPart (some f) ρ S = bindO (f ρ S) fun d S1 => valO (intO d) S1 := rfl
@[simp] theorem e_met (kk : D → Bool) (op : D → D → Option D) : cMet kk op f g ρ S = bindO (f ρ S) fun x S1 => if kk x = true then bindO (g ρ S1) fun y S2 => valO (op x y) S2 else none := rfl
@[simp] theorem e_var (d : D) (h : ρ[i]? = some (some d)) : cVar i ρ S = okO d S := by unfold cVar; rw [h]
@[simp] theorem e_uName (d : D) : uName i d ρ = some (ρ.set i (some d)) := rfl
@[simp] theorem e_blO (b : Bool) : blO (.bl b) = some b := rfl
end
@[simp] theorem szO_some {ds : List D} {d : D} (h : ds.length ≤ 1000) : szO ds d = some d := by
  unfold szO; rw [if_pos (Nat.le_trans h (by decide))]
theorem runD_ret {n m : Nat} {G : Rho → Sto → Out Fl} {ds : List D} {S S' : Sto} {d : D} (hl : ds.length = n) (h : G (ds.map some ++ List.replicate m none) S = okO (.ret d) S') : runD n m G ds S = okO d S' := by
  unfold runD; rw [if_pos hl, h]; rfl
theorem compF_eq {u : D → Rho → Option Rho} {gt : Rho → Sto → Out Bool} {fe : Rho → Sto → Out D} (I : Rho → Prop) (g : D → Bool) (f : D → D) (S : Sto) :
    ∀ (ds : List D) (ρ : Rho), I ρ → (∀ d ∈ ds, ∀ ρ, I ρ → ∃ ρ1, u d ρ = some ρ1 ∧ I ρ1 ∧ gt ρ1 S = okO (g d) S ∧ (g d = true → fe ρ1 S = okO (f d) S)) → compF u gt fe ds ρ S = some ((ds.filter g).map f, S)
  | [], ρ, _, _ => rfl
  | d :: ds, ρ, hI, h => by
    obtain ⟨ρ1, e1, i1, e2, e3⟩ := h d (List.mem_cons_self ..) ρ hI
    have ih := compF_eq I g f S ds ρ1 i1 fun x hx => h x (List.mem_cons_of_mem _ hx)
    rw [compF, e1, Option.bind_some, e2]
    simp only [okO, okP, Option.bind_some]
    by_cases hg : g d = true
    · rw [if_pos hg, e3 hg]
      simp only [okO, okP, Option.bind_some, ih, Option.map_some, List.filter_cons, hg, if_true, List.map_cons]
    · rw [if_neg hg, ih, List.filter_cons, if_neg hg]
theorem compF_all {u : D → Rho → Option Rho} {fe : Rho → Sto → Out D} (I : Rho → Prop) (f : D → D) (S : Sto) (ds : List D) (ρ : Rho) (hI : I ρ)
    (h : ∀ d ∈ ds, ∀ ρ, I ρ → ∃ ρ1, u d ρ = some ρ1 ∧ I ρ1 ∧ fe ρ1 S = okO (f d) S) : compF u cTrue fe ds ρ S = some (ds.map f, S) := by
  have q := compF_eq (u := u) (gt := cTrue) (fe := fe) I (fun _ => true) f S ds ρ hI fun d hd ρ hr => by
    obtain ⟨ρ1, e1, i1, e2⟩ := h d hd ρ hr
    exact ⟨ρ1, e1, i1, rfl, fun _ => e2⟩
  rw [q, List.filter_eq_self.mpr fun _ _ => rfl]
theorem loopF_go {u : D → Rho → Option Rho} {body : Rho → Sto → Out Fl} (I : Nat → Rho → Sto → Prop) : ∀ (ds : List D) (i : Nat) (ρ : Rho) (S : Sto), I i ρ S →
    (∀ (j : Nat) d ρ S, ds[j]? = some d → I (i + j) ρ S → ∃ ρ1, u d ρ = some ρ1 ∧ ∃ ρ' S', body ρ1 S = okO (.next ρ') S' ∧ I (i + j + 1) ρ' S') → ∃ ρ' S', loopF u body ds ρ S = okO (.next ρ') S' ∧ I (i + ds.length) ρ' S'
  | [], i, ρ, S, hI, _ => ⟨ρ, S, rfl, hI⟩
  | d :: ds, i, ρ, S, hI, h => by
    obtain ⟨ρ1, e1, ρ', S', e2, i2⟩ := h 0 d ρ S rfl hI
    obtain ⟨ρ2, S2, e3, i3⟩ := loopF_go I ds (i + 1) ρ' S' i2 fun j x ρ S hx hi => by
      obtain ⟨a, b, c, d, e, f⟩ := h (j + 1) x ρ S (by simpa using hx) (by rw [show i + (j + 1) = i + 1 + j by omega]; exact hi)
      exact ⟨a, b, c, d, e, by rw [show i + 1 + j + 1 = i + (j + 1) + 1 by omega]; exact f⟩
    refine ⟨ρ2, S2, ?_, by rw [List.length_cons, show i + (ds.length + 1) = i + 1 + ds.length by omega]; exact i3⟩
    rw [loopF, e1]
    simp only [e2, bindO_ok]
    exact e3
theorem loopF_seek {u : D → Rho → Option Rho} {body : Rho → Sto → Out Fl} (I : Nat → Rho → Prop) (good : Nat → D → Bool) (r : D) (S : Sto) : ∀ (ds : List D) (i : Nat) (ρ : Rho), I i ρ →
    (∀ (j : Nat) d ρ, ds[j]? = some d → I (i + j) ρ → ∃ ρ1, u d ρ = some ρ1 ∧ (good (i + j) d = true → ∃ ρ', body ρ1 S = okO (.next ρ') S ∧ I (i + j + 1) ρ') ∧ (good (i + j) d = false → body ρ1 S = okO (.ret r) S)) →
    ((∀ (j : Nat) d, ds[j]? = some d → good (i + j) d = true) ∧ ∃ ρ', loopF u body ds ρ S = okO (.next ρ') S ∧ I (i + ds.length) ρ') ∨ ((∃ (j : Nat) (d : D), ds[j]? = some d ∧ good (i + j) d = false) ∧ loopF u body ds ρ S = okO (.ret r) S)
  | [], i, ρ, hI, _ => .inl ⟨fun j d h => by simp at h, ρ, rfl, hI⟩
  | d :: ds, i, ρ, hI, h => by
    obtain ⟨ρ1, e1, e2, e3⟩ := h 0 d ρ rfl hI
    rw [loopF, e1]
    cases hg : good (i + 0) d with
    | false => exact .inr ⟨⟨0, d, rfl, hg⟩, by simp only [e3 hg, bindO_ok]⟩
    | true =>
      obtain ⟨ρ', e4, i4⟩ := e2 hg
      simp only [e4, bindO_ok]
      rcases loopF_seek I good r S ds (i + 1) ρ' i4 fun j x ρ hx hi => by
        obtain ⟨a, b, c, d⟩ := h (j + 1) x ρ (by simpa using hx) (by rw [show i + (j + 1) = i + 1 + j by omega]; exact hi)
        rw [show i + (j + 1) = i + 1 + j by omega] at c d
        exact ⟨a, b, c, d⟩ with ⟨a, ρ2, b, c⟩ | ⟨⟨j, x, a, b⟩, c⟩
      · refine .inl ⟨fun j x hx => ?_, ρ2, b, by rw [List.length_cons, show i + (ds.length + 1) = i + 1 + ds.length by omega]; exact c⟩
        cases j with
        | zero => simp at hx; subst hx; exact hg
        | succ j => rw [show i + (j + 1) = i + 1 + j by omega]; exact a j x (by simpa using hx)
      · exact .inr ⟨⟨j + 1, x, by simpa using a, by rw [show i + (j + 1) = i + 1 + j by omega]; exact b⟩, c⟩
mutual
def pl : D → Bool
  | .tup ds => pls ds
  | .lst ds => pls ds
  | .set _ => false
  | .loc _ => false
  | _ => true
def pls : List D → Bool
  | [] => true
  | d :: ds => pl d && pls ds
end
theorem pls_iff : ∀ {ds : List D}, pls ds = true ↔ ∀ d ∈ ds, pl d = true
  | [] => by simp [pls]
  | d :: ds => by rw [pls, Bool.and_eq_true, pls_iff (ds := ds)]; simp
mutual
theorem toPy_pl : ∀ {d : D}, pl d = true → ∃ p, toPy d = some p
  | .non, _ => ⟨_, rfl⟩
  | .bl _, _ => ⟨_, rfl⟩
  | .int _, _ => ⟨_, rfl⟩
  | .str _, _ => ⟨_, rfl⟩
  | .tup ds, h => by
    rw [pl] at h
    obtain ⟨ps, e⟩ := toPys_pl h
    exact ⟨.tuple ps, by rw [toPy, e]; rfl⟩
  | .lst ds, h => by
    rw [pl] at h
    obtain ⟨ps, e⟩ := toPys_pl h
    exact ⟨.list ps, by rw [toPy, e]; rfl⟩
  | .set _, h => by simp [pl] at h
  | .loc _, h => by simp [pl] at h
theorem toPys_pl : ∀ {ds : List D}, pls ds = true → ∃ ps, toPys ds = some ps
  | [], _ => ⟨[], rfl⟩
  | d :: ds, h => by
    rw [pls, Bool.and_eq_true] at h
    obtain ⟨p, e1⟩ := toPy_pl h.1
    obtain ⟨ps, e2⟩ := toPys_pl h.2
    exact ⟨p :: ps, by rw [toPys, e1, e2]; rfl⟩
end
theorem toPys_len : ∀ {ds : List D} {ps : List PyData}, toPys ds = some ps → ps.length = ds.length
  | [], ps, e => by cases e; rfl
  | d :: ds, ps, e => by
    rw [toPys] at e
    obtain ⟨p, _, e2⟩ := Option.bind_eq_some_iff.mp e
    obtain ⟨r, e3, e4⟩ := Option.map_eq_some_iff.mp e2
    subst e4
    rw [List.length_cons, List.length_cons, toPys_len e3]
theorem beqd {α : Type} [BEq α] [LawfulBEq α] [DecidableEq α] (a b : α) : (a == b) = decide (a = b) := by by_cases h : a = b <;> simp [h]
@[simp] theorem eqD_int (i j : Int) : eqD (.int i) (.int j) = some (.bl (decide (i = j))) := by simp [eqD, toPy, PyData.eqv, PyData.depth, beqd]
@[simp] theorem neD_int (i j : Int) : neD (.int i) (.int j) = some (.bl (!decide (i = j))) := by simp [neD, toPy, PyData.eqv, PyData.depth, beqd]
@[simp] theorem eqD_bl (a b : Bool) : eqD (.bl a) (.bl b) = some (.bl (a == b)) := by simp [eqD, toPy, PyData.eqv, PyData.depth]
theorem toPys_strs : ∀ l : List Str, toPys (l.map .str) = some (l.map .str)
  | [] => rfl
  | a :: l => by rw [List.map_cons, toPys, toPys_strs l]; rfl
theorem eqv_strs : ∀ l m : List Str, PyData.eqvAll (l.map .str) (m.map .str) = decide (l = m)
  | [], [] => rfl
  | [], b :: m => by simp [PyData.eqvAll]
  | a :: l, [] => by simp [PyData.eqvAll]
  | a :: l, b :: m => by
    rw [List.map_cons, List.map_cons, PyData.eqvAll, eqv_strs l m]
    simp only [PyData.eqv, List.cons.injEq]
    by_cases h : a = b <;> by_cases h2 : l = m <;> simp [h, h2]
theorem depth_strs : ∀ l : List Str, PyData.depthAll (l.map .str) = 0
  | [] => rfl
  | a :: l => by rw [List.map_cons, PyData.depthAll, depth_strs l]; rfl
theorem eqD_tupS (l m : List Str) : eqD (.tup (l.map .str)) (.tup (m.map .str)) = some (.bl (decide (l = m))) := by
  simp [eqD, toPy, toPys_strs, PyData.eqv, PyData.depth, depth_strs, eqv_strs]
theorem neD_nil {ds : List D} (h : pls ds = true) : neD (.lst ds) (.lst []) = some (.bl (!ds.isEmpty)) := by
  obtain ⟨ps, e⟩ := toPys_pl h
  have e1 : toPy (.lst ds) = some (.list ps) := by rw [toPy, e]; rfl
  have l := toPys_len e
  have e2 : toPy (.lst []) = some (.list []) := rfl
  unfold neD
  rw [e1, e2]
  cases ps with
  | nil => cases ds with
    | nil => simp [PyData.depth, PyData.depthAll, PyData.eqv, PyData.eqvAll]
    | cons _ _ => simp at l
  | cons p ps => cases ds with
    | nil => simp at l
    | cons _ _ => simp [PyData.depth, PyData.depthAll, PyData.eqv, PyData.eqvAll]
theorem in3 (x a b c : Str) : inD (.str x) (.tup [.str a, .str b, .str c]) = some (.bl (decide (a = x) || (decide (b = x) || decide (c = x)))) := by
  simp [inD, hasD, toPy, toPys, seqD, PyData.eqv, PyData.depth, beqd]
theorem bls_map (f : D → Bool) : ∀ ds : List D, blsO (ds.map fun d => .bl (f d)) = some (ds.map f)
  | [] => rfl
  | d :: ds => by rw [List.map_cons, blsO, bls_map f ds]; rfl
theorem allD_map (f : D → Bool) (ds : List D) : allD [.lst (ds.map fun d => .bl (f d))] = some (.bl (ds.all f)) := by
  rw [allD, bls_map]
  simp [List.all_map]
end L2
namespace K02
open PySem L2
def g_is_number_below : Rho → Sto → Out Fl :=
    (cRet (cAnd (cUn (isiD "int") (cVar 0)) (cAnd (cNot (cUn (isiD "bool") (cVar 0))) (cChain leD ltD (cCon (.int 0)) (cVar 0) (cVar 1)))))
def F_is_number_below : List D → Sto → Out D := runD 2 0 g_is_number_below
def g_is_tuple_of : Rho → Sto → Out Fl :=
    (cRet (cAnd (cUn (isiD "tuple") (cVar 0)) (cBin eqD (cCall lenD (cCons (cVar 0) cNil)) (cVar 1))))
def F_is_tuple_of : List D → Sto → Out D := runD 2 0 g_is_tuple_of
def e_has_plain_letters_1 : Rho → Sto → Out D :=
    (cChain leD leD (cCon (.str "a")) (cVar 0) (cCon (.str "z")))
def g_has_plain_letters : Rho → Sto → Out Fl :=
    (cRet (cCall allD (cCons (cComp 1 [] (cSeqIt (cVar 0)) (uName 0) cTrue e_has_plain_letters_1) cNil)))
def F_has_plain_letters : List D → Sto → Out D := runD 1 0 g_has_plain_letters
def g_is_name : Rho → Sto → Out Fl :=
    (cSeq (cIf (cOrT (cNotT (cTst (cUn (isiD "str") (cVar 0)))) (cTst (cIn false (cVar 0) (cCon (D.tup [(D.str "names"), (D.str "ask"), (D.str "end")]))))) (cRet (cCon (.bl false))) cNext)
    (cRet (cAnd (cChain leD leD (cCon (.int 1)) (cCall lenD (cCons (cVar 0) cNil)) (cCon (D.int 8))) (cDef F_has_plain_letters (cCons (cVar 0) cNil)))))
def F_is_name : List D → Sto → Out D := runD 1 0 g_is_name
def e_is_names_1 : Rho → Sto → Out D :=
    (cDef F_is_name (cCons (cVar 0) cNil))
def g_is_names : Rho → Sto → Out Fl :=
    (cSeq (cIf (cOrT (cNotT (cTst (cUn (isiD "tuple") (cVar 0)))) (cNotT (cTst (cCall allD (cCons (cComp 1 [] (cSeqIt (cVar 0)) (uName 0) cTrue e_is_names_1) cNil))))) (cRet (cCon (.bl false))) cNext)
    (cRet (cBin eqD (cVar 0) (cCall tupD (cCons (cUn sortedSetD (cVar 0)) cNil)))))
def F_is_names : List D → Sto → Out D := runD 1 0 g_is_names
def g_is_leaf : Rho → Sto → Out Fl :=
    (cRet (cAnd (cDef F_is_tuple_of (cCons (cVar 0) (cCons (cCon (.int 2)) cNil))) (cAnd (cBin eqD (cIx (cVar 0) (cCon (.int 0))) (cCon (.str "names"))) (cDef F_is_names (cCons (cIx (cVar 0) (cCon (.int 1))) cNil)))))
def F_is_leaf : List D → Sto → Out D := runD 1 0 g_is_leaf
def g_is_ask : Rho → Sto → Out Fl :=
    (cRet (cAnd (cDef F_is_tuple_of (cCons (cVar 0) (cCons (cCon (.int 4)) cNil))) (cAnd (cBin eqD (cIx (cVar 0) (cCon (.int 0))) (cCon (.str "ask"))) (cDef F_is_number_below (cCons (cIx (cVar 0) (cCon (.int 1))) (cCons (cVar 1) cNil))))))
def F_is_ask : List D → Sto → Out D := runD 2 0 g_is_ask
def g_is_key_within (rec : List D → Sto → Out D) : Rho → Sto → Out Fl :=
    (cSeq (cIf (cTst (cDef F_is_leaf (cCons (cVar 0) cNil))) (cRet (cCon (.bl true))) cNext)
    (cSeq (cIf (cOrT (cTst (cBin eqD (cVar 2) (cCon (.int 0)))) (cNotT (cTst (cDef F_is_ask (cCons (cVar 0) (cCons (cVar 1) cNil)))))) (cRet (cCon (.bl false))) cNext)
    (cRet (cAnd (cDef rec (cCons (cIx (cVar 0) (cCon (.int 2))) (cCons (cVar 1) (cCons (cBin subD (cVar 2) (cCon (.int 1))) cNil)))) (cDef rec (cCons (cIx (cVar 0) (cCon (.int 3))) (cCons (cVar 1) (cCons (cBin subD (cVar 2) (cCon (.int 1))) cNil))))))))
def F_is_key_within : Nat → List D → Sto → Out D
  | 0 => fun _ _ => none
  | n + 1 => runD 3 0 (g_is_key_within (F_is_key_within n))
def g_is_key : Rho → Sto → Out Fl :=
    (cRet (cDef (F_is_key_within 14) (cCons (cVar 0) (cCons (cVar 1) (cCons (cCon (D.int 12)) cNil)))))
def F_is_key : List D → Sto → Out D := runD 2 0 g_is_key
def g_cell_at_L : Rho → Sto → Out Fl :=
    (cSeq (cIf (cTst (cBin ltD (cVar 1) (cCall lenD (cCons (cVar 0) cNil)))) (cRet (cIx (cVar 0) (cVar 1))) cNext)
    (cRet (cCon (.int 0))))
def F_cell_at_L : List D → Sto → Out D := runD 2 0 g_cell_at_L
def g_mixed_L : Rho → Sto → Out Fl :=
    (cSeq (cSet 2 (cBin modD (cBin mulD (cBin addD (cBin addD (cDef F_cell_at_L (cCons (cVar 0) (cCons (cVar 1) cNil))) (cBin mulD (cCon (.int 7919)) (cVar 1))) (cCon (.int 1))) (cCon (.int 48271))) (cCon (.int 2147483647))))
    (cRet (cBin modD (cBin addD (cBin addD (cBin mulD (cVar 2) (cVar 2)) (cBin mulD (cCon (.int 7)) (cVar 2))) (cVar 1)) (cCon (.int 2147483629)))))
def F_mixed_L : List D → Sto → Out D := runD 2 1 g_mixed_L
def g_drawn_L : Rho → Sto → Out Fl :=
    (cSeq (cSet 2 (cBin modD (cBin mulD (cBin addD (cBin addD (cVar 0) (cBin mulD (cCon (.int 104729)) (cVar 1))) (cCon (.int 17))) (cCon (.int 69621))) (cCon (.int 2147483647))))
    (cRet (cBin modD (cBin addD (cBin addD (cBin mulD (cVar 2) (cVar 2)) (cBin mulD (cCon (.int 3)) (cVar 2))) (cVar 1)) (cCon (.int 2147483629)))))
def F_drawn_L : List D → Sto → Out D := runD 2 1 g_drawn_L
def b_words_L_1 : Rho → Sto → Out Fl :=
    (cSet 5 (cBin addD (cVar 5) (cIx (cVar 1) (cBin modD (cBin fdivD (cVar 4) (cBin addD (cBin mulD (cCon (.int 31)) (cVar 6)) (cCon (.int 29)))) (cCon (.int 26))))))
def b_words_L_2 : Rho → Sto → Out Fl :=
    (cSeq (cSet 4 (cDef F_drawn_L (cCons (cVar 0) (cCons (cVar 3) cNil))))
    (cSeq (cSet 5 (cIx (cVar 1) (cBin modD (cVar 4) (cCon (.int 26)))))
    (cSeq (cFor (cRng rng1D (cCons (cBin mulD (cBin modD (cBin fdivD (cVar 4) (cCon (.int 26))) (cCon (.int 8))) (cBin modD (cVar 0) (cCon (.int 2)))) cNil)) (uName 6) b_words_L_1)
    (cPut (cVar 2) (cBin addD (cVar 5) (cBin mulD (cCon (.str "q")) (cCall intD (cCons (cIn false (cVar 5) (cCon (D.tup [(D.str "names"), (D.str "ask"), (D.str "end")]))) cNil)))) (cCon (.bl true))))))
def g_words_L : Rho → Sto → Out Fl :=
    (cSeq (cSet 1 (cCon (.str "abcdefghijklmnopqrstuvwxyz")))
    (cSeq (cSet 2 cNewD)
    (cSeq (cFor (cRng rng1D (cCons (cCon (.int 6)) cNil)) (uName 3) b_words_L_2)
    (cRet (cCall tupD (cCons (cSort (cVar 2)) cNil))))))
def F_words_L : List D → Sto → Out D := runD 1 6 g_words_L
def t_names_L_1 : Rho → Sto → Out Bool :=
    (cTst (cBin eqD (cBin modD (cBin fdivD (cVar 2) (cBin addD (cBin mulD (cCon (.int 3)) (cVar 0)) (cCon (.int 1)))) (cCon (.int 4))) (cCon (.int 0))))
def e_names_L_1 : Rho → Sto → Out D :=
    (cVar 1)
def g_names_L : Rho → Sto → Out Fl :=
    (cRet (cCall tupD (cCons (cComp 2 [0] (cRng enumD (cCons (cVar 1) cNil)) (uTup 2 (usCons (uName 0) (usCons (uName 1) usNil))) t_names_L_1 e_names_L_1) cNil)))
def F_names_L : List D → Sto → Out D := runD 2 0 g_names_L
def g_key_L (rec : List D → Sto → Out D) : Rho → Sto → Out Fl :=
    (cSeq (cIf (cOrT (cTst (cBin eqD (cVar 3) (cCon (.int 0)))) (cTst (cBin eqD (cBin modD (cVar 0) (cCon (.int 7))) (cCon (.int 0))))) (cRet (cTup (cCons (cCon (.str "names")) (cCons (cDef F_names_L (cCons (cBin fdivD (cVar 0) (cCon (.int 7))) (cCons (cVar 1) cNil))) cNil)))) cNext)
    (cSeq (cSet 4 (cDef rec (cCons (cDef F_drawn_L (cCons (cVar 0) (cCons (cCon (.int 1)) cNil))) (cCons (cVar 1) (cCons (cVar 2) (cCons (cBin subD (cVar 3) (cCon (.int 1))) cNil))))))
    (cSeq (cSet 5 (cDef rec (cCons (cDef F_drawn_L (cCons (cVar 0) (cCons (cCon (.int 2)) cNil))) (cCons (cVar 1) (cCons (cVar 2) (cCons (cBin subD (cVar 3) (cCon (.int 1))) cNil))))))
    (cRet (cTup (cCons (cCon (.str "ask")) (cCons (cBin modD (cBin fdivD (cVar 0) (cCon (.int 7))) (cVar 2)) (cCons (cVar 4) (cCons (cVar 5) cNil)))))))))
def F_key_L : Nat → List D → Sto → Out D
  | 0 => fun _ _ => none
  | n + 1 => runD 4 2 (g_key_L (F_key_L n))
def g_number_L : Rho → Sto → Out Fl :=
    (cRet (cAnd (cUn (isiD "int") (cVar 0)) (cAnd (cNot (cUn (isiD "bool") (cVar 0))) (cChain leD leD (cCon (.int 0)) (cVar 0) (cVar 1)))))
def F_number_L : List D → Sto → Out D := runD 2 0 g_number_L
def t_are_names_L_1 : Rho → Sto → Out Bool :=
    (cTst (cBin ltD (cMet isStrD findD (cCon (.str "abcdefghijklmnopqrstuvwxyz")) (cVar 0)) (cCon (.int 0))))
def e_are_names_L_1 : Rho → Sto → Out D :=
    (cVar 0)
def b_are_names_L_1 : Rho → Sto → Out Fl :=
    (cSeq (cIf (cOrT (cNotT (cTst (cUn (isiD "str") (cVar 2)))) (cOrT (cNotT (cTst (cChain ltD ltD (cCon (.int 0)) (cCall lenD (cCons (cVar 2) cNil)) (cCon (.int 9))))) (cAndT (cTst (cBin gtD (cVar 1) (cCon (.int 0)))) (cNotT (cTst (cBin ltD (cIx (cVar 0) (cBin subD (cVar 1) (cCon (.int 1)))) (cVar 2))))))) (cRet (cCon (.bl false))) cNext)
    (cSeq (cIf (cTst (cIn false (cVar 2) (cCon (D.tup [(D.str "names"), (D.str "ask"), (D.str "end")])))) (cRet (cCon (.bl false))) cNext)
    (cIf (cTst (cBin neD (cComp 1 [] (cSeqIt (cVar 2)) (uName 0) t_are_names_L_1 e_are_names_L_1) (cLst cNil))) (cRet (cCon (.bl false))) cNext)))
def g_are_names_L : Rho → Sto → Out Fl :=
    (cSeq (cIf (cNotT (cTst (cUn (isiD "tuple") (cVar 0)))) (cRet (cCon (.bl false))) cNext)
    (cSeq (cFor (cRng enumD (cCons (cVar 0) cNil)) (uTup 2 (usCons (uName 1) (usCons (uName 2) usNil))) b_are_names_L_1)
    (cRet (cCon (.bl true)))))
def F_are_names_L : List D → Sto → Out D := runD 1 2 g_are_names_L
def g_is_key_L (rec : List D → Sto → Out D) : Rho → Sto → Out Fl :=
    (cSeq (cIf (cOrT (cTst (cBin gtD (cVar 2) (cCon (.int 12)))) (cOrT (cNotT (cTst (cUn (isiD "tuple") (cVar 0)))) (cOrT (cTst (cBin eqD (cCall lenD (cCons (cVar 0) cNil)) (cCon (.int 0)))) (cNotT (cTst (cUn (isiD "str") (cIx (cVar 0) (cCon (.int 0))))))))) (cRet (cCon (.bl false))) cNext)
    (cSeq (cIf (cTst (cBin eqD (cIx (cVar 0) (cCon (.int 0))) (cCon (.str "names")))) (cRet (cAnd (cBin eqD (cCall lenD (cCons (cVar 0) cNil)) (cCon (.int 2))) (cDef F_are_names_L (cCons (cIx (cVar 0) (cCon (.int 1))) cNil)))) cNext)
    (cSeq (cIf (cOrT (cTst (cBin neD (cIx (cVar 0) (cCon (.int 0))) (cCon (.str "ask")))) (cOrT (cTst (cBin neD (cCall lenD (cCons (cVar 0) cNil)) (cCon (.int 4)))) (cNotT (cTst (cDef F_number_L (cCons (cIx (cVar 0) (cCon (.int 1))) (cCons (cBin subD (cVar 1) (cCon (.int 1))) cNil))))))) (cRet (cCon (.bl false))) cNext)
    (cRet (cAnd (cDef rec (cCons (cIx (cVar 0) (cCon (.int 2))) (cCons (cVar 1) (cCons (cBin addD (cVar 2) (cCon (.int 1))) cNil)))) (cDef rec (cCons (cIx (cVar 0) (cCon (.int 3))) (cCons (cVar 1) (cCons (cBin addD (cVar 2) (cCon (.int 1))) cNil)))))))))
def F_is_key_L : Nat → List D → Sto → Out D
  | 0 => fun _ _ => none
  | n + 1 => runD 3 0 (g_is_key_L (F_is_key_L n))
def g_same_L : Rho → Sto → Out Fl :=
    (cRet (cAnd (cUn (isiD "bool") (cVar 0)) (cBin eqD (cVar 0) (cVar 1))))
def F_same_L : List D → Sto → Out D := runD 2 0 g_same_L
def g_odd_L : Rho → Sto → Out Fl :=
    (cSeq (cSet 1 (cCon (D.lst [(D.int (-1)), (D.int 0), (D.int 1), (D.int 9), (D.int 10), (D.bl true), (D.bl false), D.non, (D.str ""), (D.str "a"), (D.str "A"), (D.str "end"), (D.str "abcdefghi"), (D.str "a b"), (D.tup []), (D.lst []), (D.tup [(D.str "a")]), (D.tup [(D.str "b"), (D.str "a")])])))
    (cSeq (cSet 1 (cBin addD (cVar 1) (cCon (D.lst [(D.tup [(D.str "names"), (D.tup [])]), (D.tup [(D.str "names"), (D.tup [(D.str "a"), (D.str "a")])]), (D.tup [(D.str "ask"), (D.int 0)]), (D.tup [(D.int 0), (D.int 0), (D.int 1)]), (D.tup [D.non])]))))
    (cRet (cIx (cBin addD (cVar 1) (cCon (D.lst [(D.tup [(D.str "a"), (D.int 1)])]))) (cBin modD (cVar 0) (cCon (.int 24)))))))
def F_odd_L : List D → Sto → Out D := runD 1 1 g_odd_L
def g_spoilt_L (rec : List D → Sto → Out D) : Rho → Sto → Out Fl :=
    (cSeq (cIf (cAndT (cTst (cBin gtD (cVar 2) (cCon (.int 0)))) (cAndT (cTst (cUn (isiD "tuple") (cVar 0))) (cAndT (cTst (cBin gtD (cCall lenD (cCons (cVar 0) cNil)) (cCon (.int 0)))) (cTst (cBin gtD (cBin modD (cVar 1) (cCon (.int 6))) (cCon (.int 0))))))) (cSeq (cSet 3 (cBin modD (cBin fdivD (cVar 1) (cCon (.int 6))) (cCall lenD (cCons (cVar 0) cNil))))
    (cSeq (cSet 4 (cDef rec (cCons (cIx (cVar 0) (cVar 3)) (cCons (cBin fdivD (cBin fdivD (cVar 1) (cCon (.int 6))) (cCall lenD (cCons (cVar 0) cNil))) (cCons (cBin subD (cVar 2) (cCon (.int 1))) cNil)))))
    (cRet (cBin addD (cBin addD (cSl slD (cVar 0) none (some (cVar 3))) (cTup (cCons (cVar 4) cNil))) (cSl slD (cVar 0) (some (cBin addD (cVar 3) (cCon (.int 1)))) none))))) cNext)
    (cSeq (cIf (cAndT (cTst (cUn (isiD "tuple") (cVar 0))) (cAndT (cTst (cBin gtD (cCall lenD (cCons (cVar 0) cNil)) (cCon (.int 0)))) (cTst (cBin eqD (cBin modD (cBin fdivD (cVar 1) (cCon (.int 6))) (cCon (.int 2))) (cCon (.int 0)))))) (cRet (cIx (cLst (cCons (cCall lstD (cCons (cVar 0) cNil)) (cCons (cSl slD (cVar 0) none (some (cUn negD (cCon (.int 1))))) (cCons (cBin addD (cVar 0) (cSl slD (cVar 0) (some (cUn negD (cCon (.int 1)))) none)) (cCons (cSl slD (cVar 0) (some (cCon (.int 1))) none) (cCons (cUn revD (cVar 0)) (cCons (cBin mulD (cVar 0) (cCon (.int 2))) cNil))))))) (cBin modD (cBin fdivD (cVar 1) (cCon (.int 12))) (cCon (.int 6))))) cNext)
    (cSeq (cIf (cAndT (cTst (cUn (isiD "int") (cVar 0))) (cTst (cBin eqD (cBin modD (cBin fdivD (cVar 1) (cCon (.int 6))) (cCon (.int 2))) (cCon (.int 0))))) (cRet (cIx (cLst (cCons (cCall strD1 (cCons (cVar 0) cNil)) (cCons (cUn negD (cVar 0)) (cCons (cBin mulD (cVar 0) (cCon (.int 1001))) (cCons (cBin eqD (cVar 0) (cCon (.int 1))) (cCons (cBin addD (cVar 0) (cCon (.int 1))) cNil)))))) (cBin modD (cBin fdivD (cVar 1) (cCon (.int 12))) (cCon (.int 5))))) cNext)
    (cSeq (cIf (cAndT (cTst (cUn (isiD "str") (cVar 0))) (cTst (cBin eqD (cBin modD (cBin fdivD (cVar 1) (cCon (.int 6))) (cCon (.int 2))) (cCon (.int 0))))) (cRet (cIx (cLst (cCons (cBin addD (cVar 0) (cCon (.str "a"))) (cCons (cSl slD (cVar 0) none (some (cUn negD (cCon (.int 1))))) (cCons (cUn upperD (cVar 0)) (cCons (cBin addD (cVar 0) (cCon (.str " "))) (cCons (cBin mulD (cVar 0) (cCon (.int 9))) (cCons (cUn revD (cVar 0)) cNil))))))) (cBin modD (cBin fdivD (cVar 1) (cCon (.int 12))) (cCon (.int 6))))) cNext)
    (cRet (cDef F_odd_L (cCons (cBin fdivD (cVar 1) (cCon (.int 6))) cNil)))))))
def F_spoilt_L : Nat → List D → Sto → Out D
  | 0 => fun _ _ => none
  | n + 1 => runD 3 2 (g_spoilt_L (F_spoilt_L n))
def b_law_1 : Rho → Sto → Out Fl :=
    (cSet 3 (cTup (cCons (cCon (.str "ask")) (cCons (cBin modD (cVar 4) (cVar 1)) (cCons (cVar 3) (cCons (cCon (D.tup [(D.str "names"), (D.tup [])])) cNil))))))
def g_law : Rho → Sto → Out Fl :=
    (cSeq (cSet 1 (cBin addD (cCon (.int 1)) (cBin modD (cDef F_mixed_L (cCons (cVar 0) (cCons (cCon (.int 0)) cNil))) (cCon (.int 10)))))
    (cSeq (cSet 2 (cDef F_words_L (cCons (cDef F_mixed_L (cCons (cVar 0) (cCons (cCon (.int 1)) cNil))) cNil)))
    (cSeq (cSet 3 (cDef (F_key_L 8) (cCons (cDef F_mixed_L (cCons (cVar 0) (cCons (cCon (.int 2)) cNil))) (cCons (cVar 2) (cCons (cVar 1) (cCons (cBin modD (cDef F_mixed_L (cCons (cVar 0) (cCons (cCon (.int 3)) cNil))) (cCon (.int 6))) cNil))))))
    (cSeq (cIf (cTst (cBin eqD (cBin modD (cBin fdivD (cDef F_mixed_L (cCons (cVar 0) (cCons (cCon (.int 3)) cNil))) (cCon (.int 6))) (cCon (.int 5))) (cCon (.int 1)))) (cFor (cRng rng1D (cCons (cBin modD (cBin fdivD (cDef F_mixed_L (cCons (cVar 0) (cCons (cCon (.int 3)) cNil))) (cCon (.int 30))) (cCon (.int 15))) cNil)) (uName 4) b_law_1) cNext)
    (cSeq (cIf (cTst (cBin eqD (cBin modD (cDef F_mixed_L (cCons (cVar 0) (cCons (cCon (.int 4)) cNil))) (cCon (.int 2))) (cCon (.int 1)))) (cSet 3 (cDef (F_spoilt_L 8) (cCons (cVar 3) (cCons (cDef F_mixed_L (cCons (cVar 0) (cCons (cCon (.int 5)) cNil))) (cCons (cBin modD (cBin fdivD (cDef F_mixed_L (cCons (cVar 0) (cCons (cCon (.int 4)) cNil))) (cCon (.int 2))) (cCon (.int 7))) cNil))))) cNext)
    (cSeq (cSet 5 (cCall minD (cCons (cCon (.int 10)) (cCons (cCall maxD (cCons (cCon (.int 1)) (cCons (cBin addD (cVar 1) (cIx (cCon (D.tup [(D.int 0), (D.int 0), (D.int 1), (D.int (-1))])) (cBin modD (cBin fdivD (cDef F_mixed_L (cCons (cVar 0) (cCons (cCon (.int 0)) cNil))) (cCon (.int 10))) (cCon (.int 4))))) cNil))) cNil))))
    (cRet (cDef F_same_L (cCons (cDef F_is_key (cCons (cVar 3) (cCons (cVar 5) cNil))) (cCons (cDef (F_is_key_L 15) (cCons (cVar 3) (cCons (cVar 5) (cCons (cCon (.int 0)) cNil)))) cNil))))))))))
def F_law : List D → Sto → Out D := runD 1 5 g_law
end K02
namespace K02
open PySem L2
def top (i : Nat) : Stmt := PySem.Challenge.pw_keyfold_k02_keys.main.body.getD i (.Pass ⟨0, 0, 0, 0⟩)
abbrev s_is_number_below : Stmt := top 4
abbrev z_is_number_below : Scope := { kind := PySem.ScopeKind.function, names := [ (PySem.Str.ofString "thing", PySem.NameKind.local), (PySem.Str.ofString "bound", PySem.NameKind.local), (PySem.Str.ofString "isinstance", PySem.NameKind.globalImplicit), (PySem.Str.ofString "int", PySem.NameKind.globalImplicit), (PySem.Str.ofString "bool", PySem.NameKind.globalImplicit)], isGenerator := false, isCoroutine := false, more := [] : PySem.Scope }
abbrev s_is_tuple_of : Stmt := top 5
abbrev z_is_tuple_of : Scope := { kind := PySem.ScopeKind.function, names := [ (PySem.Str.ofString "thing", PySem.NameKind.local), (PySem.Str.ofString "length", PySem.NameKind.local), (PySem.Str.ofString "isinstance", PySem.NameKind.globalImplicit), (PySem.Str.ofString "tuple", PySem.NameKind.globalImplicit), (PySem.Str.ofString "len", PySem.NameKind.globalImplicit)], isGenerator := false, isCoroutine := false, more := [] : PySem.Scope }
abbrev s_has_plain_letters : Stmt := top 6
abbrev z_has_plain_letters : Scope := { kind := PySem.ScopeKind.function, names := [(PySem.Str.ofString "text", PySem.NameKind.local), (PySem.Str.ofString "all", PySem.NameKind.globalImplicit)], isGenerator := false, isCoroutine := false, more := [(PySem.Str.ofString "fast", (PySem.Const.str "text")), (PySem.Str.ofString "fast", (PySem.Const.str "sign"))] : PySem.Scope }
abbrev s_is_name : Stmt := top 7
abbrev z_is_name : Scope := { kind := PySem.ScopeKind.function, names := [ (PySem.Str.ofString "thing", PySem.NameKind.local), (PySem.Str.ofString "isinstance", PySem.NameKind.globalImplicit), (PySem.Str.ofString "str", PySem.NameKind.globalImplicit), (PySem.Str.ofString "KEPT_WORDS", PySem.NameKind.globalImplicit), (PySem.Str.ofString "len", PySem.NameKind.globalImplicit), (PySem.Str.ofString "MOST_LETTERS", PySem.NameKind.globalImplicit), (PySem.Str.ofString "has_plain_letters", PySem.NameKind.globalImplicit)], isGenerator := false, isCoroutine := false, more := [] : PySem.Scope }
abbrev s_is_names : Stmt := top 8
abbrev z_is_names : Scope := { kind := PySem.ScopeKind.function, names := [ (PySem.Str.ofString "thing", PySem.NameKind.local), (PySem.Str.ofString "isinstance", PySem.NameKind.globalImplicit), (PySem.Str.ofString "tuple", PySem.NameKind.globalImplicit), (PySem.Str.ofString "all", PySem.NameKind.globalImplicit), (PySem.Str.ofString "sorted", PySem.NameKind.globalImplicit), (PySem.Str.ofString "set", PySem.NameKind.globalImplicit)], isGenerator := false, isCoroutine := false, more := [ (PySem.Str.ofString "fast", (PySem.Const.str "thing")), (PySem.Str.ofString "fast", (PySem.Const.str "part"))] : PySem.Scope }
abbrev s_is_leaf : Stmt := top 9
abbrev z_is_leaf : Scope := { kind := PySem.ScopeKind.function, names := [ (PySem.Str.ofString "thing", PySem.NameKind.local), (PySem.Str.ofString "is_tuple_of", PySem.NameKind.globalImplicit), (PySem.Str.ofString "is_names", PySem.NameKind.globalImplicit)], isGenerator := false, isCoroutine := false, more := [] : PySem.Scope }
abbrev s_is_ask : Stmt := top 10
abbrev z_is_ask : Scope := { kind := PySem.ScopeKind.function, names := [ (PySem.Str.ofString "thing", PySem.NameKind.local), (PySem.Str.ofString "many", PySem.NameKind.local), (PySem.Str.ofString "is_tuple_of", PySem.NameKind.globalImplicit), (PySem.Str.ofString "is_number_below", PySem.NameKind.globalImplicit)], isGenerator := false, isCoroutine := false, more := [] : PySem.Scope }
abbrev s_is_key_within : Stmt := top 12
abbrev z_is_key_within : Scope := { kind := PySem.ScopeKind.function, names := [ (PySem.Str.ofString "thing", PySem.NameKind.local), (PySem.Str.ofString "many", PySem.NameKind.local), (PySem.Str.ofString "depth_left", PySem.NameKind.local), (PySem.Str.ofString "is_leaf", PySem.NameKind.globalImplicit), (PySem.Str.ofString "is_ask", PySem.NameKind.globalImplicit), (PySem.Str.ofString "is_key_within", PySem.NameKind.globalImplicit)], isGenerator := false, isCoroutine := false, more := [] : PySem.Scope }
abbrev s_is_key : Stmt := top 11
abbrev z_is_key : Scope := { kind := PySem.ScopeKind.function, names := [ (PySem.Str.ofString "thing", PySem.NameKind.local), (PySem.Str.ofString "many", PySem.NameKind.local), (PySem.Str.ofString "is_key_within", PySem.NameKind.globalImplicit), (PySem.Str.ofString "MOST_KEYS_ABOVE", PySem.NameKind.globalImplicit)], isGenerator := false, isCoroutine := false, more := [] : PySem.Scope }
abbrev s_cell_at_L : Stmt := top 14
abbrev z_cell_at_L : Scope := { kind := PySem.ScopeKind.function, names := [ (PySem.Str.ofString "_law_script", PySem.NameKind.local), (PySem.Str.ofString "_law_k", PySem.NameKind.local), (PySem.Str.ofString "len", PySem.NameKind.globalImplicit)], isGenerator := false, isCoroutine := false, more := [] : PySem.Scope }
abbrev s_mixed_L : Stmt := top 15
abbrev z_mixed_L : Scope := { kind := PySem.ScopeKind.function, names := [ (PySem.Str.ofString "_law_script", PySem.NameKind.local), (PySem.Str.ofString "_law_k", PySem.NameKind.local), (PySem.Str.ofString "_law_drawn_here", PySem.NameKind.local), (PySem.Str.ofString "_law_cell_at", PySem.NameKind.globalImplicit)], isGenerator := false, isCoroutine := false, more := [] : PySem.Scope }
abbrev s_drawn_L : Stmt := top 16
abbrev z_drawn_L : Scope := { kind := PySem.ScopeKind.function, names := [ (PySem.Str.ofString "_law_number_here", PySem.NameKind.local), (PySem.Str.ofString "_law_k", PySem.NameKind.local), (PySem.Str.ofString "_law_drawn_here", PySem.NameKind.local)], isGenerator := false, isCoroutine := false, more := [] : PySem.Scope }
abbrev s_words_L : Stmt := top 17
abbrev z_words_L : Scope := { kind := PySem.ScopeKind.function, names := [ (PySem.Str.ofString "_law_number_here", PySem.NameKind.local), (PySem.Str.ofString "_law_letters", PySem.NameKind.local), (PySem.Str.ofString "_law_found", PySem.NameKind.local), (PySem.Str.ofString "_law_k", PySem.NameKind.local), (PySem.Str.ofString "_law_drawn_here", PySem.NameKind.local), (PySem.Str.ofString "_law_word", PySem.NameKind.local), (PySem.Str.ofString "_law_at", PySem.NameKind.local), (PySem.Str.ofString "range", PySem.NameKind.globalImplicit), (PySem.Str.ofString "_law_drawn", PySem.NameKind.globalImplicit), (PySem.Str.ofString "int", PySem.NameKind.globalImplicit), (PySem.Str.ofString "tuple", PySem.NameKind.globalImplicit), (PySem.Str.ofString "sorted", PySem.NameKind.globalImplicit)], isGenerator := false, isCoroutine := false, more := [] : PySem.Scope }
abbrev s_names_L : Stmt := top 18
abbrev z_names_L : Scope := { kind := PySem.ScopeKind.function, names := [ (PySem.Str.ofString "_law_number_here", PySem.NameKind.cell), (PySem.Str.ofString "_law_words_here", PySem.NameKind.local), (PySem.Str.ofString "tuple", PySem.NameKind.globalImplicit), (PySem.Str.ofString "enumerate", PySem.NameKind.globalImplicit)], isGenerator := false, isCoroutine := false, more := [ (PySem.Str.ofString "fast", (PySem.Const.str "_law_number_here")), (PySem.Str.ofString "fast", (PySem.Const.str "_law_words_here")), (PySem.Str.ofString "fast", (PySem.Const.str "_law_k")), (PySem.Str.ofString "fast", (PySem.Const.str "_law_word"))] : PySem.Scope }
abbrev s_key_L : Stmt := top 19
abbrev z_key_L : Scope := { kind := PySem.ScopeKind.function, names := [ (PySem.Str.ofString "_law_number_here", PySem.NameKind.local), (PySem.Str.ofString "_law_words_here", PySem.NameKind.local), (PySem.Str.ofString "_law_many", PySem.NameKind.local), (PySem.Str.ofString "_law_deep", PySem.NameKind.local), (PySem.Str.ofString "_law_no", PySem.NameKind.local), (PySem.Str.ofString "_law_yes", PySem.NameKind.local), (PySem.Str.ofString "_law_names", PySem.NameKind.globalImplicit), (PySem.Str.ofString "_law_key", PySem.NameKind.globalImplicit), (PySem.Str.ofString "_law_drawn", PySem.NameKind.globalImplicit)], isGenerator := false, isCoroutine := false, more := [] : PySem.Scope }
abbrev s_number_L : Stmt := top 24
abbrev z_number_L : Scope := { kind := PySem.ScopeKind.function, names := [ (PySem.Str.ofString "_law_thing", PySem.NameKind.local), (PySem.Str.ofString "_law_high", PySem.NameKind.local), (PySem.Str.ofString "isinstance", PySem.NameKind.globalImplicit), (PySem.Str.ofString "int", PySem.NameKind.globalImplicit), (PySem.Str.ofString "bool", PySem.NameKind.globalImplicit)], isGenerator := false, isCoroutine := false, more := [] : PySem.Scope }
abbrev s_are_names_L : Stmt := top 25
abbrev z_are_names_L : Scope := { kind := PySem.ScopeKind.function, names := [ (PySem.Str.ofString "_law_thing", PySem.NameKind.local), (PySem.Str.ofString "_law_k", PySem.NameKind.local), (PySem.Str.ofString "_law_part", PySem.NameKind.local), (PySem.Str.ofString "isinstance", PySem.NameKind.globalImplicit), (PySem.Str.ofString "tuple", PySem.NameKind.globalImplicit), (PySem.Str.ofString "enumerate", PySem.NameKind.globalImplicit), (PySem.Str.ofString "str", PySem.NameKind.globalImplicit), (PySem.Str.ofString "len", PySem.NameKind.globalImplicit)], isGenerator := false, isCoroutine := false, more := [ (PySem.Str.ofString "fast", (PySem.Const.str "_law_thing")), (PySem.Str.ofString "fast", (PySem.Const.str "_law_k")), (PySem.Str.ofString "fast", (PySem.Const.str "_law_part")), (PySem.Str.ofString "fast", (PySem.Const.str "_law_sign"))] : PySem.Scope }
abbrev s_is_key_L : Stmt := top 26
abbrev z_is_key_L : Scope := { kind := PySem.ScopeKind.function, names := [ (PySem.Str.ofString "_law_thing", PySem.NameKind.local), (PySem.Str.ofString "_law_many", PySem.NameKind.local), (PySem.Str.ofString "_law_deep", PySem.NameKind.local), (PySem.Str.ofString "isinstance", PySem.NameKind.globalImplicit), (PySem.Str.ofString "tuple", PySem.NameKind.globalImplicit), (PySem.Str.ofString "len", PySem.NameKind.globalImplicit), (PySem.Str.ofString "str", PySem.NameKind.globalImplicit), (PySem.Str.ofString "_law_are_names", PySem.NameKind.globalImplicit), (PySem.Str.ofString "_law_number", PySem.NameKind.globalImplicit), (PySem.Str.ofString "_law_is_key", PySem.NameKind.globalImplicit)], isGenerator := false, isCoroutine := false, more := [] : PySem.Scope }
abbrev s_same_L : Stmt := top 27
abbrev z_same_L : Scope := { kind := PySem.ScopeKind.function, names := [ (PySem.Str.ofString "_law_found", PySem.NameKind.local), (PySem.Str.ofString "_law_due", PySem.NameKind.local), (PySem.Str.ofString "isinstance", PySem.NameKind.globalImplicit), (PySem.Str.ofString "bool", PySem.NameKind.globalImplicit)], isGenerator := false, isCoroutine := false, more := [] : PySem.Scope }
abbrev s_odd_L : Stmt := top 28
abbrev z_odd_L : Scope := { kind := PySem.ScopeKind.function, names := [ (PySem.Str.ofString "_law_number_here", PySem.NameKind.local), (PySem.Str.ofString "_law_some", PySem.NameKind.local)], isGenerator := false, isCoroutine := false, more := [] : PySem.Scope }
abbrev s_spoilt_L : Stmt := top 29
abbrev z_spoilt_L : Scope := { kind := PySem.ScopeKind.function, names := [ (PySem.Str.ofString "_law_thing", PySem.NameKind.local), (PySem.Str.ofString "_law_number_here", PySem.NameKind.local), (PySem.Str.ofString "_law_deep", PySem.NameKind.local), (PySem.Str.ofString "_law_at", PySem.NameKind.local), (PySem.Str.ofString "_law_part", PySem.NameKind.local), (PySem.Str.ofString "isinstance", PySem.NameKind.globalImplicit), (PySem.Str.ofString "tuple", PySem.NameKind.globalImplicit), (PySem.Str.ofString "len", PySem.NameKind.globalImplicit), (PySem.Str.ofString "_law_spoilt", PySem.NameKind.globalImplicit), (PySem.Str.ofString "list", PySem.NameKind.globalImplicit), (PySem.Str.ofString "int", PySem.NameKind.globalImplicit), (PySem.Str.ofString "str", PySem.NameKind.globalImplicit), (PySem.Str.ofString "_law_odd", PySem.NameKind.globalImplicit)], isGenerator := false, isCoroutine := false, more := [] : PySem.Scope }
abbrev s_law : Stmt := top 30
abbrev z_law : Scope := { kind := PySem.ScopeKind.function, names := [ (PySem.Str.ofString "_law_script", PySem.NameKind.local), (PySem.Str.ofString "_law_many", PySem.NameKind.local), (PySem.Str.ofString "_law_words_here", PySem.NameKind.local), (PySem.Str.ofString "_law_thing", PySem.NameKind.local), (PySem.Str.ofString "_law_k", PySem.NameKind.local), (PySem.Str.ofString "_law_there", PySem.NameKind.local), (PySem.Str.ofString "_law_mixed", PySem.NameKind.globalImplicit), (PySem.Str.ofString "_law_words", PySem.NameKind.globalImplicit), (PySem.Str.ofString "_law_key", PySem.NameKind.globalImplicit), (PySem.Str.ofString "range", PySem.NameKind.globalImplicit), (PySem.Str.ofString "_law_spoilt", PySem.NameKind.globalImplicit), (PySem.Str.ofString "min", PySem.NameKind.globalImplicit), (PySem.Str.ofString "max", PySem.NameKind.globalImplicit), (PySem.Str.ofString "_law_same", PySem.NameKind.globalImplicit), (PySem.Str.ofString "is_key", PySem.NameKind.globalImplicit), (PySem.Str.ofString "_law_is_key", PySem.NameKind.globalImplicit)], isGenerator := false, isCoroutine := false, more := [] : PySem.Scope }
structure Top (K : PySem.W.Frag) (mg : Str → Option Value) : Prop where
  d_is_number_below : DefAt K mg "is_number_below" s_is_number_below ["thing", "bound"]
  d_is_tuple_of : DefAt K mg "is_tuple_of" s_is_tuple_of ["thing", "length"]
  d_has_plain_letters : DefAt K mg "has_plain_letters" s_has_plain_letters ["text"]
  d_is_name : DefAt K mg "is_name" s_is_name ["thing"]
  d_is_names : DefAt K mg "is_names" s_is_names ["thing"]
  d_is_leaf : DefAt K mg "is_leaf" s_is_leaf ["thing"]
  d_is_ask : DefAt K mg "is_ask" s_is_ask ["thing", "many"]
  d_is_key_within : DefAt K mg "is_key_within" s_is_key_within ["thing", "many", "depth_left"]
  d_is_key : DefAt K mg "is_key" s_is_key ["thing", "many"]
  d_cell_at_L : DefAt K mg "_law_cell_at" s_cell_at_L ["_law_script", "_law_k"]
  d_mixed_L : DefAt K mg "_law_mixed" s_mixed_L ["_law_script", "_law_k"]
  d_drawn_L : DefAt K mg "_law_drawn" s_drawn_L ["_law_number_here", "_law_k"]
  d_words_L : DefAt K mg "_law_words" s_words_L ["_law_number_here"]
  d_names_L : DefAt K mg "_law_names" s_names_L ["_law_number_here", "_law_words_here"]
  d_key_L : DefAt K mg "_law_key" s_key_L ["_law_number_here", "_law_words_here", "_law_many", "_law_deep"]
  d_number_L : DefAt K mg "_law_number" s_number_L ["_law_thing", "_law_high"]
  d_are_names_L : DefAt K mg "_law_are_names" s_are_names_L ["_law_thing"]
  d_is_key_L : DefAt K mg "_law_is_key" s_is_key_L ["_law_thing", "_law_many", "_law_deep"]
  d_same_L : DefAt K mg "_law_same" s_same_L ["_law_found", "_law_due"]
  d_odd_L : DefAt K mg "_law_odd" s_odd_L ["_law_number_here"]
  d_spoilt_L : DefAt K mg "_law_spoilt" s_spoilt_L ["_law_thing", "_law_number_here", "_law_deep"]
  d_law : DefAt K mg "law" s_law ["_law_script"]
  b_isinstance : mg "isinstance" = none
  b_int : mg "int" = none
  b_bool : mg "bool" = none
  b_tuple : mg "tuple" = none
  b_len : mg "len" = none
  b_all : mg "all" = none
  b_str : mg "str" = none
  b_sorted : mg "sorted" = none
  b_set : mg "set" = none
  b_range : mg "range" = none
  b_enumerate : mg "enumerate" = none
  b_list : mg "list" = none
  b_max : mg "max" = none
  b_min : mg "min" = none
  c_KEPT_WORDS : TopAt K mg "KEPT_WORDS" (D.tup [(D.str "names"), (D.str "ask"), (D.str "end")])
  c_MOST_LETTERS : TopAt K mg "MOST_LETTERS" (D.int 8)
  c_MOST_KEYS_ABOVE : TopAt K mg "MOST_KEYS_ABOVE" (D.int 12)
section
variable {P : Program} {w : World} {K : PySem.W.Frag} {mg : Str → Option Value} {base : Heap}
theorem zs_is_number_below : defScope s_is_number_below = z_is_number_below := rfl
theorem sc_is_number_below : FnScope ["thing", "bound"] ["thing", "bound"] z_is_number_below := ⟨rfl, rfl, rfl, by decide +kernel, rfl, by decide +kernel, by decide +kernel⟩
theorem cal_is_number_below (T : Top K mg) : Cal P w K mg base 1 "is_number_below" ["thing", "bound"] F_is_number_below :=
  cal_of T.d_is_number_below zs_is_number_below sc_is_number_below (fun f cdv A outer s H E hr => by
  have hu := hu150 hr; have hu1 := hu_of hr; have hu2 := hu151 hr; have nd := sc_is_number_below.nd
  exact (sss_one (ss_ret (se_and (se_isi kit_int rfl T.b_isinstance T.b_int bb_int (se_var (i := 0))) (se_and (se_not (se_isi kit_bool rfl T.b_isinstance T.b_bool bb_bool (se_var (i := 0)))) (se_one (se_chain od_le od_lt se_int (se_var (i := 0)) (se_var (i := 1)))))))))
theorem zs_is_tuple_of : defScope s_is_tuple_of = z_is_tuple_of := rfl
theorem sc_is_tuple_of : FnScope ["thing", "length"] ["thing", "length"] z_is_tuple_of := ⟨rfl, rfl, rfl, by decide +kernel, rfl, by decide +kernel, by decide +kernel⟩
theorem cal_is_tuple_of (T : Top K mg) : Cal P w K mg base 1 "is_tuple_of" ["thing", "length"] F_is_tuple_of :=
  cal_of T.d_is_tuple_of zs_is_tuple_of sc_is_tuple_of (fun f cdv A outer s H E hr => by
  have hu := hu150 hr; have hu1 := hu_of hr; have hu2 := hu151 hr; have nd := sc_is_tuple_of.nd
  exact (sss_one (ss_ret (se_and (se_isi kit_tuple rfl T.b_isinstance T.b_tuple bb_tuple (se_var (i := 0))) (se_one (se_cmp (od_eq hu) (se_callB cd_len T.b_len bb_len (sa_cons (se_var (i := 0)) sa_nil)) (se_var (i := 1))))))))
theorem zs_has_plain_letters : defScope s_has_plain_letters = z_has_plain_letters := rfl
theorem sc_has_plain_letters : FnScope ["text"] ["text"] z_has_plain_letters := ⟨rfl, rfl, rfl, by decide +kernel, rfl, by decide +kernel, by decide +kernel⟩
theorem cal_has_plain_letters (T : Top K mg) : Cal P w K mg base 1 "has_plain_letters" ["text"] F_has_plain_letters :=
  cal_of T.d_has_plain_letters zs_has_plain_letters sc_has_plain_letters (fun f cdv A outer s H E hr => by
  have hu := hu150 hr; have hu1 := hu_of hr; have hu2 := hu151 hr; have nd := sc_has_plain_letters.nd
  exact (sss_one (ss_ret (se_callB (cd_all rfl) T.b_all bb_all (sa_cons (se_comp (ts := ["sign"]) (ix := []) rfl ⟨rfl, by decide +kernel, by decide +kernel, by exact (show ∀ y ∈ (_ : List (Str × NameKind)), y.2 = NameKind.free → List.lookup y.1 z_has_plain_letters.names = some NameKind.cell ∨ List.lookup y.1 z_has_plain_letters.names = some NameKind.free from by decide +kernel)⟩ (by exact (show ∀ t ∈ ([] : List Nat), List.lookup ((["text"] : List Str).getD t Str.empty) _ = some NameKind.free from by decide +kernel)) (si_seq (se_var (i := 0))) (fun _ _ _ _ _ => ⟨(sg_name (i := 0) (show (["sign"] : List Str).Nodup from by decide +kernel)), sts_nil, (se_chain od_le od_le se_str (se_var (i := 0)) se_str)⟩)) sa_nil)))))
theorem zs_is_name : defScope s_is_name = z_is_name := rfl
theorem sc_is_name : FnScope ["thing"] ["thing"] z_is_name := ⟨rfl, rfl, rfl, by decide +kernel, rfl, by decide +kernel, by decide +kernel⟩
theorem cal_is_name (T : Top K mg) : Cal P w K mg base 2 "is_name" ["thing"] F_is_name :=
  cal_of T.d_is_name zs_is_name sc_is_name (fun f cdv A outer s H E hr => by
  have hu := hu150 hr; have hu1 := hu_of hr; have hu2 := hu151 hr; have nd := sc_is_name.nd
  exact (sss_cons (ss_if (ts_bool (sw_or (ts_not (ts_val (se_isi kit_str rfl T.b_isinstance T.b_str bb_str (se_var (i := 0))))) (sw_or1 (ts_inA hu hu1 hu2 (se_var (i := 0)) (se_top T.c_KEPT_WORDS))))) (sss_one (ss_ret se_bl)) sss_nil)
    (sss_one (ss_ret (se_and (se_chain od_le od_le se_int (se_callB cd_len T.b_len bb_len (sa_cons (se_var (i := 0)) sa_nil)) (se_top T.c_MOST_LETTERS)) (se_one (se_cal (cal_has_plain_letters T) (hr.mono (by omega)) (sa_cons (se_var (i := 0)) sa_nil))))))))
theorem zs_is_names : defScope s_is_names = z_is_names := rfl
theorem sc_is_names : FnScope ["thing"] ["thing"] z_is_names := ⟨rfl, rfl, rfl, by decide +kernel, rfl, by decide +kernel, by decide +kernel⟩
theorem cal_is_names (T : Top K mg) : Cal P w K mg base 3 "is_names" ["thing"] F_is_names :=
  cal_of T.d_is_names zs_is_names sc_is_names (fun f cdv A outer s H E hr => by
  have hu := hu150 hr; have hu1 := hu_of hr; have hu2 := hu151 hr; have nd := sc_is_names.nd
  exact (sss_cons (ss_if (ts_bool (sw_or (ts_not (ts_val (se_isi kit_tuple rfl T.b_isinstance T.b_tuple bb_tuple (se_var (i := 0))))) (sw_or1 (ts_not (ts_val (se_callB (cd_all rfl) T.b_all bb_all (sa_cons (se_comp (ts := ["part"]) (ix := []) rfl ⟨rfl, by decide +kernel, by decide +kernel, by exact (show ∀ y ∈ (_ : List (Str × NameKind)), y.2 = NameKind.free → List.lookup y.1 z_is_names.names = some NameKind.cell ∨ List.lookup y.1 z_is_names.names = some NameKind.free from by decide +kernel)⟩ (by exact (show ∀ t ∈ ([] : List Nat), List.lookup ((["thing"] : List Str).getD t Str.empty) _ = some NameKind.free from by decide +kernel)) (si_seq (se_var (i := 0))) (fun _ _ _ _ _ => ⟨(sg_name (i := 0) (show (["part"] : List Str).Nodup from by decide +kernel)), sts_nil, (se_cal (cal_is_name T) (hr.mono (by omega)) (sa_cons (se_var (i := 0)) sa_nil))⟩)) sa_nil))))))) (sss_one (ss_ret se_bl)) sss_nil)
    (sss_one (ss_ret (se_cmp (od_eq hu) (se_var (i := 0)) (se_callTy cd_tup T.b_tuple bb_tuple (sa_cons (se_sortedSet rfl rfl rfl T.b_sorted T.b_set (se_var (i := 0))) sa_nil)))))))
theorem zs_is_leaf : defScope s_is_leaf = z_is_leaf := rfl
theorem sc_is_leaf : FnScope ["thing"] ["thing"] z_is_leaf := ⟨rfl, rfl, rfl, by decide +kernel, rfl, by decide +kernel, by decide +kernel⟩
theorem cal_is_leaf (T : Top K mg) : Cal P w K mg base 4 "is_leaf" ["thing"] F_is_leaf :=
  cal_of T.d_is_leaf zs_is_leaf sc_is_leaf (fun f cdv A outer s H E hr => by
  have hu := hu150 hr; have hu1 := hu_of hr; have hu2 := hu151 hr; have nd := sc_is_leaf.nd
  exact (sss_one (ss_ret (se_and (se_cal (cal_is_tuple_of T) (hr.mono (by omega)) (sa_cons (se_var (i := 0)) (sa_cons se_int sa_nil))) (se_and (se_cmp (od_eq hu) (se_ixA hu1 (se_var (i := 0)) se_int) se_str) (se_one (se_cal (cal_is_names T) (hr.mono (by omega)) (sa_cons (se_ixA hu1 (se_var (i := 0)) se_int) sa_nil))))))))
theorem zs_is_ask : defScope s_is_ask = z_is_ask := rfl
theorem sc_is_ask : FnScope ["thing", "many"] ["thing", "many"] z_is_ask := ⟨rfl, rfl, rfl, by decide +kernel, rfl, by decide +kernel, by decide +kernel⟩
theorem cal_is_ask (T : Top K mg) : Cal P w K mg base 2 "is_ask" ["thing", "many"] F_is_ask :=
  cal_of T.d_is_ask zs_is_ask sc_is_ask (fun f cdv A outer s H E hr => by
  have hu := hu150 hr; have hu1 := hu_of hr; have hu2 := hu151 hr; have nd := sc_is_ask.nd
  exact (sss_one (ss_ret (se_and (se_cal (cal_is_tuple_of T) (hr.mono (by omega)) (sa_cons (se_var (i := 0)) (sa_cons se_int sa_nil))) (se_and (se_cmp (od_eq hu) (se_ixA hu1 (se_var (i := 0)) se_int) se_str) (se_one (se_cal (cal_is_number_below T) (hr.mono (by omega)) (sa_cons (se_ixA hu1 (se_var (i := 0)) se_int) (sa_cons (se_var (i := 1)) sa_nil)))))))))
theorem zs_is_key_within : defScope s_is_key_within = z_is_key_within := rfl
theorem sc_is_key_within : FnScope ["thing", "many", "depth_left"] ["thing", "many", "depth_left"] z_is_key_within := ⟨rfl, rfl, rfl, by decide +kernel, rfl, by decide +kernel, by decide +kernel⟩
theorem cal_is_key_within (T : Top K mg) : ∀ n : Nat, Cal P w K mg base (n + 4) "is_key_within" ["thing", "many", "depth_left"] (F_is_key_within n)
  | 0 => cal_zero T.d_is_key_within
  | n + 1 => by
   have Crec := cal_is_key_within T n
   exact cal_of T.d_is_key_within zs_is_key_within sc_is_key_within (fun f cdv A outer s H E hr => by
     have hu := hu150 hr; have hu1 := hu_of hr; have hu2 := hu151 hr; have nd := sc_is_key_within.nd
     exact (sss_cons (ss_if (ts_val (se_cal (cal_is_leaf T) (hr.mono (by omega)) (sa_cons (se_var (i := 0)) sa_nil))) (sss_one (ss_ret se_bl)) sss_nil)
       (sss_cons (ss_if (ts_bool (sw_or (ts_cmp (od_eq hu) (se_var (i := 2)) se_int) (sw_or1 (ts_not (ts_val (se_cal (cal_is_ask T) (hr.mono (by omega)) (sa_cons (se_var (i := 0)) (sa_cons (se_var (i := 1)) sa_nil)))))))) (sss_one (ss_ret se_bl)) sss_nil)
       (sss_one (ss_ret (se_and (se_cal Crec (hr.mono (by omega)) (sa_cons (se_ixA hu1 (se_var (i := 0)) se_int) (sa_cons (se_var (i := 1)) (sa_cons (se_bin od_sub (se_var (i := 2)) se_int) sa_nil)))) (se_one (se_cal Crec (hr.mono (by omega)) (sa_cons (se_ixA hu1 (se_var (i := 0)) se_int) (sa_cons (se_var (i := 1)) (sa_cons (se_bin od_sub (se_var (i := 2)) se_int) sa_nil)))))))))))
theorem zs_is_key : defScope s_is_key = z_is_key := rfl
theorem sc_is_key : FnScope ["thing", "many"] ["thing", "many"] z_is_key := ⟨rfl, rfl, rfl, by decide +kernel, rfl, by decide +kernel, by decide +kernel⟩
theorem cal_is_key (T : Top K mg) : Cal P w K mg base 20 "is_key" ["thing", "many"] F_is_key :=
  cal_of T.d_is_key zs_is_key sc_is_key (fun f cdv A outer s H E hr => by
  have hu := hu150 hr; have hu1 := hu_of hr; have hu2 := hu151 hr; have nd := sc_is_key.nd
  exact (sss_one (ss_ret (se_cal (cal_is_key_within T 14) (hr.mono (by omega)) (sa_cons (se_var (i := 0)) (sa_cons (se_var (i := 1)) (sa_cons (se_top T.c_MOST_KEYS_ABOVE) sa_nil)))))))
theorem zs_cell_at_L : defScope s_cell_at_L = z_cell_at_L := rfl
theorem sc_cell_at_L : FnScope ["_law_script", "_law_k"] ["_law_script", "_law_k"] z_cell_at_L := ⟨rfl, rfl, rfl, by decide +kernel, rfl, by decide +kernel, by decide +kernel⟩
theorem cal_cell_at_L (T : Top K mg) : Cal P w K mg base 1 "_law_cell_at" ["_law_script", "_law_k"] F_cell_at_L :=
  cal_of T.d_cell_at_L zs_cell_at_L sc_cell_at_L (fun f cdv A outer s H E hr => by
  have hu := hu150 hr; have hu1 := hu_of hr; have hu2 := hu151 hr; have nd := sc_cell_at_L.nd
  exact (sss_cons (ss_if (ts_cmp od_lt (se_var (i := 1)) (se_callB cd_len T.b_len bb_len (sa_cons (se_var (i := 0)) sa_nil))) (sss_one (ss_ret (se_ixA hu1 (se_var (i := 0)) (se_var (i := 1))))) sss_nil)
    (sss_one (ss_ret se_int))))
theorem zs_mixed_L : defScope s_mixed_L = z_mixed_L := rfl
theorem sc_mixed_L : FnScope ["_law_script", "_law_k", "_law_drawn_here"] ["_law_script", "_law_k"] z_mixed_L := ⟨rfl, rfl, rfl, by decide +kernel, rfl, by decide +kernel, by decide +kernel⟩
theorem cal_mixed_L (T : Top K mg) : Cal P w K mg base 2 "_law_mixed" ["_law_script", "_law_k"] F_mixed_L :=
  cal_of T.d_mixed_L zs_mixed_L sc_mixed_L (fun f cdv A outer s H E hr => by
  have hu := hu150 hr; have hu1 := hu_of hr; have hu2 := hu151 hr; have nd := sc_mixed_L.nd
  exact (sss_cons (ss_set (i := 2) nd (se_bin od_mod (se_bin od_mul (se_bin od_add (se_bin od_add (se_cal (cal_cell_at_L T) (hr.mono (by omega)) (sa_cons (se_var (i := 0)) (sa_cons (se_var (i := 1)) sa_nil))) (se_bin od_mul se_int (se_var (i := 1)))) se_int) se_int) se_int))
    (sss_one (ss_ret (se_bin od_mod (se_bin od_add (se_bin od_add (se_bin od_mul (se_var (i := 2)) (se_var (i := 2))) (se_bin od_mul se_int (se_var (i := 2)))) (se_var (i := 1))) se_int)))))
theorem zs_drawn_L : defScope s_drawn_L = z_drawn_L := rfl
theorem sc_drawn_L : FnScope ["_law_number_here", "_law_k", "_law_drawn_here"] ["_law_number_here", "_law_k"] z_drawn_L := ⟨rfl, rfl, rfl, by decide +kernel, rfl, by decide +kernel, by decide +kernel⟩
theorem cal_drawn_L (T : Top K mg) : Cal P w K mg base 1 "_law_drawn" ["_law_number_here", "_law_k"] F_drawn_L :=
  cal_of T.d_drawn_L zs_drawn_L sc_drawn_L (fun f cdv A outer s H E hr => by
  have hu := hu150 hr; have hu1 := hu_of hr; have hu2 := hu151 hr; have nd := sc_drawn_L.nd
  exact (sss_cons (ss_set (i := 2) nd (se_bin od_mod (se_bin od_mul (se_bin od_add (se_bin od_add (se_var (i := 0)) (se_bin od_mul se_int (se_var (i := 1)))) se_int) se_int) se_int))
    (sss_one (ss_ret (se_bin od_mod (se_bin od_add (se_bin od_add (se_bin od_mul (se_var (i := 2)) (se_var (i := 2))) (se_bin od_mul se_int (se_var (i := 2)))) (se_var (i := 1))) se_int)))))
theorem zs_words_L : defScope s_words_L = z_words_L := rfl
theorem sc_words_L : FnScope ["_law_number_here", "_law_letters", "_law_found", "_law_k", "_law_drawn_here", "_law_word", "_law_at"] ["_law_number_here"] z_words_L := ⟨rfl, rfl, rfl, by decide +kernel, rfl, by decide +kernel, by decide +kernel⟩
theorem cal_words_L (T : Top K mg) : Cal P w K mg base 2 "_law_words" ["_law_number_here"] F_words_L :=
  cal_of T.d_words_L zs_words_L sc_words_L (fun f cdv A outer s H E hr => by
  have hu := hu150 hr; have hu1 := hu_of hr; have hu2 := hu151 hr; have nd := sc_words_L.nd
  exact (sss_cons (ss_set (i := 1) nd se_str)
    (sss_cons (ss_set (i := 2) nd se_newD)
    (sss_cons (ss_for PassesOwn.never rfl (si_range1 rfl T.b_range (sa_cons se_int sa_nil)) (sg_name (i := 3) nd) (sss_cons (ss_set (i := 4) nd (se_cal (cal_drawn_L T) (hr.mono (by omega)) (sa_cons (se_var (i := 0)) (sa_cons (se_var (i := 3)) sa_nil))))
    (sss_cons (ss_set (i := 5) nd (se_ixA hu1 (se_var (i := 1)) (se_bin od_mod (se_var (i := 4)) se_int)))
    (sss_cons (ss_for PassesOwn.never rfl (si_range1 rfl T.b_range (sa_cons (se_bin od_mul (se_bin od_mod (se_bin od_fdiv (se_var (i := 4)) se_int) se_int) (se_bin od_mod (se_var (i := 0)) se_int)) sa_nil)) (sg_name (i := 6) nd) (sss_one (ss_set (i := 5) nd (se_bin od_add (se_var (i := 5)) (se_ixA hu1 (se_var (i := 1)) (se_bin od_mod (se_bin od_fdiv (se_var (i := 4)) (se_bin od_add (se_bin od_mul se_int (se_var (i := 6))) se_int)) se_int))))))
    (sss_one (ss_put hu1 (se_var (i := 2)) (se_bin od_add (se_var (i := 5)) (se_bin od_mul se_str (se_callTy cd_int T.b_int bb_int (sa_cons (se_inA hu hu1 hu2 (se_var (i := 5)) (se_lit (.tup (.cons (.str ⟨by decide, by decide +kernel⟩) (.cons (.str ⟨by decide, by decide +kernel⟩) (.cons (.str ⟨by decide, by decide +kernel⟩) .nil))) (by decide)))) sa_nil)))) se_bl))))))
    (sss_one (ss_ret (se_callTy cd_tup T.b_tuple bb_tuple (sa_cons (se_sort rfl rfl T.b_sorted (se_var (i := 2))) sa_nil))))))))
theorem zs_names_L : defScope s_names_L = z_names_L := rfl
theorem sc_names_L : FnScope ["_law_number_here", "_law_words_here"] ["_law_number_here", "_law_words_here"] z_names_L := ⟨rfl, rfl, rfl, by decide +kernel, rfl, by decide +kernel, by decide +kernel⟩
theorem cal_names_L (T : Top K mg) : Cal P w K mg base 1 "_law_names" ["_law_number_here", "_law_words_here"] F_names_L :=
  cal_of T.d_names_L zs_names_L sc_names_L (fun f cdv A outer s H E hr => by
  have hu := hu150 hr; have hu1 := hu_of hr; have hu2 := hu151 hr; have nd := sc_names_L.nd
  exact (sss_one (ss_ret (se_callTy cd_tup T.b_tuple bb_tuple (sa_cons (se_comp (ts := ["_law_k", "_law_word"]) (ix := [0]) rfl ⟨rfl, by decide +kernel, by decide +kernel, by exact (show ∀ y ∈ (_ : List (Str × NameKind)), y.2 = NameKind.free → List.lookup y.1 z_names_L.names = some NameKind.cell ∨ List.lookup y.1 z_names_L.names = some NameKind.free from by decide +kernel)⟩ (by exact (show ∀ t ∈ ([0] : List Nat), List.lookup ((["_law_number_here", "_law_words_here"] : List Str).getD t Str.empty) _ = some NameKind.free from by decide +kernel)) (si_enum rfl T.b_enumerate (sa_cons (se_var (i := 1)) sa_nil)) (fun _ _ _ _ _ => ⟨(sg_tup rfl (sgs_cons (sg_name (i := 0) (show (["_law_k", "_law_word", "_law_number_here"] : List Str).Nodup from by decide +kernel)) (sgs_cons (sg_name (i := 1) (show (["_law_k", "_law_word", "_law_number_here"] : List Str).Nodup from by decide +kernel)) sgs_nil))), (sts_one (ts_cmp (od_eq hu) (se_bin od_mod (se_bin od_fdiv (se_var (i := 2)) (se_bin od_add (se_bin od_mul se_int (se_var (i := 0))) se_int)) se_int) se_int)), (se_var (i := 1))⟩)) sa_nil)))))
theorem zs_key_L : defScope s_key_L = z_key_L := rfl
theorem sc_key_L : FnScope ["_law_number_here", "_law_words_here", "_law_many", "_law_deep", "_law_no", "_law_yes"] ["_law_number_here", "_law_words_here", "_law_many", "_law_deep"] z_key_L := ⟨rfl, rfl, rfl, by decide +kernel, rfl, by decide +kernel, by decide +kernel⟩
theorem cal_key_L (T : Top K mg) : ∀ n : Nat, Cal P w K mg base (n + 1) "_law_key" ["_law_number_here", "_law_words_here", "_law_many", "_law_deep"] (F_key_L n)
  | 0 => cal_zero T.d_key_L
  | n + 1 => by
   have Crec := cal_key_L T n
   exact cal_of T.d_key_L zs_key_L sc_key_L (fun f cdv A outer s H E hr => by
     have hu := hu150 hr; have hu1 := hu_of hr; have hu2 := hu151 hr; have nd := sc_key_L.nd
     exact (sss_cons (ss_if (ts_bool (sw_or (ts_cmp (od_eq hu) (se_var (i := 3)) se_int) (sw_or1 (ts_cmp (od_eq hu) (se_bin od_mod (se_var (i := 0)) se_int) se_int)))) (sss_one (ss_ret (se_tup (sa_cons se_str (sa_cons (se_cal (cal_names_L T) (hr.mono (by omega)) (sa_cons (se_bin od_fdiv (se_var (i := 0)) se_int) (sa_cons (se_var (i := 1)) sa_nil))) sa_nil))))) sss_nil)
       (sss_cons (ss_set (i := 4) nd (se_cal Crec (hr.mono (by omega)) (sa_cons (se_cal (cal_drawn_L T) (hr.mono (by omega)) (sa_cons (se_var (i := 0)) (sa_cons se_int sa_nil))) (sa_cons (se_var (i := 1)) (sa_cons (se_var (i := 2)) (sa_cons (se_bin od_sub (se_var (i := 3)) se_int) sa_nil))))))
       (sss_cons (ss_set (i := 5) nd (se_cal Crec (hr.mono (by omega)) (sa_cons (se_cal (cal_drawn_L T) (hr.mono (by omega)) (sa_cons (se_var (i := 0)) (sa_cons se_int sa_nil))) (sa_cons (se_var (i := 1)) (sa_cons (se_var (i := 2)) (sa_cons (se_bin od_sub (se_var (i := 3)) se_int) sa_nil))))))
       (sss_one (ss_ret (se_tup (sa_cons se_str (sa_cons (se_bin od_mod (se_bin od_fdiv (se_var (i := 0)) se_int) (se_var (i := 2))) (sa_cons (se_var (i := 4)) (sa_cons (se_var (i := 5)) sa_nil)))))))))))
theorem zs_number_L : defScope s_number_L = z_number_L := rfl
theorem sc_number_L : FnScope ["_law_thing", "_law_high"] ["_law_thing", "_law_high"] z_number_L := ⟨rfl, rfl, rfl, by decide +kernel, rfl, by decide +kernel, by decide +kernel⟩
theorem cal_number_L (T : Top K mg) : Cal P w K mg base 1 "_law_number" ["_law_thing", "_law_high"] F_number_L :=
  cal_of T.d_number_L zs_number_L sc_number_L (fun f cdv A outer s H E hr => by
  have hu := hu150 hr; have hu1 := hu_of hr; have hu2 := hu151 hr; have nd := sc_number_L.nd
  exact (sss_one (ss_ret (se_and (se_isi kit_int rfl T.b_isinstance T.b_int bb_int (se_var (i := 0))) (se_and (se_not (se_isi kit_bool rfl T.b_isinstance T.b_bool bb_bool (se_var (i := 0)))) (se_one (se_chain od_le od_le se_int (se_var (i := 0)) (se_var (i := 1)))))))))
theorem zs_are_names_L : defScope s_are_names_L = z_are_names_L := rfl
theorem sc_are_names_L : FnScope ["_law_thing", "_law_k", "_law_part"] ["_law_thing"] z_are_names_L := ⟨rfl, rfl, rfl, by decide +kernel, rfl, by decide +kernel, by decide +kernel⟩
theorem cal_are_names_L (T : Top K mg) : Cal P w K mg base 1 "_law_are_names" ["_law_thing"] F_are_names_L :=
  cal_of T.d_are_names_L zs_are_names_L sc_are_names_L (fun f cdv A outer s H E hr => by
  have hu := hu150 hr; have hu1 := hu_of hr; have hu2 := hu151 hr; have nd := sc_are_names_L.nd
  exact (sss_cons (ss_if (ts_not (ts_val (se_isi kit_tuple rfl T.b_isinstance T.b_tuple bb_tuple (se_var (i := 0))))) (sss_one (ss_ret se_bl)) sss_nil)
    (sss_cons (ss_for PassesOwn.never rfl (si_enum rfl T.b_enumerate (sa_cons (se_var (i := 0)) sa_nil)) (sg_tup rfl (sgs_cons (sg_name (i := 1) nd) (sgs_cons (sg_name (i := 2) nd) sgs_nil))) (sss_cons (ss_if (ts_bool (sw_or (ts_not (ts_val (se_isi kit_str rfl T.b_isinstance T.b_str bb_str (se_var (i := 2))))) (sw_or (ts_not (ts_chain od_lt od_lt se_int (se_callB cd_len T.b_len bb_len (sa_cons (se_var (i := 2)) sa_nil)) se_int)) (sw_or1 (ts_bool (sw_and (ts_cmp od_gt (se_var (i := 1)) se_int) (sw_and1 (ts_not (ts_cmp od_lt (se_ixA hu1 (se_var (i := 0)) (se_bin od_sub (se_var (i := 1)) se_int)) (se_var (i := 2))))))))))) (sss_one (ss_ret se_bl)) sss_nil)
    (sss_cons (ss_if (ts_inA hu hu1 hu2 (se_var (i := 2)) (se_lit (.tup (.cons (.str ⟨by decide, by decide +kernel⟩) (.cons (.str ⟨by decide, by decide +kernel⟩) (.cons (.str ⟨by decide, by decide +kernel⟩) .nil))) (by decide)))) (sss_one (ss_ret se_bl)) sss_nil)
    (sss_one (ss_if (ts_cmp (od_ne hu) (se_comp (ts := ["_law_sign"]) (ix := []) rfl ⟨rfl, by decide +kernel, by decide +kernel, by exact (show ∀ y ∈ (_ : List (Str × NameKind)), y.2 = NameKind.free → List.lookup y.1 z_are_names_L.names = some NameKind.cell ∨ List.lookup y.1 z_are_names_L.names = some NameKind.free from by decide +kernel)⟩ (by exact (show ∀ t ∈ ([] : List Nat), List.lookup ((["_law_thing", "_law_k", "_law_part"] : List Str).getD t Str.empty) _ = some NameKind.free from by decide +kernel)) (si_seq (se_var (i := 2))) (fun _ _ _ _ _ => ⟨(sg_name (i := 0) (show (["_law_sign"] : List Str).Nodup from by decide +kernel)), (sts_one (ts_cmp od_lt (me_find rfl se_str (se_var (i := 0))) se_int)), (se_var (i := 0))⟩)) (se_lst sa_nil)) (sss_one (ss_ret se_bl)) sss_nil)))))
    (sss_one (ss_ret se_bl)))))
theorem zs_is_key_L : defScope s_is_key_L = z_is_key_L := rfl
theorem sc_is_key_L : FnScope ["_law_thing", "_law_many", "_law_deep"] ["_law_thing", "_law_many", "_law_deep"] z_is_key_L := ⟨rfl, rfl, rfl, by decide +kernel, rfl, by decide +kernel, by decide +kernel⟩
theorem cal_is_key_L (T : Top K mg) : ∀ n : Nat, Cal P w K mg base (n + 1) "_law_is_key" ["_law_thing", "_law_many", "_law_deep"] (F_is_key_L n)
  | 0 => cal_zero T.d_is_key_L
  | n + 1 => by
   have Crec := cal_is_key_L T n
   exact cal_of T.d_is_key_L zs_is_key_L sc_is_key_L (fun f cdv A outer s H E hr => by
     have hu := hu150 hr; have hu1 := hu_of hr; have hu2 := hu151 hr; have nd := sc_is_key_L.nd
     exact (sss_cons (ss_if (ts_bool (sw_or (ts_cmp od_gt (se_var (i := 2)) se_int) (sw_or (ts_not (ts_val (se_isi kit_tuple rfl T.b_isinstance T.b_tuple bb_tuple (se_var (i := 0))))) (sw_or (ts_cmp (od_eq hu) (se_callB cd_len T.b_len bb_len (sa_cons (se_var (i := 0)) sa_nil)) se_int) (sw_or1 (ts_not (ts_val (se_isi kit_str rfl T.b_isinstance T.b_str bb_str (se_ixA hu1 (se_var (i := 0)) se_int))))))))) (sss_one (ss_ret se_bl)) sss_nil)
       (sss_cons (ss_if (ts_cmp (od_eq hu) (se_ixA hu1 (se_var (i := 0)) se_int) se_str) (sss_one (ss_ret (se_and (se_cmp (od_eq hu) (se_callB cd_len T.b_len bb_len (sa_cons (se_var (i := 0)) sa_nil)) se_int) (se_one (se_cal (cal_are_names_L T) (hr.mono (by omega)) (sa_cons (se_ixA hu1 (se_var (i := 0)) se_int) sa_nil)))))) sss_nil)
       (sss_cons (ss_if (ts_bool (sw_or (ts_cmp (od_ne hu) (se_ixA hu1 (se_var (i := 0)) se_int) se_str) (sw_or (ts_cmp (od_ne hu) (se_callB cd_len T.b_len bb_len (sa_cons (se_var (i := 0)) sa_nil)) se_int) (sw_or1 (ts_not (ts_val (se_cal (cal_number_L T) (hr.mono (by omega)) (sa_cons (se_ixA hu1 (se_var (i := 0)) se_int) (sa_cons (se_bin od_sub (se_var (i := 1)) se_int) sa_nil))))))))) (sss_one (ss_ret se_bl)) sss_nil)
       (sss_one (ss_ret (se_and (se_cal Crec (hr.mono (by omega)) (sa_cons (se_ixA hu1 (se_var (i := 0)) se_int) (sa_cons (se_var (i := 1)) (sa_cons (se_bin od_add (se_var (i := 2)) se_int) sa_nil)))) (se_one (se_cal Crec (hr.mono (by omega)) (sa_cons (se_ixA hu1 (se_var (i := 0)) se_int) (sa_cons (se_var (i := 1)) (sa_cons (se_bin od_add (se_var (i := 2)) se_int) sa_nil))))))))))))
theorem zs_same_L : defScope s_same_L = z_same_L := rfl
theorem sc_same_L : FnScope ["_law_found", "_law_due"] ["_law_found", "_law_due"] z_same_L := ⟨rfl, rfl, rfl, by decide +kernel, rfl, by decide +kernel, by decide +kernel⟩
theorem cal_same_L (T : Top K mg) : Cal P w K mg base 1 "_law_same" ["_law_found", "_law_due"] F_same_L :=
  cal_of T.d_same_L zs_same_L sc_same_L (fun f cdv A outer s H E hr => by
  have hu := hu150 hr; have hu1 := hu_of hr; have hu2 := hu151 hr; have nd := sc_same_L.nd
  exact (sss_one (ss_ret (se_and (se_isi kit_bool rfl T.b_isinstance T.b_bool bb_bool (se_var (i := 0))) (se_one (se_cmp (od_eq hu) (se_var (i := 0)) (se_var (i := 1))))))))
theorem zs_odd_L : defScope s_odd_L = z_odd_L := rfl
theorem sc_odd_L : FnScope ["_law_number_here", "_law_some"] ["_law_number_here"] z_odd_L := ⟨rfl, rfl, rfl, by decide +kernel, rfl, by decide +kernel, by decide +kernel⟩
theorem cal_odd_L (T : Top K mg) : Cal P w K mg base 1 "_law_odd" ["_law_number_here"] F_odd_L :=
  cal_of T.d_odd_L zs_odd_L sc_odd_L (fun f cdv A outer s H E hr => by
  have hu := hu150 hr; have hu1 := hu_of hr; have hu2 := hu151 hr; have nd := sc_odd_L.nd
  exact (sss_cons (ss_set (i := 1) nd (se_lit (.lst (.cons .neg (.cons .int (.cons .int (.cons .int (.cons .int (.cons .bl (.cons .bl (.cons .non (.cons (.str ⟨by decide, by decide +kernel⟩) (.cons (.str ⟨by decide, by decide +kernel⟩) (.cons (.str ⟨by decide, by decide +kernel⟩) (.cons (.str ⟨by decide, by decide +kernel⟩) (.cons (.str ⟨by decide, by decide +kernel⟩) (.cons (.str ⟨by decide, by decide +kernel⟩) (.cons (.tup .nil (by decide)) (.cons (.lst .nil (by decide)) (.cons (.tup (.cons (.str ⟨by decide, by decide +kernel⟩) .nil) (by decide)) (.cons (.tup (.cons (.str ⟨by decide, by decide +kernel⟩) (.cons (.str ⟨by decide, by decide +kernel⟩) .nil)) (by decide)) .nil)))))))))))))))))) (by decide))))
    (sss_cons (ss_set (i := 1) nd (se_bin od_add (se_var (i := 1)) (se_lit (.lst (.cons (.tup (.cons (.str ⟨by decide, by decide +kernel⟩) (.cons (.tup .nil (by decide)) .nil)) (by decide)) (.cons (.tup (.cons (.str ⟨by decide, by decide +kernel⟩) (.cons (.tup (.cons (.str ⟨by decide, by decide +kernel⟩) (.cons (.str ⟨by decide, by decide +kernel⟩) .nil)) (by decide)) .nil)) (by decide)) (.cons (.tup (.cons (.str ⟨by decide, by decide +kernel⟩) (.cons .int .nil)) (by decide)) (.cons (.tup (.cons .int (.cons .int (.cons .int .nil))) (by decide)) (.cons (.tup (.cons .non .nil) (by decide)) .nil))))) (by decide)))))
    (sss_one (ss_ret (se_ixA hu1 (se_bin od_add (se_var (i := 1)) (se_lit (.lst (.cons (.tup (.cons (.str ⟨by decide, by decide +kernel⟩) (.cons .int .nil)) (by decide)) .nil) (by decide)))) (se_bin od_mod (se_var (i := 0)) se_int)))))))
theorem zs_spoilt_L : defScope s_spoilt_L = z_spoilt_L := rfl
theorem sc_spoilt_L : FnScope ["_law_thing", "_law_number_here", "_law_deep", "_law_at", "_law_part"] ["_law_thing", "_law_number_here", "_law_deep"] z_spoilt_L := ⟨rfl, rfl, rfl, by decide +kernel, rfl, by decide +kernel, by decide +kernel⟩
theorem cal_spoilt_L (T : Top K mg) : ∀ n : Nat, Cal P w K mg base (n + 1) "_law_spoilt" ["_law_thing", "_law_number_here", "_law_deep"] (F_spoilt_L n)
  | 0 => cal_zero T.d_spoilt_L
  | n + 1 => by
   have Crec := cal_spoilt_L T n
   exact cal_of T.d_spoilt_L zs_spoilt_L sc_spoilt_L (fun f cdv A outer s H E hr => by
     have hu := hu150 hr; have hu1 := hu_of hr; have hu2 := hu151 hr; have nd := sc_spoilt_L.nd
     exact (sss_cons (ss_if (ts_bool (sw_and (ts_cmp od_gt (se_var (i := 2)) se_int) (sw_and (ts_val (se_isi kit_tuple rfl T.b_isinstance T.b_tuple bb_tuple (se_var (i := 0)))) (sw_and (ts_cmp od_gt (se_callB cd_len T.b_len bb_len (sa_cons (se_var (i := 0)) sa_nil)) se_int) (sw_and1 (ts_cmp od_gt (se_bin od_mod (se_var (i := 1)) se_int) se_int)))))) (sss_cons (ss_set (i := 3) nd (se_bin od_mod (se_bin od_fdiv (se_var (i := 1)) se_int) (se_callB cd_len T.b_len bb_len (sa_cons (se_var (i := 0)) sa_nil))))
       (sss_cons (ss_set (i := 4) nd (se_cal Crec (hr.mono (by omega)) (sa_cons (se_ixA hu1 (se_var (i := 0)) (se_var (i := 3))) (sa_cons (se_bin od_fdiv (se_bin od_fdiv (se_var (i := 1)) se_int) (se_callB cd_len T.b_len bb_len (sa_cons (se_var (i := 0)) sa_nil))) (sa_cons (se_bin od_sub (se_var (i := 2)) se_int) sa_nil)))))
       (sss_one (ss_ret (se_bin od_add (se_bin od_add (se_sl sld (se_var (i := 0)) trivial (se_var (i := 3))) (se_tup (sa_cons (se_var (i := 4)) sa_nil))) (se_sl sld (se_var (i := 0)) (se_bin od_add (se_var (i := 3)) se_int) trivial)))))) sss_nil)
       (sss_cons (ss_if (ts_bool (sw_and (ts_val (se_isi kit_tuple rfl T.b_isinstance T.b_tuple bb_tuple (se_var (i := 0)))) (sw_and (ts_cmp od_gt (se_callB cd_len T.b_len bb_len (sa_cons (se_var (i := 0)) sa_nil)) se_int) (sw_and1 (ts_cmp (od_eq hu) (se_bin od_mod (se_bin od_fdiv (se_var (i := 1)) se_int) se_int) se_int))))) (sss_one (ss_ret (se_ixA hu1 (se_lst (sa_cons (se_callTy cd_lst T.b_list bb_list (sa_cons (se_var (i := 0)) sa_nil)) (sa_cons (se_sl sld (se_var (i := 0)) trivial (se_un ud_neg se_int)) (sa_cons (se_bin od_add (se_var (i := 0)) (se_sl sld (se_var (i := 0)) (se_un ud_neg se_int) trivial)) (sa_cons (se_sl sld (se_var (i := 0)) se_int trivial) (sa_cons (se_rev (se_var (i := 0)) fun _ _ _ h => minus_one h) (sa_cons (se_bin od_mul (se_var (i := 0)) se_int) sa_nil))))))) (se_bin od_mod (se_bin od_fdiv (se_var (i := 1)) se_int) se_int)))) sss_nil)
       (sss_cons (ss_if (ts_bool (sw_and (ts_val (se_isi kit_int rfl T.b_isinstance T.b_int bb_int (se_var (i := 0)))) (sw_and1 (ts_cmp (od_eq hu) (se_bin od_mod (se_bin od_fdiv (se_var (i := 1)) se_int) se_int) se_int)))) (sss_one (ss_ret (se_ixA hu1 (se_lst (sa_cons (se_callTy cd_str T.b_str bb_str (sa_cons (se_var (i := 0)) sa_nil)) (sa_cons (se_un ud_neg (se_var (i := 0))) (sa_cons (se_bin od_mul (se_var (i := 0)) se_int) (sa_cons (se_cmp (od_eq hu) (se_var (i := 0)) se_int) (sa_cons (se_bin od_add (se_var (i := 0)) se_int) sa_nil)))))) (se_bin od_mod (se_bin od_fdiv (se_var (i := 1)) se_int) se_int)))) sss_nil)
       (sss_cons (ss_if (ts_bool (sw_and (ts_val (se_isi kit_str rfl T.b_isinstance T.b_str bb_str (se_var (i := 0)))) (sw_and1 (ts_cmp (od_eq hu) (se_bin od_mod (se_bin od_fdiv (se_var (i := 1)) se_int) se_int) se_int)))) (sss_one (ss_ret (se_ixA hu1 (se_lst (sa_cons (se_bin od_add (se_var (i := 0)) se_str) (sa_cons (se_sl sld (se_var (i := 0)) trivial (se_un ud_neg se_int)) (sa_cons (me_upper rfl (se_var (i := 0))) (sa_cons (se_bin od_add (se_var (i := 0)) se_str) (sa_cons (se_bin od_mul (se_var (i := 0)) se_int) (sa_cons (se_rev (se_var (i := 0)) fun _ _ _ h => minus_one h) sa_nil))))))) (se_bin od_mod (se_bin od_fdiv (se_var (i := 1)) se_int) se_int)))) sss_nil)
       (sss_one (ss_ret (se_cal (cal_odd_L T) (hr.mono (by omega)) (sa_cons (se_bin od_fdiv (se_var (i := 1)) se_int) sa_nil)))))))))
theorem zs_law : defScope s_law = z_law := rfl
theorem sc_law : FnScope ["_law_script", "_law_many", "_law_words_here", "_law_thing", "_law_k", "_law_there"] ["_law_script"] z_law := ⟨rfl, rfl, rfl, by decide +kernel, rfl, by decide +kernel, by decide +kernel⟩
theorem fn_law (T : Top K mg) {f : Addr} {fd : FuncData} (Fn : Fun K "law" "law" s_law f fd) : FnD P w K mg base 21 f fd ["_law_script"] F_law :=
  fn_of_body Fn zs_law sc_law (fun _ cdv A outer s H E hr => by
  have hu := hu150 hr; have hu1 := hu_of hr; have hu2 := hu151 hr; have nd := sc_law.nd
  exact (sss_cons (ss_set (i := 1) nd (se_bin od_add se_int (se_bin od_mod (se_cal (cal_mixed_L T) (hr.mono (by omega)) (sa_cons (se_var (i := 0)) (sa_cons se_int sa_nil))) se_int)))
    (sss_cons (ss_set (i := 2) nd (se_cal (cal_words_L T) (hr.mono (by omega)) (sa_cons (se_cal (cal_mixed_L T) (hr.mono (by omega)) (sa_cons (se_var (i := 0)) (sa_cons se_int sa_nil))) sa_nil)))
    (sss_cons (ss_set (i := 3) nd (se_cal (cal_key_L T 8) (hr.mono (by omega)) (sa_cons (se_cal (cal_mixed_L T) (hr.mono (by omega)) (sa_cons (se_var (i := 0)) (sa_cons se_int sa_nil))) (sa_cons (se_var (i := 2)) (sa_cons (se_var (i := 1)) (sa_cons (se_bin od_mod (se_cal (cal_mixed_L T) (hr.mono (by omega)) (sa_cons (se_var (i := 0)) (sa_cons se_int sa_nil))) se_int) sa_nil))))))
    (sss_cons (ss_if (ts_cmp (od_eq hu) (se_bin od_mod (se_bin od_fdiv (se_cal (cal_mixed_L T) (hr.mono (by omega)) (sa_cons (se_var (i := 0)) (sa_cons se_int sa_nil))) se_int) se_int) se_int) (sss_one (ss_for PassesOwn.never rfl (si_range1 rfl T.b_range (sa_cons (se_bin od_mod (se_bin od_fdiv (se_cal (cal_mixed_L T) (hr.mono (by omega)) (sa_cons (se_var (i := 0)) (sa_cons se_int sa_nil))) se_int) se_int) sa_nil)) (sg_name (i := 4) nd) (sss_one (ss_set (i := 3) nd (se_tup (sa_cons se_str (sa_cons (se_bin od_mod (se_var (i := 4)) (se_var (i := 1))) (sa_cons (se_var (i := 3)) (sa_cons (se_lit (.tup (.cons (.str ⟨by decide, by decide +kernel⟩) (.cons (.tup .nil (by decide)) .nil)) (by decide))) sa_nil))))))))) sss_nil)
    (sss_cons (ss_if (ts_cmp (od_eq hu) (se_bin od_mod (se_cal (cal_mixed_L T) (hr.mono (by omega)) (sa_cons (se_var (i := 0)) (sa_cons se_int sa_nil))) se_int) se_int) (sss_one (ss_set (i := 3) nd (se_cal (cal_spoilt_L T 8) (hr.mono (by omega)) (sa_cons (se_var (i := 3)) (sa_cons (se_cal (cal_mixed_L T) (hr.mono (by omega)) (sa_cons (se_var (i := 0)) (sa_cons se_int sa_nil))) (sa_cons (se_bin od_mod (se_bin od_fdiv (se_cal (cal_mixed_L T) (hr.mono (by omega)) (sa_cons (se_var (i := 0)) (sa_cons se_int sa_nil))) se_int) se_int) sa_nil)))))) sss_nil)
    (sss_cons (ss_set (i := 5) nd (se_callB (cd_min rfl) T.b_min bb_min (sa_cons se_int (sa_cons (se_callB (cd_max rfl) T.b_max bb_max (sa_cons se_int (sa_cons (se_bin od_add (se_var (i := 1)) (se_ixA hu1 (se_lit (.tup (.cons .int (.cons .int (.cons .int (.cons .neg .nil)))) (by decide))) (se_bin od_mod (se_bin od_fdiv (se_cal (cal_mixed_L T) (hr.mono (by omega)) (sa_cons (se_var (i := 0)) (sa_cons se_int sa_nil))) se_int) se_int))) sa_nil))) sa_nil))))
    (sss_one (ss_ret (se_cal (cal_same_L T) (hr.mono (by omega)) (sa_cons (se_cal (cal_is_key T) (hr.mono (by omega)) (sa_cons (se_var (i := 3)) (sa_cons (se_var (i := 5)) sa_nil))) (sa_cons (se_cal (cal_is_key_L T 15) (hr.mono (by omega)) (sa_cons (se_var (i := 3)) (sa_cons (se_var (i := 5)) (sa_cons se_int sa_nil)))) sa_nil))))))))))))
end
theorem top_mk {K : PySem.W.Frag} {h : Heap} {mg : Str → Option Value} (X : K.In h) (G : h.Ns mainGlobals mg)
    {f0 : Addr} {od0 an0 : Option Addr} {sl0 : Array (Option Value)} {oc0 kV0 dc0 pm0 cd0 ct0 : Value}
    {f1 : Addr} {od1 an1 : Option Addr} {sl1 : Array (Option Value)} {oc1 kV1 dc1 pm1 cd1 ct1 : Value}
    {f2 : Addr} {od2 an2 : Option Addr} {sl2 : Array (Option Value)} {oc2 kV2 dc2 pm2 cd2 ct2 : Value}
    {f3 : Addr} {od3 an3 : Option Addr} {sl3 : Array (Option Value)} {oc3 kV3 dc3 pm3 cd3 ct3 : Value}
    {f4 : Addr} {od4 an4 : Option Addr} {sl4 : Array (Option Value)} {oc4 kV4 dc4 pm4 cd4 ct4 : Value}
    {f5 : Addr} {od5 an5 : Option Addr} {sl5 : Array (Option Value)} {oc5 kV5 dc5 pm5 cd5 ct5 : Value}
    {f6 : Addr} {od6 an6 : Option Addr} {sl6 : Array (Option Value)} {oc6 kV6 dc6 pm6 cd6 ct6 : Value}
    {f7 : Addr} {od7 an7 : Option Addr} {sl7 : Array (Option Value)} {oc7 kV7 dc7 pm7 cd7 ct7 : Value}
    {f8 : Addr} {od8 an8 : Option Addr} {sl8 : Array (Option Value)} {oc8 kV8 dc8 pm8 cd8 ct8 : Value}
    {f9 : Addr} {od9 an9 : Option Addr} {sl9 : Array (Option Value)} {oc9 kV9 dc9 pm9 cd9 ct9 : Value}
    {f10 : Addr} {od10 an10 : Option Addr} {sl10 : Array (Option Value)} {oc10 kV10 dc10 pm10 cd10 ct10 : Value}
    {f11 : Addr} {od11 an11 : Option Addr} {sl11 : Array (Option Value)} {oc11 kV11 dc11 pm11 cd11 ct11 : Value}
    {f12 : Addr} {od12 an12 : Option Addr} {sl12 : Array (Option Value)} {oc12 kV12 dc12 pm12 cd12 ct12 : Value}
    {f13 : Addr} {od13 an13 : Option Addr} {sl13 : Array (Option Value)} {oc13 kV13 dc13 pm13 cd13 ct13 : Value}
    {f14 : Addr} {od14 an14 : Option Addr} {sl14 : Array (Option Value)} {oc14 kV14 dc14 pm14 cd14 ct14 : Value}
    {f15 : Addr} {od15 an15 : Option Addr} {sl15 : Array (Option Value)} {oc15 kV15 dc15 pm15 cd15 ct15 : Value}
    {f16 : Addr} {od16 an16 : Option Addr} {sl16 : Array (Option Value)} {oc16 kV16 dc16 pm16 cd16 ct16 : Value}
    {f17 : Addr} {od17 an17 : Option Addr} {sl17 : Array (Option Value)} {oc17 kV17 dc17 pm17 cd17 ct17 : Value}
    {f18 : Addr} {od18 an18 : Option Addr} {sl18 : Array (Option Value)} {oc18 kV18 dc18 pm18 cd18 ct18 : Value}
    {f19 : Addr} {od19 an19 : Option Addr} {sl19 : Array (Option Value)} {oc19 kV19 dc19 pm19 cd19 ct19 : Value}
    {f20 : Addr} {od20 an20 : Option Addr} {sl20 : Array (Option Value)} {oc20 kV20 dc20 pm20 cd20 ct20 : Value}
    {f21 : Addr} {od21 an21 : Option Addr} {sl21 : Array (Option Value)} {oc21 kV21 dc21 pm21 cd21 ct21 : Value}
    {v_KEPT_WORDS : Addr} {o_KEPT_WORDS : Obj}
    {v_MOST_LETTERS : Value}
    {v_MOST_KEYS_ABOVE : Value}
    (a0 : PySem.W.nsIn K mainGlobals "is_number_below" = some (some (.ref f0))) (l0 : K.lookup f0 = some ⟨oc0, od0, .func (PySem.W.fnOf "is_number_below" "is_number_below" (defArgs s_is_number_below) (defBody s_is_number_below) (defScope s_is_number_below) .none kV0 dc0 pm0 an0 cd0 ct0), sl0⟩) (c0 : PySem.W.codeIn K cd0 "is_number_below" = true) (k0 : PySem.W.keepIn K (.ref f0) = true)
    (a1 : PySem.W.nsIn K mainGlobals "is_tuple_of" = some (some (.ref f1))) (l1 : K.lookup f1 = some ⟨oc1, od1, .func (PySem.W.fnOf "is_tuple_of" "is_tuple_of" (defArgs s_is_tuple_of) (defBody s_is_tuple_of) (defScope s_is_tuple_of) .none kV1 dc1 pm1 an1 cd1 ct1), sl1⟩) (c1 : PySem.W.codeIn K cd1 "is_tuple_of" = true) (k1 : PySem.W.keepIn K (.ref f1) = true)
    (a2 : PySem.W.nsIn K mainGlobals "has_plain_letters" = some (some (.ref f2))) (l2 : K.lookup f2 = some ⟨oc2, od2, .func (PySem.W.fnOf "has_plain_letters" "has_plain_letters" (defArgs s_has_plain_letters) (defBody s_has_plain_letters) (defScope s_has_plain_letters) .none kV2 dc2 pm2 an2 cd2 ct2), sl2⟩) (c2 : PySem.W.codeIn K cd2 "has_plain_letters" = true) (k2 : PySem.W.keepIn K (.ref f2) = true)
    (a3 : PySem.W.nsIn K mainGlobals "is_name" = some (some (.ref f3))) (l3 : K.lookup f3 = some ⟨oc3, od3, .func (PySem.W.fnOf "is_name" "is_name" (defArgs s_is_name) (defBody s_is_name) (defScope s_is_name) .none kV3 dc3 pm3 an3 cd3 ct3), sl3⟩) (c3 : PySem.W.codeIn K cd3 "is_name" = true) (k3 : PySem.W.keepIn K (.ref f3) = true)
    (a4 : PySem.W.nsIn K mainGlobals "is_names" = some (some (.ref f4))) (l4 : K.lookup f4 = some ⟨oc4, od4, .func (PySem.W.fnOf "is_names" "is_names" (defArgs s_is_names) (defBody s_is_names) (defScope s_is_names) .none kV4 dc4 pm4 an4 cd4 ct4), sl4⟩) (c4 : PySem.W.codeIn K cd4 "is_names" = true) (k4 : PySem.W.keepIn K (.ref f4) = true)
    (a5 : PySem.W.nsIn K mainGlobals "is_leaf" = some (some (.ref f5))) (l5 : K.lookup f5 = some ⟨oc5, od5, .func (PySem.W.fnOf "is_leaf" "is_leaf" (defArgs s_is_leaf) (defBody s_is_leaf) (defScope s_is_leaf) .none kV5 dc5 pm5 an5 cd5 ct5), sl5⟩) (c5 : PySem.W.codeIn K cd5 "is_leaf" = true) (k5 : PySem.W.keepIn K (.ref f5) = true)
    (a6 : PySem.W.nsIn K mainGlobals "is_ask" = some (some (.ref f6))) (l6 : K.lookup f6 = some ⟨oc6, od6, .func (PySem.W.fnOf "is_ask" "is_ask" (defArgs s_is_ask) (defBody s_is_ask) (defScope s_is_ask) .none kV6 dc6 pm6 an6 cd6 ct6), sl6⟩) (c6 : PySem.W.codeIn K cd6 "is_ask" = true) (k6 : PySem.W.keepIn K (.ref f6) = true)
    (a7 : PySem.W.nsIn K mainGlobals "is_key_within" = some (some (.ref f7))) (l7 : K.lookup f7 = some ⟨oc7, od7, .func (PySem.W.fnOf "is_key_within" "is_key_within" (defArgs s_is_key_within) (defBody s_is_key_within) (defScope s_is_key_within) .none kV7 dc7 pm7 an7 cd7 ct7), sl7⟩) (c7 : PySem.W.codeIn K cd7 "is_key_within" = true) (k7 : PySem.W.keepIn K (.ref f7) = true)
    (a8 : PySem.W.nsIn K mainGlobals "is_key" = some (some (.ref f8))) (l8 : K.lookup f8 = some ⟨oc8, od8, .func (PySem.W.fnOf "is_key" "is_key" (defArgs s_is_key) (defBody s_is_key) (defScope s_is_key) .none kV8 dc8 pm8 an8 cd8 ct8), sl8⟩) (c8 : PySem.W.codeIn K cd8 "is_key" = true) (k8 : PySem.W.keepIn K (.ref f8) = true)
    (a9 : PySem.W.nsIn K mainGlobals "_law_cell_at" = some (some (.ref f9))) (l9 : K.lookup f9 = some ⟨oc9, od9, .func (PySem.W.fnOf "_law_cell_at" "_law_cell_at" (defArgs s_cell_at_L) (defBody s_cell_at_L) (defScope s_cell_at_L) .none kV9 dc9 pm9 an9 cd9 ct9), sl9⟩) (c9 : PySem.W.codeIn K cd9 "_law_cell_at" = true) (k9 : PySem.W.keepIn K (.ref f9) = true)
    (a10 : PySem.W.nsIn K mainGlobals "_law_mixed" = some (some (.ref f10))) (l10 : K.lookup f10 = some ⟨oc10, od10, .func (PySem.W.fnOf "_law_mixed" "_law_mixed" (defArgs s_mixed_L) (defBody s_mixed_L) (defScope s_mixed_L) .none kV10 dc10 pm10 an10 cd10 ct10), sl10⟩) (c10 : PySem.W.codeIn K cd10 "_law_mixed" = true) (k10 : PySem.W.keepIn K (.ref f10) = true)
    (a11 : PySem.W.nsIn K mainGlobals "_law_drawn" = some (some (.ref f11))) (l11 : K.lookup f11 = some ⟨oc11, od11, .func (PySem.W.fnOf "_law_drawn" "_law_drawn" (defArgs s_drawn_L) (defBody s_drawn_L) (defScope s_drawn_L) .none kV11 dc11 pm11 an11 cd11 ct11), sl11⟩) (c11 : PySem.W.codeIn K cd11 "_law_drawn" = true) (k11 : PySem.W.keepIn K (.ref f11) = true)
    (a12 : PySem.W.nsIn K mainGlobals "_law_words" = some (some (.ref f12))) (l12 : K.lookup f12 = some ⟨oc12, od12, .func (PySem.W.fnOf "_law_words" "_law_words" (defArgs s_words_L) (defBody s_words_L) (defScope s_words_L) .none kV12 dc12 pm12 an12 cd12 ct12), sl12⟩) (c12 : PySem.W.codeIn K cd12 "_law_words" = true) (k12 : PySem.W.keepIn K (.ref f12) = true)
    (a13 : PySem.W.nsIn K mainGlobals "_law_names" = some (some (.ref f13))) (l13 : K.lookup f13 = some ⟨oc13, od13, .func (PySem.W.fnOf "_law_names" "_law_names" (defArgs s_names_L) (defBody s_names_L) (defScope s_names_L) .none kV13 dc13 pm13 an13 cd13 ct13), sl13⟩) (c13 : PySem.W.codeIn K cd13 "_law_names" = true) (k13 : PySem.W.keepIn K (.ref f13) = true)
    (a14 : PySem.W.nsIn K mainGlobals "_law_key" = some (some (.ref f14))) (l14 : K.lookup f14 = some ⟨oc14, od14, .func (PySem.W.fnOf "_law_key" "_law_key" (defArgs s_key_L) (defBody s_key_L) (defScope s_key_L) .none kV14 dc14 pm14 an14 cd14 ct14), sl14⟩) (c14 : PySem.W.codeIn K cd14 "_law_key" = true) (k14 : PySem.W.keepIn K (.ref f14) = true)
    (a15 : PySem.W.nsIn K mainGlobals "_law_number" = some (some (.ref f15))) (l15 : K.lookup f15 = some ⟨oc15, od15, .func (PySem.W.fnOf "_law_number" "_law_number" (defArgs s_number_L) (defBody s_number_L) (defScope s_number_L) .none kV15 dc15 pm15 an15 cd15 ct15), sl15⟩) (c15 : PySem.W.codeIn K cd15 "_law_number" = true) (k15 : PySem.W.keepIn K (.ref f15) = true)
    (a16 : PySem.W.nsIn K mainGlobals "_law_are_names" = some (some (.ref f16))) (l16 : K.lookup f16 = some ⟨oc16, od16, .func (PySem.W.fnOf "_law_are_names" "_law_are_names" (defArgs s_are_names_L) (defBody s_are_names_L) (defScope s_are_names_L) .none kV16 dc16 pm16 an16 cd16 ct16), sl16⟩) (c16 : PySem.W.codeIn K cd16 "_law_are_names" = true) (k16 : PySem.W.keepIn K (.ref f16) = true)
    (a17 : PySem.W.nsIn K mainGlobals "_law_is_key" = some (some (.ref f17))) (l17 : K.lookup f17 = some ⟨oc17, od17, .func (PySem.W.fnOf "_law_is_key" "_law_is_key" (defArgs s_is_key_L) (defBody s_is_key_L) (defScope s_is_key_L) .none kV17 dc17 pm17 an17 cd17 ct17), sl17⟩) (c17 : PySem.W.codeIn K cd17 "_law_is_key" = true) (k17 : PySem.W.keepIn K (.ref f17) = true)
    (a18 : PySem.W.nsIn K mainGlobals "_law_same" = some (some (.ref f18))) (l18 : K.lookup f18 = some ⟨oc18, od18, .func (PySem.W.fnOf "_law_same" "_law_same" (defArgs s_same_L) (defBody s_same_L) (defScope s_same_L) .none kV18 dc18 pm18 an18 cd18 ct18), sl18⟩) (c18 : PySem.W.codeIn K cd18 "_law_same" = true) (k18 : PySem.W.keepIn K (.ref f18) = true)
    (a19 : PySem.W.nsIn K mainGlobals "_law_odd" = some (some (.ref f19))) (l19 : K.lookup f19 = some ⟨oc19, od19, .func (PySem.W.fnOf "_law_odd" "_law_odd" (defArgs s_odd_L) (defBody s_odd_L) (defScope s_odd_L) .none kV19 dc19 pm19 an19 cd19 ct19), sl19⟩) (c19 : PySem.W.codeIn K cd19 "_law_odd" = true) (k19 : PySem.W.keepIn K (.ref f19) = true)
    (a20 : PySem.W.nsIn K mainGlobals "_law_spoilt" = some (some (.ref f20))) (l20 : K.lookup f20 = some ⟨oc20, od20, .func (PySem.W.fnOf "_law_spoilt" "_law_spoilt" (defArgs s_spoilt_L) (defBody s_spoilt_L) (defScope s_spoilt_L) .none kV20 dc20 pm20 an20 cd20 ct20), sl20⟩) (c20 : PySem.W.codeIn K cd20 "_law_spoilt" = true) (k20 : PySem.W.keepIn K (.ref f20) = true)
    (a21 : PySem.W.nsIn K mainGlobals "law" = some (some (.ref f21))) (l21 : K.lookup f21 = some ⟨oc21, od21, .func (PySem.W.fnOf "law" "law" (defArgs s_law) (defBody s_law) (defScope s_law) .none kV21 dc21 pm21 an21 cd21 ct21), sl21⟩) (c21 : PySem.W.codeIn K cd21 "law" = true) (k21 : PySem.W.keepIn K (.ref f21) = true)
    (z_isinstance : PySem.W.nsIn K mainGlobals "isinstance" = some none)
    (z_int : PySem.W.nsIn K mainGlobals "int" = some none)
    (z_bool : PySem.W.nsIn K mainGlobals "bool" = some none)
    (z_tuple : PySem.W.nsIn K mainGlobals "tuple" = some none)
    (z_len : PySem.W.nsIn K mainGlobals "len" = some none)
    (z_all : PySem.W.nsIn K mainGlobals "all" = some none)
    (z_str : PySem.W.nsIn K mainGlobals "str" = some none)
    (z_sorted : PySem.W.nsIn K mainGlobals "sorted" = some none)
    (z_set : PySem.W.nsIn K mainGlobals "set" = some none)
    (z_range : PySem.W.nsIn K mainGlobals "range" = some none)
    (z_enumerate : PySem.W.nsIn K mainGlobals "enumerate" = some none)
    (z_list : PySem.W.nsIn K mainGlobals "list" = some none)
    (z_max : PySem.W.nsIn K mainGlobals "max" = some none)
    (z_min : PySem.W.nsIn K mainGlobals "min" = some none)
    (e_KEPT_WORDS : PySem.W.nsIn K mainGlobals "KEPT_WORDS" = some (some (.ref v_KEPT_WORDS))) (y_KEPT_WORDS : K.lookup v_KEPT_WORDS = some o_KEPT_WORDS) (t_KEPT_WORDS : conObj o_KEPT_WORDS (D.tup [(D.str "names"), (D.str "ask"), (D.str "end")]) = true)
    (e_MOST_LETTERS : PySem.W.nsIn K mainGlobals "MOST_LETTERS" = some (some v_MOST_LETTERS)) (t_MOST_LETTERS : conVal v_MOST_LETTERS (D.int 8) = true)
    (e_MOST_KEYS_ABOVE : PySem.W.nsIn K mainGlobals "MOST_KEYS_ABOVE" = some (some v_MOST_KEYS_ABOVE)) (t_MOST_KEYS_ABOVE : conVal v_MOST_KEYS_ABOVE (D.int 12) = true) : Top K mg where
  d_is_number_below := ⟨f0, _, fun_mk (st := s_is_number_below) l0 c0 k0, PySem.W.mg_of X G a0, (fun_mk (st := s_is_number_below) l0 c0 k0).binds (ps := ["thing", "bound"]) fun _ _ _ _ _ _ us hl => match us, hl with | [_, _], _ => rfl⟩
  d_is_tuple_of := ⟨f1, _, fun_mk (st := s_is_tuple_of) l1 c1 k1, PySem.W.mg_of X G a1, (fun_mk (st := s_is_tuple_of) l1 c1 k1).binds (ps := ["thing", "length"]) fun _ _ _ _ _ _ us hl => match us, hl with | [_, _], _ => rfl⟩
  d_has_plain_letters := ⟨f2, _, fun_mk (st := s_has_plain_letters) l2 c2 k2, PySem.W.mg_of X G a2, (fun_mk (st := s_has_plain_letters) l2 c2 k2).binds (ps := ["text"]) fun _ _ _ _ _ _ us hl => match us, hl with | [_], _ => rfl⟩
  d_is_name := ⟨f3, _, fun_mk (st := s_is_name) l3 c3 k3, PySem.W.mg_of X G a3, (fun_mk (st := s_is_name) l3 c3 k3).binds (ps := ["thing"]) fun _ _ _ _ _ _ us hl => match us, hl with | [_], _ => rfl⟩
  d_is_names := ⟨f4, _, fun_mk (st := s_is_names) l4 c4 k4, PySem.W.mg_of X G a4, (fun_mk (st := s_is_names) l4 c4 k4).binds (ps := ["thing"]) fun _ _ _ _ _ _ us hl => match us, hl with | [_], _ => rfl⟩
  d_is_leaf := ⟨f5, _, fun_mk (st := s_is_leaf) l5 c5 k5, PySem.W.mg_of X G a5, (fun_mk (st := s_is_leaf) l5 c5 k5).binds (ps := ["thing"]) fun _ _ _ _ _ _ us hl => match us, hl with | [_], _ => rfl⟩
  d_is_ask := ⟨f6, _, fun_mk (st := s_is_ask) l6 c6 k6, PySem.W.mg_of X G a6, (fun_mk (st := s_is_ask) l6 c6 k6).binds (ps := ["thing", "many"]) fun _ _ _ _ _ _ us hl => match us, hl with | [_, _], _ => rfl⟩
  d_is_key_within := ⟨f7, _, fun_mk (st := s_is_key_within) l7 c7 k7, PySem.W.mg_of X G a7, (fun_mk (st := s_is_key_within) l7 c7 k7).binds (ps := ["thing", "many", "depth_left"]) fun _ _ _ _ _ _ us hl => match us, hl with | [_, _, _], _ => rfl⟩
  d_is_key := ⟨f8, _, fun_mk (st := s_is_key) l8 c8 k8, PySem.W.mg_of X G a8, (fun_mk (st := s_is_key) l8 c8 k8).binds (ps := ["thing", "many"]) fun _ _ _ _ _ _ us hl => match us, hl with | [_, _], _ => rfl⟩
  d_cell_at_L := ⟨f9, _, fun_mk (st := s_cell_at_L) l9 c9 k9, PySem.W.mg_of X G a9, (fun_mk (st := s_cell_at_L) l9 c9 k9).binds (ps := ["_law_script", "_law_k"]) fun _ _ _ _ _ _ us hl => match us, hl with | [_, _], _ => rfl⟩
  d_mixed_L := ⟨f10, _, fun_mk (st := s_mixed_L) l10 c10 k10, PySem.W.mg_of X G a10, (fun_mk (st := s_mixed_L) l10 c10 k10).binds (ps := ["_law_script", "_law_k"]) fun _ _ _ _ _ _ us hl => match us, hl with | [_, _], _ => rfl⟩
  d_drawn_L := ⟨f11, _, fun_mk (st := s_drawn_L) l11 c11 k11, PySem.W.mg_of X G a11, (fun_mk (st := s_drawn_L) l11 c11 k11).binds (ps := ["_law_number_here", "_law_k"]) fun _ _ _ _ _ _ us hl => match us, hl with | [_, _], _ => rfl⟩
  d_words_L := ⟨f12, _, fun_mk (st := s_words_L) l12 c12 k12, PySem.W.mg_of X G a12, (fun_mk (st := s_words_L) l12 c12 k12).binds (ps := ["_law_number_here"]) fun _ _ _ _ _ _ us hl => match us, hl with | [_], _ => rfl⟩
  d_names_L := ⟨f13, _, fun_mk (st := s_names_L) l13 c13 k13, PySem.W.mg_of X G a13, (fun_mk (st := s_names_L) l13 c13 k13).binds (ps := ["_law_number_here", "_law_words_here"]) fun _ _ _ _ _ _ us hl => match us, hl with | [_, _], _ => rfl⟩
  d_key_L := ⟨f14, _, fun_mk (st := s_key_L) l14 c14 k14, PySem.W.mg_of X G a14, (fun_mk (st := s_key_L) l14 c14 k14).binds (ps := ["_law_number_here", "_law_words_here", "_law_many", "_law_deep"]) fun _ _ _ _ _ _ us hl => match us, hl with | [_, _, _, _], _ => rfl⟩
  d_number_L := ⟨f15, _, fun_mk (st := s_number_L) l15 c15 k15, PySem.W.mg_of X G a15, (fun_mk (st := s_number_L) l15 c15 k15).binds (ps := ["_law_thing", "_law_high"]) fun _ _ _ _ _ _ us hl => match us, hl with | [_, _], _ => rfl⟩
  d_are_names_L := ⟨f16, _, fun_mk (st := s_are_names_L) l16 c16 k16, PySem.W.mg_of X G a16, (fun_mk (st := s_are_names_L) l16 c16 k16).binds (ps := ["_law_thing"]) fun _ _ _ _ _ _ us hl => match us, hl with | [_], _ => rfl⟩
  d_is_key_L := ⟨f17, _, fun_mk (st := s_is_key_L) l17 c17 k17, PySem.W.mg_of X G a17, (fun_mk (st := s_is_key_L) l17 c17 k17).binds (ps := ["_law_thing", "_law_many", "_law_deep"]) fun _ _ _ _ _ _ us hl => match us, hl with | [_, _, _], _ => rfl⟩
  d_same_L := ⟨f18, _, fun_mk (st := s_same_L) l18 c18 k18, PySem.W.mg_of X G a18, (fun_mk (st := s_same_L) l18 c18 k18).binds (ps := ["_law_found", "_law_due"]) fun _ _ _ _ _ _ us hl => match us, hl with | [_, _], _ => rfl⟩
  d_odd_L := ⟨f19, _, fun_mk (st := s_odd_L) l19 c19 k19, PySem.W.mg_of X G a19, (fun_mk (st := s_odd_L) l19 c19 k19).binds (ps := ["_law_number_here"]) fun _ _ _ _ _ _ us hl => match us, hl with | [_], _ => rfl⟩
  d_spoilt_L := ⟨f20, _, fun_mk (st := s_spoilt_L) l20 c20 k20, PySem.W.mg_of X G a20, (fun_mk (st := s_spoilt_L) l20 c20 k20).binds (ps := ["_law_thing", "_law_number_here", "_law_deep"]) fun _ _ _ _ _ _ us hl => match us, hl with | [_, _, _], _ => rfl⟩
  d_law := ⟨f21, _, fun_mk (st := s_law) l21 c21 k21, PySem.W.mg_of X G a21, (fun_mk (st := s_law) l21 c21 k21).binds (ps := ["_law_script"]) fun _ _ _ _ _ _ us hl => match us, hl with | [_], _ => rfl⟩
  b_isinstance := PySem.W.mg_none_of X G z_isinstance
  b_int := PySem.W.mg_none_of X G z_int
  b_bool := PySem.W.mg_none_of X G z_bool
  b_tuple := PySem.W.mg_none_of X G z_tuple
  b_len := PySem.W.mg_none_of X G z_len
  b_all := PySem.W.mg_none_of X G z_all
  b_str := PySem.W.mg_none_of X G z_str
  b_sorted := PySem.W.mg_none_of X G z_sorted
  b_set := PySem.W.mg_none_of X G z_set
  b_range := PySem.W.mg_none_of X G z_range
  b_enumerate := PySem.W.mg_none_of X G z_enumerate
  b_list := PySem.W.mg_none_of X G z_list
  b_max := PySem.W.mg_none_of X G z_max
  b_min := PySem.W.mg_none_of X G z_min
  c_KEPT_WORDS := ⟨_, PySem.W.mg_of X G e_KEPT_WORDS, con_obj y_KEPT_WORDS t_KEPT_WORDS⟩
  c_MOST_LETTERS := ⟨_, PySem.W.mg_of X G e_MOST_LETTERS, con_val t_MOST_LETTERS⟩
  c_MOST_KEYS_ABOVE := ⟨_, PySem.W.mg_of X G e_MOST_KEYS_ABOVE, con_val t_MOST_KEYS_ABOVE⟩
end K02
namespace K02
open PySem L2 PyProof.Rows
def numB (d : D) (b : Int) : Bool := match d with
  | .int i => decide (0 ≤ i) && decide (i < b)
  | _ => false
theorem is_number_below_eq {d : D} (hd : pl d = true) (b : Int) (S : Sto) : F_is_number_below [d, .int b] S = okO (.bl (numB d b)) S := by
  refine runD_ret rfl ?_
  unfold g_is_number_below
  cases d with
  | int i =>
    by_cases h : (0 : Int) ≤ i
    · simp [isiD, kindD, isiK, leD, ltD, numB, h]
    · simp [isiD, kindD, isiK, leD, ltD, numB, h]
  | set _ => simp [pl] at hd
  | loc _ => simp [pl] at hd
  | _ => simp [isiD, kindD, isiK, numB]
theorem number_eq {d : D} (hd : pl d = true) (b : Int) (S : Sto) : F_number_L [d, .int b] S = okO (.bl (numB d (b + 1))) S := by
  refine runD_ret rfl ?_
  unfold g_number_L
  cases d with
  | int i =>
    have e : decide (i < b + 1) = decide (i ≤ b) := by by_cases h : i ≤ b <;> simp [h] <;> omega
    by_cases h : (0 : Int) ≤ i
    · simp [isiD, kindD, isiK, leD, ltD, numB, h, e]
    · simp [isiD, kindD, isiK, leD, ltD, numB, h]
  | set _ => simp [pl] at hd
  | loc _ => simp [pl] at hd
  | _ => simp [isiD, kindD, isiK, numB]
def tupN (d : D) (n : Int) : Bool := match d with
  | .tup ds => decide ((ds.length : Int) = n)
  | _ => false
theorem is_tuple_of_eq {d : D} (hd : pl d = true) (n : Int) (S : Sto) : F_is_tuple_of [d, .int n] S = okO (.bl (tupN d n)) S := by
  refine runD_ret rfl ?_
  unfold g_is_tuple_of
  cases d with
  | tup ds => simp [isiD, kindD, isiK, tupN, lenD]
  | set _ => simp [pl] at hd
  | loc _ => simp [pl] at hd
  | _ => simp [isiD, kindD, isiK, tupN]
def isLet (c : Nat) : Bool := decide (97 ≤ c) && decide (c ≤ 122)
def lets (x : Str) : Bool := x.cps.toList.all isLet
theorem str_a : ("a" : Str) = ⟨#[97]⟩ := by decide +kernel
theorem str_z : ("z" : Str) = ⟨#[122]⟩ := by decide +kernel
theorem lt_one (a b : Nat) : ltS ⟨#[a]⟩ ⟨#[b]⟩ = decide (a < b) := by
  unfold ltS
  by_cases h : a < b
  · rw [decide_eq_true h]; simp [List.cons_lt_cons_iff, h]
  · rw [decide_eq_false h]; simp [List.cons_lt_cons_iff, h]
theorem signs_eq (x : Str) (S : Sto) : compF (uName 0) cTrue e_has_plain_letters_1 (x.cps.toList.map fun c => D.str ⟨#[c]⟩) (caps 1 [] [some (.str x)]) S = some ((x.cps.toList.map fun c => D.bl (isLet c)), S) := by
  have q := compF_all (u := uName 0) (fe := e_has_plain_letters_1) (fun ρ => ∃ y, ρ = [y]) (fun d => match d with | .str z => .bl (z.cps.toList.all isLet) | _ => .non) S (x.cps.toList.map fun c => D.str ⟨#[c]⟩) (caps 1 [] [some (.str x)]) ⟨none, rfl⟩ (by
    rintro d hd ρ ⟨y, rfl⟩
    obtain ⟨c, _, rfl⟩ := List.mem_map.mp hd
    refine ⟨_, rfl, ⟨_, rfl⟩, ?_⟩
    by_cases h : 97 ≤ c
    · have h2 : ¬ c < 97 := by omega
      by_cases h3 : c ≤ 122
      · have h4 : ¬ 122 < c := by omega
        simp [e_has_plain_letters_1, leD, str_a, str_z, lt_one, isLet, h, h2, h3, h4]
      · have h4 : 122 < c := by omega
        simp [e_has_plain_letters_1, leD, str_a, str_z, lt_one, isLet, h, h2, h3, h4]
    · have h2 : c < 97 := by omega
      simp [e_has_plain_letters_1, leD, str_a, str_z, lt_one, isLet, h, h2])
  rw [q, List.map_map]
  simp
theorem has_plain_letters_eq (x : Str) (S : Sto) : F_has_plain_letters [.str x] S = okO (.bl (lets x)) S := by
  refine runD_ret rfl ?_
  unfold g_has_plain_letters
  have e := signs_eq x S
  simp [seqItD, e]
  have b : blsO (x.cps.toList.map fun c => D.bl (isLet c)) = some (x.cps.toList.map isLet) := by
    induction x.cps.toList with
    | nil => rfl
    | cons a l ih => rw [List.map_cons, blsO, ih]; rfl
  simp [allD, b, lets, List.all_map]
def kept (x : Str) : Bool := decide (x = "names") || (decide (x = "ask") || decide (x = "end"))
def nameS (x : Str) : Bool := !kept x && (decide (1 ≤ x.length) && (decide (x.length ≤ 8) && lets x))
def nameD : D → Bool
  | .str x => nameS x
  | _ => false
theorem is_name_eq {d : D} (hd : pl d = true) (S : Sto) : F_is_name [d] S = okO (.bl (nameD d)) S := by
  refine runD_ret rfl ?_
  unfold g_is_name
  cases d with
  | str x =>
    have ek : (decide (("names" : Str) = x) || (decide (("ask" : Str) = x) || decide (("end" : Str) = x))) = kept x := by
      unfold kept; simp [eq_comm]
    cases hk : kept x with
    | true => simp [isiD, kindD, isiK, inO, isLoc, in3, ek, hk, nameD, nameS]
    | false =>
      by_cases h1 : 1 ≤ x.length
      · by_cases h2 : x.length ≤ 8
        · have h3 : (x.length : Int) ≤ 8 := by omega
          have h4 : (1 : Int) ≤ x.length := by omega
          simp [isiD, kindD, isiK, inO, isLoc, in3, ek, hk, nameD, nameS, lenD, leD, h1, h2, h3, h4, has_plain_letters_eq]
        · have h3 : ¬ (x.length : Int) ≤ 8 := by omega
          have h4 : (1 : Int) ≤ x.length := by omega
          simp [isiD, kindD, isiK, inO, isLoc, in3, ek, hk, nameD, nameS, lenD, leD, h1, h2, h3, h4]
      · have h4 : ¬ (1 : Int) ≤ x.length := by omega
        simp [isiD, kindD, isiK, inO, isLoc, in3, ek, hk, nameD, nameS, lenD, leD, h1, h4]
  | set _ => simp [pl] at hd
  | loc _ => simp [pl] at hd
  | _ => simp [isiD, kindD, isiK, nameD]
theorem names_strs : ∀ {ds : List D}, ds.all nameD = true → ∃ ss : List Str, ds = ss.map .str ∧ ∀ x ∈ ss, nameS x = true
  | [], _ => ⟨[], rfl, fun x h => by cases h⟩
  | d :: ds, h => by
    rw [List.all_cons, Bool.and_eq_true] at h
    obtain ⟨ss, e, k⟩ := names_strs h.2
    cases d with
    | str x => exact ⟨x :: ss, by rw [List.map_cons, e], fun y hy => by
        rcases List.mem_cons.mp hy with rfl | hy
        · exact h.1
        · exact k y hy⟩
    | _ => simp [nameD] at h
def namesD : D → Bool
  | .tup ds => ds.all nameD && (match strsO ds with
    | some ss => decide (ss = sortS (ss.foldl insK []))
    | none => false)
  | _ => false
theorem is_names_eq {d : D} (hd : pl d = true) (hl : ∀ ds, d = .tup ds → ds.length < 64) (S : Sto) : F_is_names [d] S = okO (.bl (namesD d)) S := by
  refine runD_ret rfl ?_
  unfold g_is_names
  cases d with
  | tup ds =>
    rw [pl] at hd
    have hd := pls_iff.mp hd
    have q := compF_all (u := uName 0) (fe := e_is_names_1) (fun ρ => ∃ y, ρ = [y]) (fun d => .bl (nameD d)) S ds (caps 1 [] [some (.tup ds)]) ⟨none, rfl⟩ (by
      rintro d hm ρ ⟨y, rfl⟩
      exact ⟨_, rfl, ⟨_, rfl⟩, by simp [e_is_names_1, is_name_eq (hd d hm)]⟩)
    cases ha : ds.all nameD with
    | false => simp [isiD, kindD, isiK, seqItD, q, allD_map, ha, namesD]
    | true =>
      obtain ⟨ss, rfl, ok⟩ := names_strs ha
      have h64 := hl _ rfl
      rw [List.length_map] at h64
      simp [isiD, kindD, isiK, seqItD, q, allD_map, ha, namesD, sortedSetD, strsO_map, tupD, eqD_tupS, h64, -List.map_map]
  | set _ => simp [pl] at hd
  | loc _ => simp [pl] at hd
  | _ => simp [isiD, kindD, isiK, namesD]
abbrev abc : Str := "abcdefghijklmnopqrstuvwxyz"
theorem find_let : ∀ k : Nat, k < 26 → 0 ≤ Txt.find abc ⟨#[97 + k]⟩ := by
  intro k hk
  have h : ∀ k : _root_.Fin 26, 0 ≤ Txt.find abc ⟨#[97 + k.val]⟩ := by decide +kernel
  exact h ⟨k, hk⟩
theorem abc_lets : abc.cps.toList.all isLet = true := by decide +kernel
theorem find_abc (c : Nat) : decide (Txt.find abc ⟨#[c]⟩ < 0) = !isLet c := by
  by_cases h : 97 ≤ c ∧ c ≤ 122
  · have q := find_let (c - 97) (by omega)
    rw [show 97 + (c - 97) = c by omega] at q
    have e : isLet c = true := by simp [isLet, h]
    rw [e, decide_eq_false (by omega)]; rfl
  · have e : isLet c = false := by
      simp only [isLet, Bool.and_eq_false_iff, decide_eq_false_iff_not]; omega
    rw [e]
    rcases StrLaws.occ_head abc ⟨#[c]⟩ 1 (Nat.le_refl _) with ⟨h1, _⟩ | ⟨i, r, h1, h2, _⟩
    · have : Txt.find abc ⟨#[c]⟩ = -1 := by unfold Txt.find; rw [h1]
      rw [this]; rfl
    · exfalso
      obtain ⟨h3, h4⟩ := h2
      unfold Builtin.Str.subAt at h4
      have h5 := eq_of_beq h4
      have h6 : c ∈ (abc.cps.extract i (i + (⟨#[c]⟩ : Str).length)).toList := by rw [h5]; simp
      rw [Array.toList_extract] at h6
      have h7 := List.all_eq_true.mp abc_lets c (List.mem_of_mem_drop (List.mem_of_mem_take h6))
      rw [e] at h7; cases h7
def before (ds : List D) (i : Nat) (x : Str) : Bool := decide (i = 0) || (match ds[i - 1]? with
  | some (.str y) => ltS y x
  | _ => false)
def goodN (ds : List D) (i : Nat) (d : D) : Bool := match d with
  | .str x => decide (1 ≤ x.length) && (decide (x.length ≤ 8) && (before ds i x && (!kept x && lets x)))
  | _ => false
theorem atI_some {α : Type} {xs : List α} {i : Nat} {v : α} (h : xs[i]? = some v) : atI xs (i : Int) = some v := by
  have hi : i < xs.length := (List.getElem?_eq_some_iff.mp h).1
  have e : ixN xs.length (i : Int) = some i := by unfold ixN; rw [if_pos (by omega), if_pos (by omega)]; simp
  unfold atI; rw [e]; exact h
def badS (x : Str) : List D := (x.cps.toList.map fun c => D.str ⟨#[c]⟩).filter fun d => match d with | .str y => !(y.cps.toList.all isLet) | _ => false
theorem bad_signs (x : Str) (S : Sto) (ρ : Rho) : compF (uName 0) t_are_names_L_1 e_are_names_L_1 (x.cps.toList.map fun c => D.str ⟨#[c]⟩) (caps 1 [] ρ) S = some (badS x, S) := by
  have q := compF_eq (u := uName 0) (gt := t_are_names_L_1) (fe := e_are_names_L_1) (fun ρ => ∃ y, ρ = [y]) (fun d => match d with | .str y => !(y.cps.toList.all isLet) | _ => false) id S (x.cps.toList.map fun c => D.str ⟨#[c]⟩) (caps 1 [] ρ) ⟨none, rfl⟩ (by
    rintro d hd ρ ⟨y, rfl⟩
    obtain ⟨c, _, rfl⟩ := List.mem_map.mp hd
    refine ⟨_, rfl, ⟨_, rfl⟩, ?_, fun _ => by simp [e_are_names_L_1]⟩
    have e := find_abc c
    simp [t_are_names_L_1, isStrD, findD, ltD, e])
  rw [q, List.map_id]; rfl
theorem bad_empty (x : Str) : (badS x).isEmpty = lets x := by
  unfold lets badS
  induction x.cps.toList with
  | nil => rfl
  | cons c l ih =>
    rw [List.map_cons, List.filter_cons, List.all_cons]
    cases h : isLet c
    · rw [if_pos (by simp [h])]; rfl
    · rw [if_neg (by simp [h]), ih]; rfl
theorem bad_pl (x : Str) : pls (badS x) = true := by
  unfold badS
  refine pls_iff.mpr fun d hd => ?_
  obtain ⟨c, _, rfl⟩ := List.mem_map.mp (List.mem_filter.mp hd).1
  rfl
theorem body_are_names {ds : List D} (hd : ∀ d ∈ ds, pl d = true) (S : Sto) (j : Nat) (d : D) (hj : ds[j]? = some d) (hp : ∀ i, i < j → ∃ x, ds[i]? = some (.str x)) :
    (goodN ds j d = true → b_are_names_L_1 [some (.tup ds), some (.int j), some d] S = okO (.next [some (.tup ds), some (.int j), some d]) S) ∧
    (goodN ds j d = false → b_are_names_L_1 [some (.tup ds), some (.int j), some d] S = okO (.ret (.bl false)) S) := by
  have hpl := hd d (List.mem_of_getElem? hj)
  unfold b_are_names_L_1
  cases d with
  | str x =>
    have ek : (decide (("names" : Str) = x) || (decide (("ask" : Str) = x) || decide (("end" : Str) = x))) = kept x := by
      unfold kept; simp [eq_comm]
    have ec := bad_signs x S
    have en := neD_nil (bad_pl x)
    rw [bad_empty x] at en
    have e9 : ((x.length : Int) < 9) ↔ x.length ≤ 8 := by omega
    by_cases h1 : 0 < x.length
    · have e0 : 1 ≤ x.length := h1
      by_cases h2 : x.length ≤ 8
      · rcases Nat.eq_zero_or_pos j with rfl | hj0
        · cases hk : kept x with
          | true => simp [isiD, kindD, isiK, ltD, lenD, gtD, h1, h2, e9, e0, goodN, before, inO, isLoc, in3, ek, hk]
          | false =>
            cases hL : lets x with
            | true => simp [isiD, kindD, isiK, ltD, lenD, gtD, h1, h2, e9, e0, goodN, before, inO, isLoc, in3, ek, hk, seqItD, ec, en, hL]
            | false => simp [isiD, kindD, isiK, ltD, lenD, gtD, h1, h2, e9, e0, goodN, before, inO, isLoc, in3, ek, hk, seqItD, ec, en, hL]
        · obtain ⟨y, hy⟩ := hp (j - 1) (by omega)
          have e5 : atI ds ((j : Int) - 1) = some (.str y) := by
            have := atI_some hy
            rw [show ((j - 1 : Nat) : Int) = (j : Int) - 1 by omega] at this
            exact this
          have hj1 : (0 : Int) < j := by omega
          have hj2 : ¬ j = 0 := by omega
          cases hlt : ltS y x with
          | false => simp [isiD, kindD, isiK, ltD, lenD, gtD, subD, ixO, ixD, h1, h2, e9, e0, goodN, before, inO, isLoc, in3, ek, hj0, hj1, hj2, e5, hy, hlt]
          | true =>
            cases hk : kept x with
            | true => simp [isiD, kindD, isiK, ltD, lenD, gtD, subD, ixO, ixD, h1, h2, e9, e0, goodN, before, inO, isLoc, in3, ek, hk, hj0, hj1, hj2, e5, hy, hlt]
            | false =>
              cases hL : lets x with
              | true => simp [isiD, kindD, isiK, ltD, lenD, gtD, subD, ixO, ixD, h1, h2, e9, e0, goodN, before, inO, isLoc, in3, ek, hk, seqItD, ec, en, hL, hj0, hj1, hj2, e5, hy, hlt]
              | false => simp [isiD, kindD, isiK, ltD, lenD, gtD, subD, ixO, ixD, h1, h2, e9, e0, goodN, before, inO, isLoc, in3, ek, hk, seqItD, ec, en, hL, hj0, hj1, hj2, e5, hy, hlt]
      · simp [isiD, kindD, isiK, ltD, lenD, h1, h2, e9, e0, goodN]
    · have e0 : ¬ 1 ≤ x.length := h1
      simp [isiD, kindD, isiK, ltD, lenD, h1, e9, e0, goodN]
  | set _ => simp [pl] at hpl
  | loc _ => simp [pl] at hpl
  | _ => simp [isiD, kindD, isiK, goodN]
def areN (d : D) : Bool := match d with
  | .tup ds => (List.range ds.length).all fun i => goodN ds i (ds.getD i .non)
  | _ => false
theorem are_names_eq {d : D} (hd : pl d = true) (S : Sto) : F_are_names_L [d] S = okO (.bl (areN d)) S := by
  refine runD_ret rfl ?_
  unfold g_are_names_L
  cases d with
  | tup ds =>
    rw [pl] at hd
    have hd := pls_iff.mp hd
    have L := loopF_seek (u := uTup 2 (usCons (uName 1) (usCons (uName 2) usNil))) (body := b_are_names_L_1) (fun i ρ => (∃ a b, ρ = [some (.tup ds), a, b]) ∧ ∀ k, k < i → ∃ x, ds[k]? = some (.str x)) (fun i d => match d with | .tup [_, x] => goodN ds i x | _ => false)
      (.bl false) S (enumL 0 ds) 0 [some (.tup ds), none, none] ⟨⟨none, none, rfl⟩, fun k hk => absurd hk (by omega)⟩ (by
        rintro j d ρ hj ⟨⟨a, b, rfl⟩, hp⟩
        rw [enumL_get] at hj
        obtain ⟨x, hx, rfl⟩ := Option.map_eq_some_iff.mp hj
        simp only [Nat.zero_add] at hp ⊢
        refine ⟨[some (.tup ds), some (.int j), some x], rfl, fun hg => ⟨_, (body_are_names hd S j x hx hp).1 hg, ⟨_, _, rfl⟩, fun k hk => ?_⟩, fun hg => (body_are_names hd S j x hx hp).2 hg⟩
        rcases Nat.lt_or_ge k j with h | h
        · exact hp k h
        · obtain rfl : k = j := by omega
          cases x with
          | str y => exact ⟨y, hx⟩
          | _ => simp [goodN] at hg)
    simp only [Nat.zero_add] at L
    have conv : (∀ (j : Nat) d, (enumL 0 ds)[j]? = some d → (match d with | .tup [_, x] => goodN ds j x | _ => false) = true) ↔ areN (.tup ds) = true := by
      unfold areN
      rw [List.all_eq_true]
      constructor
      · intro h i hi
        have hi := List.mem_range.mp hi
        have hx : ds[i]? = some ds[i] := List.getElem?_eq_getElem hi
        have := h i (.tup [.int (0 + i : Nat), ds[i]]) (by rw [enumL_get, hx]; rfl)
        simpa [List.getD, hx] using this
      · intro h j d hd
        rw [enumL_get] at hd
        obtain ⟨x, hx, rfl⟩ := Option.map_eq_some_iff.mp hd
        have hj : j < ds.length := (List.getElem?_eq_some_iff.mp hx).1
        have := h j (List.mem_range.mpr hj)
        simpa [List.getD, hx] using this
    rcases L with ⟨h1, ρ', h2, _⟩ | ⟨⟨j, x, h1, h2⟩, h3⟩
    · have e := conv.mp h1
      simp [isiD, kindD, isiK, enumD, h2, e]
    · have e : areN (.tup ds) = false := by
        rw [← Bool.not_eq_true, ← conv]
        intro h
        have := h j x h1
        rw [h2] at this; cases this
      simp [isiD, kindD, isiK, enumD, h3, e]
  | set _ => simp [pl] at hd
  | loc _ => simp [pl] at hd
  | _ => simp [isiD, kindD, isiK, areN]
end K02
namespace L2
open PySem PyProof.Rows
theorem insK_nodup {K : Type} [DecidableEq K] : ∀ (l ks : List K), ks.Nodup → (l.foldl insK ks).Nodup
  | [], ks, h => h
  | a :: l, ks, h => by
    rw [List.foldl_cons]
    refine insK_nodup l _ ?_
    unfold insK
    split
    · exact h
    · rename_i hn
      refine List.nodup_append.mpr ⟨h, by simp, fun x hx y hy => ?_⟩
      rw [List.mem_singleton.mp hy]; rintro rfl; exact hn hx
theorem insK_same {K : Type} [DecidableEq K] : ∀ (l ks : List K), (ks ++ l).Nodup → l.foldl insK ks = ks ++ l
  | [], ks, _ => by simp
  | a :: l, ks, h => by
    have hn : a ∉ ks := fun hm => by
      have := (List.nodup_append.mp h).2.2 a hm a (List.mem_cons_self ..)
      exact this rfl
    rw [List.foldl_cons, show insK ks a = ks ++ [a] by unfold insK; rw [if_neg hn], insK_same l (ks ++ [a]) (by simpa using h)]
    simp
theorem ltS_leS {a b : Str} (h : ltS a b = true) : leS a b = true := by
  have h1 : a.cps.toList < b.cps.toList := of_decide_eq_true h
  exact leS_iff.mpr (List.le_of_lt h1)
theorem ltS_irrefl (a : Str) : ltS a a = false := by
  unfold ltS; exact decide_eq_false (List.lt_irrefl _)
theorem ltS_trans {a b c : Str} (h : ltS a b = true) (g : ltS b c = true) : ltS a c = true := by
  unfold ltS at *
  exact decide_eq_true (List.lt_trans (of_decide_eq_true h) (of_decide_eq_true g))
theorem ltS_of_le_ne {a b : Str} (h : leS a b = true) (n : a ≠ b) : ltS a b = true := by
  cases q : ltS a b with
  | true => rfl
  | false => exact absurd (leS_anti h (by unfold leS; rw [q]; rfl)) n
def adj : List Str → Bool
  | a :: b :: r => ltS a b && adj (b :: r)
  | _ => true
theorem adj_pairwise : ∀ {l : List Str}, adj l = true → l.Pairwise fun a b => ltS a b = true
  | [], _ => .nil
  | [a], _ => by simp
  | a :: b :: r, h => by
    rw [adj, Bool.and_eq_true] at h
    have ih := adj_pairwise h.2
    refine .cons (fun c hc => ?_) ih
    rcases List.mem_cons.mp hc with rfl | hc
    · exact h.1
    · exact ltS_trans h.1 ((List.pairwise_cons.mp ih).1 c hc)
theorem pairwise_adj : ∀ {l : List Str}, (l.Pairwise fun a b => ltS a b = true) → adj l = true
  | [], _ => rfl
  | [a], _ => rfl
  | a :: b :: r, h => by
    obtain ⟨h1, h2⟩ := List.pairwise_cons.mp h
    rw [adj, Bool.and_eq_true]
    exact ⟨h1 b (List.mem_cons_self ..), pairwise_adj h2⟩
theorem sorted_iff (l : List Str) : l = sortS (l.foldl insK []) ↔ adj l = true := by
  constructor
  · intro h
    have pm : (sortS (l.foldl insK [])).Perm (l.foldl insK []) := List.mergeSort_perm _ _
    have nd : (sortS (l.foldl insK [])).Nodup := (pm.nodup_iff).mpr (insK_nodup l [] List.nodup_nil)
    have pw : (sortS (l.foldl insK [])).Pairwise fun a b => leS a b = true := List.pairwise_mergeSort leS_trans leS_total _
    rw [← h] at nd pw
    refine pairwise_adj ?_
    have both := pw.and nd
    exact both.imp fun q => ltS_of_le_ne q.1 q.2
  · intro h
    have pw := adj_pairwise h
    have nd : l.Nodup := pw.imp fun {a b} q => by rintro rfl; rw [ltS_irrefl] at q; cases q
    rw [insK_same l [] (by simpa using nd), List.nil_append]
    exact sortS_unique (.refl _) (pw.imp fun q => ltS_leS q)
theorem adj_iff : ∀ (l : List Str), adj l = true ↔ ∀ (i : Nat) a b, l[i]? = some a → l[i + 1]? = some b → ltS a b = true
  | [] => by simp [adj]
  | [a] => by simp [adj]
  | a :: b :: r => by
    rw [adj, Bool.and_eq_true, adj_iff (b :: r)]
    constructor
    · rintro ⟨h1, h2⟩ i x y hx hy
      cases i with
      | zero => simp at hx hy; subst hx hy; exact h1
      | succ i => exact h2 i x y (by simpa using hx) (by simpa using hy)
    · intro h
      exact ⟨h 0 a b rfl rfl, fun i x y hx hy => h (i + 1) x y (by simpa using hx) (by simpa using hy)⟩
end L2
namespace K02
open PySem L2 PyProof.Rows
theorem areN_names (ss : List Str) (ok : ∀ x ∈ ss, nameS x = true) : areN (.tup (ss.map .str)) = adj ss := by
  unfold areN
  rw [Bool.eq_iff_iff, List.all_eq_true, adj_iff]
  have get : ∀ {i : Nat} {x : Str}, ss[i]? = some x → (ss.map D.str).getD i .non = .str x := fun {i x} h => by
    rw [List.getD, List.getElem?_map, h]; rfl
  constructor
  · intro h i a b ha hb
    have hi : i + 1 < ss.length := (List.getElem?_eq_some_iff.mp hb).1
    have := h (i + 1) (List.mem_range.mpr (by rw [List.length_map]; exact hi))
    rw [get hb] at this
    simp only [goodN, Bool.and_eq_true] at this
    have q := this.2.2.1
    unfold before at q
    rw [Nat.add_sub_cancel, List.getElem?_map, ha] at q
    simpa using q
  · intro h i hi
    rw [List.mem_range, List.length_map] at hi
    have hx : ss[i]? = some ss[i] := List.getElem?_eq_getElem hi
    rw [get hx]
    have nx := ok ss[i] (List.getElem_mem hi)
    simp only [nameS, Bool.and_eq_true] at nx
    simp only [goodN, Bool.and_eq_true]
    refine ⟨nx.2.1, nx.2.2.1, ?_, nx.1, nx.2.2.2⟩
    unfold before
    rcases Nat.eq_zero_or_pos i with rfl | h0
    · simp
    · have hy : ss[i - 1]? = some ss[i - 1] := List.getElem?_eq_getElem (by omega)
      have q := h (i - 1) ss[i - 1] ss[i] hy (by rw [show i - 1 + 1 = i by omega]; exact hx)
      rw [List.getElem?_map, hy]
      simp [q]
theorem names_same (d : D) : namesD d = areN d := by
  cases d with
  | tup ds =>
    cases ha : ds.all nameD with
    | true =>
      obtain ⟨ss, rfl, ok⟩ := names_strs ha
      rw [areN_names ss ok]
      unfold namesD
      dsimp only
      rw [ha, strsO_map, Bool.true_and]
      rw [Bool.eq_iff_iff, decide_eq_true_eq]
      exact sorted_iff ss
    | false =>
      have e1 : namesD (.tup ds) = false := by unfold namesD; dsimp only; rw [ha]; rfl
      rw [e1]
      unfold areN
      symm
      rw [List.all_eq_false]
      rw [List.all_eq_false] at ha
      obtain ⟨d, hd, hn⟩ := ha
      obtain ⟨i, hi⟩ := List.getElem?_of_mem hd
      have hl : i < ds.length := (List.getElem?_eq_some_iff.mp hi).1
      refine ⟨i, List.mem_range.mpr hl, ?_⟩
      rw [List.getD, hi]
      show ¬ goodN ds i d = true
      intro hg
      apply hn
      cases d with
      | str x =>
        simp only [goodN, Bool.and_eq_true] at hg
        simp only [nameD, nameS, Bool.and_eq_true]
        exact ⟨hg.2.2.2.1, hg.1, hg.2.1, hg.2.2.2.2⟩
      | _ => simp [goodN] at hg
  | _ => rfl
end K02
namespace L2
open PySem PyProof.Rows
theorem mulOk_r {i j : Int} (h1 : -1000000000000 < j) (h2 : j < 1000000000000) : mulOk i j = true := by
  unfold mulOk
  have e1 : decide (-(2 ^ 64) < j) = true := decide_eq_true (by omega)
  have e2 : decide (j < 2 ^ 64) = true := decide_eq_true (by omega)
  rw [e1, e2]; simp
theorem mulOk_l {i j : Int} (h1 : -1000000000000 < i) (h2 : i < 1000000000000) : mulOk i j = true := by
  unfold mulOk
  have e1 : decide (-(2 ^ 64) < i) = true := decide_eq_true (by omega)
  have e2 : decide (i < 2 ^ 64) = true := decide_eq_true (by omega)
  rw [e1, e2]; simp
theorem mulD_int (i j : Int) : mulD (.int i) (.int j) = if mulOk i j = true then some (.int (i * j)) else none := rfl
theorem mulD_str (x : Str) (n : Int) : mulD (.str x) (.int n) = if -1000 ≤ n ∧ n < 1 then some (.str ⟨#[]⟩) else if 1 ≤ n ∧ n ≤ 1000 ∧ x.length ≤ 1000 then some (.str ⟨(List.replicate n.toNat x.cps.toList).flatten.toArray⟩) else none := rfl
theorem mulD_tup (xs : List D) (n : Int) : mulD (.tup xs) (.int n) = if 2 ≤ n ∧ n ≤ 1000 ∧ 0 < xs.length ∧ xs.length ≤ 1000 then some (.tup (List.replicate n.toNat xs).flatten) else none := rfl
theorem modD_int (i j : Int) : modD (.int i) (.int j) = if 0 < j then some (.int (i % j)) else none := rfl
theorem fdivD_int (i j : Int) : fdivD (.int i) (.int j) = if 0 < j ∧ j < 1073741824 then some (.int (i / j)) else none := rfl
theorem addD_strE (x y : Str) : addD (.str x) (.str y) = if x.length + y.length ≤ sizeLine then some (.str (x ++ y)) else none := rfl
theorem addD_tupE (x y : List D) : addD (.tup x) (.tup y) = if x.length + y.length ≤ sizeLine then some (.tup (x ++ y)) else none := rfl
theorem addD_lstE (x y : List D) : addD (.lst x) (.lst y) = if x.length + y.length ≤ sizeLine then some (.lst (x ++ y)) else none := rfl
theorem rng1D_int (j : Int) : rng1D [.int j] = if -(2 ^ 62) ≤ j ∧ j ≤ 16777216 then some ((List.range j.toNat).map fun (k : Nat) => D.int k) else none := rfl
theorem mulD_r {i j : Int} (h1 : -1000000000000 < j) (h2 : j < 1000000000000) : mulD (.int i) (.int j) = some (.int (i * j)) := by
  rw [mulD_int, if_pos (mulOk_r h1 h2)]
theorem mulD_l {i j : Int} (h1 : -1000000000000 < i) (h2 : i < 1000000000000) : mulD (.int i) (.int j) = some (.int (i * j)) := by
  rw [mulD_int, if_pos (mulOk_l h1 h2)]
@[simp] theorem addD_int (i j : Int) : addD (.int i) (.int j) = some (.int (i + j)) := rfl
@[simp] theorem subD_int (i j : Int) : subD (.int i) (.int j) = some (.int (i - j)) := rfl
theorem modD_pos {i j : Int} (h : 0 < j) : modD (.int i) (.int j) = some (.int (i % j)) := by rw [modD_int, if_pos h]
theorem fdivD_pos {i j : Int} (h : 0 < j) (h2 : j < 1073741824) : fdivD (.int i) (.int j) = some (.int (i / j)) := by rw [fdivD_int, if_pos ⟨h, h2⟩]
end L2
namespace K02
open PySem L2 PyProof.Rows
theorem cell_at_eq (ns : List Int) (k : Nat) (S : Sto) : F_cell_at_L [.lst (ns.map .int), .int k] S = okO (.int (ns.getD k 0)) S := by
  refine runD_ret rfl ?_
  unfold g_cell_at_L
  by_cases h : k < ns.length
  · have h1 : ((k : Int) < ns.length) := by omega
    have h2 : ns[k]? = some ns[k] := List.getElem?_eq_getElem h
    have e : atI (ns.map D.int) (k : Int) = some (.int ns[k]) := atI_some (by rw [List.getElem?_map, h2]; rfl)
    simp [lenD, ltD, h, ixO, isLoc, ixD, e, List.getD, h2]
  · have h2 : ns[k]? = none := List.getElem?_eq_none (by omega)
    simp [lenD, ltD, h, List.getD, h2]
def mix (ns : List Int) (k : Nat) : Int :=
  let d := (ns.getD k 0 + 7919 * (k : Int) + 1) * 48271 % 2147483647
  (d * d + 7 * d + (k : Int)) % 2147483629
theorem mix_nonneg (ns : List Int) (k : Nat) : 0 ≤ mix ns k := Int.emod_nonneg _ (by decide)
theorem mixed_eq (ns : List Int) (k : Nat) (S : Sto) : F_mixed_L [.lst (ns.map .int), .int k] S = okO (.int (mix ns k)) S := by
  refine runD_ret rfl ?_
  unfold g_mixed_L
  have e0 := cell_at_eq ns k
  have e1 : ∀ x : Int, mulD (.int 7919) (.int x) = some (.int (7919 * x)) := fun x => mulD_l (by decide) (by decide)
  have e2 : ∀ x : Int, mulD (.int x) (.int 48271) = some (.int (x * 48271)) := fun x => mulD_r (by decide) (by decide)
  have e3 : ∀ x : Int, modD (.int x) (.int 2147483647) = some (.int (x % 2147483647)) := fun x => modD_pos (by decide)
  have e4 : ∀ x : Int, modD (.int x) (.int 2147483629) = some (.int (x % 2147483629)) := fun x => modD_pos (by decide)
  have e5 : ∀ x : Int, mulD (.int 7) (.int x) = some (.int (7 * x)) := fun x => mulD_l (by decide) (by decide)
  have e6 : ∀ x : Int, mulD (.int (x % 2147483647)) (.int (x % 2147483647)) = some (.int (x % 2147483647 * (x % 2147483647))) := fun x => by
    have h1 := Int.emod_nonneg x (show (2147483647 : Int) ≠ 0 by decide)
    have h2 := Int.emod_lt_of_pos x (show (0 : Int) < 2147483647 by decide)
    exact mulD_l (by omega) (by omega)
  simp [e0, e1, e2, e3, e4, e5, e6, mix]
def drw (n k : Int) : Int :=
  let d := (n + 104729 * k + 17) * 69621 % 2147483647
  (d * d + 3 * d + k) % 2147483629
theorem drw_nonneg (n k : Int) : 0 ≤ drw n k := Int.emod_nonneg _ (by decide)
theorem drawn_eq (n k : Int) (S : Sto) : F_drawn_L [.int n, .int k] S = okO (.int (drw n k)) S := by
  refine runD_ret rfl ?_
  unfold g_drawn_L
  have e1 : ∀ x : Int, mulD (.int 104729) (.int x) = some (.int (104729 * x)) := fun x => mulD_l (by decide) (by decide)
  have e2 : ∀ x : Int, mulD (.int x) (.int 69621) = some (.int (x * 69621)) := fun x => mulD_r (by decide) (by decide)
  have e3 : ∀ x : Int, modD (.int x) (.int 2147483647) = some (.int (x % 2147483647)) := fun x => modD_pos (by decide)
  have e4 : ∀ x : Int, modD (.int x) (.int 2147483629) = some (.int (x % 2147483629)) := fun x => modD_pos (by decide)
  have e5 : ∀ x : Int, mulD (.int 3) (.int x) = some (.int (3 * x)) := fun x => mulD_l (by decide) (by decide)
  have e6 : ∀ x : Int, mulD (.int (x % 2147483647)) (.int (x % 2147483647)) = some (.int (x % 2147483647 * (x % 2147483647))) := fun x => by
    have h1 := Int.emod_nonneg x (show (2147483647 : Int) ≠ 0 by decide)
    have h2 := Int.emod_lt_of_pos x (show (0 : Int) < 2147483647 by decide)
    exact mulD_l (by omega) (by omega)
  simp [e1, e2, e3, e4, e5, e6, drw]
def Wd (n : Nat) (x : Str) : Prop := x.length ≤ n ∧ ∀ c ∈ x.cps.toList, c < 128
theorem Wd.mono {n m : Nat} {x : Str} (h : Wd n x) (hm : n ≤ m) : Wd m x := ⟨Nat.le_trans h.1 hm, h.2⟩
theorem app_toList (x y : Str) : (x ++ y).cps.toList = x.cps.toList ++ y.cps.toList := by
  show (x.cps ++ y.cps).toList = _
  simp
theorem app_len (x y : Str) : (x ++ y).length = x.length + y.length := by
  show (x.cps ++ y.cps).size = _
  rw [Array.size_append]; rfl
theorem Wd.app {n m : Nat} {x y : Str} (h : Wd n x) (g : Wd m y) : Wd (n + m) (x ++ y) := by
  refine ⟨by rw [app_len]; exact Nat.add_le_add h.1 g.1, fun c hc => ?_⟩
  rw [app_toList] at hc
  rcases List.mem_append.mp hc with hc | hc
  · exact h.2 c hc
  · exact g.2 c hc
theorem addD_str {n m : Nat} {x y : Str} (h : Wd n x) (g : Wd m y) (hn : n + m ≤ 1000) : addD (.str x) (.str y) = some (.str (x ++ y)) := by
  have h1 := h.1; have h2 := g.1
  rw [addD_strE, if_pos (Nat.le_trans (show x.length + y.length ≤ 1000 by omega) (by decide))]
theorem letter (i : Int) (h0 : 0 ≤ i) (h1 : i < 26) (S : Sto) : ∃ x : Str, ixO (.str "abcdefghijklmnopqrstuvwxyz") (.int i) S = some (.str x) ∧ Wd 1 x := by
  obtain ⟨k, rfl⟩ : ∃ k : Nat, i = k := ⟨i.toNat, by omega⟩
  have hk : k < abc.cps.toList.length := by
    have : abc.cps.toList.length = 26 := by decide +kernel
    omega
  have e : atI abc.cps.toList (k : Int) = some abc.cps.toList[k] := atI_some (List.getElem?_eq_getElem hk)
  refine ⟨⟨#[abc.cps.toList[k]]⟩, ?_, Nat.le_refl _, fun c hc => ?_⟩
  · unfold ixO; rw [if_neg (by simp [isLoc])]; unfold ixD; simp only [e]; rfl
  · have hc' : c = abc.cps.toList[k] := by simpa using hc
    have q := List.all_eq_true.mp abc_lets abc.cps.toList[k] (List.getElem_mem hk)
    rw [hc']
    simp only [isLet, Bool.and_eq_true, decide_eq_true_eq] at q
    omega
theorem rng1 (j : Int) (h0 : 0 ≤ j) (h1 : j ≤ 1000) : rng1D [.int j] = some ((List.range j.toNat).map fun (k : Nat) => D.int k) := by
  rw [rng1D_int, if_pos (by omega)]
theorem range_get {n j : Nat} {d : D} (h : ((List.range n).map fun (k : Nat) => D.int k)[j]? = some d) : d = .int j ∧ j < n := by
  rw [List.getElem?_map] at h
  obtain ⟨x, hx, rfl⟩ := Option.map_eq_some_iff.mp h
  obtain ⟨h1, h2⟩ := List.getElem?_eq_some_iff.mp hx
  simp at h1 h2
  exact ⟨by rw [← h2], h1⟩
theorem q_mul (b : Bool) : mulD (.str "q") (.int (if b then 1 else 0)) = some (.str (if b then "q" else ⟨#[]⟩)) := by
  cases b
  · rw [mulD_str, if_pos (by decide)]; rfl
  · rw [mulD_str, if_neg (by decide), if_pos ⟨by decide, by decide, by decide⟩]
    rfl
end K02
namespace K02
open PySem L2 PyProof.Rows
theorem body_w1 (n : Int) (l : D) (k dr : Int) (word : Str) (a : Option D) (i : Nat) (S : Sto) (hw : Wd (i + 1) word) (hi : i ≤ 10) (h0 : 0 ≤ dr) : ∃ w2 : Str, Wd (i + 2) w2 ∧
    b_words_L_1 [some (.int n), some (.str "abcdefghijklmnopqrstuvwxyz"), some l, some (.int k), some (.int dr), some (.str word), some (.int i)] S = okO (.next [some (.int n), some (.str "abcdefghijklmnopqrstuvwxyz"), some l, some (.int k), some (.int dr), some (.str w2), some (.int i)]) S := by
  have e1 : mulD (.int 31) (.int i) = some (.int (31 * i)) := mulD_l (by decide) (by decide)
  have e2 : fdivD (.int dr) (.int (31 * (i : Int) + 29)) = some (.int (dr / (31 * (i : Int) + 29))) := fdivD_pos (by omega) (by omega)
  have e3 : modD (.int (dr / (31 * (i : Int) + 29))) (.int 26) = some (.int (dr / (31 * (i : Int) + 29) % 26)) := modD_pos (by decide)
  obtain ⟨x, e4, wx⟩ := letter (dr / (31 * (i : Int) + 29) % 26) (Int.emod_nonneg _ (by decide)) (Int.emod_lt_of_pos _ (by decide)) S
  have e5 := addD_str hw wx (by omega)
  refine ⟨word ++ x, hw.app wx, ?_⟩
  unfold b_words_L_1
  simp [e1, e2, e3, e4, e5]
theorem in3b (x : Str) (S : Sto) : ∃ b : Bool, inO false (.str x) (.tup [.str "names", .str "ask", .str "end"]) S = some (.bl b) := by
  have e := in3 x "names" "ask" "end"
  exact ⟨_, (by unfold inO; rw [if_neg (by simp [isLoc]), if_neg (by decide)]; exact e)⟩
def DictW (n : Nat) (kvs : List (D × D)) : Prop := kvs.length ≤ n ∧ ∃ ss : List Str, kvs.map (·.1) = ss.map .str ∧ ∀ x ∈ ss, Wd 9 x
theorem DictW.put {n : Nat} {kvs : List (D × D)} {x : Str} {v : D} (h : DictW n kvs) (hx : Wd 9 x) : DictW (n + 1) (putD kvs (.str x) v) := by
  obtain ⟨hl, ss, e, k⟩ := h
  unfold putD
  split
  · refine ⟨by rw [List.length_map]; omega, ss, ?_, k⟩
    rw [List.map_map, ← e]
    refine List.map_congr_left fun p _ => ?_
    simp only [Function.comp]
    split <;> rfl
  · refine ⟨by rw [List.length_append, List.length_singleton]; omega, ss ++ [x], by simp [e], fun y hy => ?_⟩
    rcases List.mem_append.mp hy with hy | hy
    · exact k y hy
    · rw [List.mem_singleton.mp hy]; exact hx
theorem body_w2 (n : Int) (k : Nat) (S : Sto) (kvs : List (D × D)) (a b c d : Option D) (hD : DictW k kvs) (hk : k < 6) : ∃ b' c' d' kvs', DictW (k + 1) kvs' ∧
    b_words_L_2 [some (.int n), some (.str "abcdefghijklmnopqrstuvwxyz"), some (.loc S.length), some (.int k), b, c, d] (S ++ [.dict kvs]) = okO (.next [some (.int n), some (.str "abcdefghijklmnopqrstuvwxyz"), some (.loc S.length), some (.int k), b', c', d']) (S ++ [.dict kvs']) := by
  have e0 := drawn_eq n k
  have p0 := drw_nonneg n k
  have e1 : modD (.int (drw n k)) (.int 26) = some (.int (drw n k % 26)) := modD_pos (by decide)
  obtain ⟨x, e2, wx⟩ := letter (drw n k % 26) (Int.emod_nonneg _ (by decide)) (Int.emod_lt_of_pos _ (by decide)) (S ++ [.dict kvs])
  have e3 : fdivD (.int (drw n k)) (.int 26) = some (.int (drw n k / 26)) := fdivD_pos (by decide) (by decide)
  have e4 : modD (.int (drw n k / 26)) (.int 8) = some (.int (drw n k / 26 % 8)) := modD_pos (by decide)
  have e5 : modD (.int n) (.int 2) = some (.int (n % 2)) := modD_pos (by decide)
  have b1 := Int.emod_nonneg (drw n k / 26) (show (8 : Int) ≠ 0 by decide)
  have b2 := Int.emod_lt_of_pos (drw n k / 26) (show (0 : Int) < 8 by decide)
  have b3 := Int.emod_nonneg n (show (2 : Int) ≠ 0 by decide)
  have b4 := Int.emod_lt_of_pos n (show (0 : Int) < 2 by decide)
  have e6 : mulD (.int (drw n k / 26 % 8)) (.int (n % 2)) = some (.int (drw n k / 26 % 8 * (n % 2))) := mulD_l (by omega) (by omega)
  have b5 : 0 ≤ drw n k / 26 % 8 * (n % 2) ∧ drw n k / 26 % 8 * (n % 2) ≤ 7 := by
    have : n % 2 = 0 ∨ n % 2 = 1 := by omega
    rcases this with h | h <;> rw [h] <;> omega
  have e7 := rng1 (drw n k / 26 % 8 * (n % 2)) b5.1 (by omega)
  generalize drw n k / 26 % 8 * (n % 2) = m at e6 e7 b5
  obtain ⟨ρ', S', e8, hI⟩ := loopF_go (u := uName 6) (body := b_words_L_1) (fun i ρ S1 => S1 = S ++ [.dict kvs] ∧ i ≤ 7 ∧ ∃ (w : Str) (z : Option D), Wd (i + 1) w ∧ ρ = [some (.int n), some (.str "abcdefghijklmnopqrstuvwxyz"), some (.loc S.length), some (.int k), some (.int (drw n k)), some (.str w), z])
    ((List.range m.toNat).map fun (k : Nat) => D.int k) 0 [some (.int n), some (.str "abcdefghijklmnopqrstuvwxyz"), some (.loc S.length), some (.int k), some (.int (drw n k)), some (.str x), d] (S ++ [.dict kvs]) ⟨rfl, by omega, x, d, wx, rfl⟩ (by
      rintro j dd ρ S1 hj ⟨rfl, hi, w, z, hw, rfl⟩
      obtain ⟨rfl, hlt⟩ := range_get hj
      simp only [Nat.zero_add] at hw hi ⊢
      obtain ⟨w2, hw2, eq⟩ := body_w1 n (.loc S.length) k (drw n k) w none j (S ++ [.dict kvs]) hw (by omega) p0
      exact ⟨_, rfl, _, _, eq, rfl, by omega, w2, some (.int j), hw2, rfl⟩)
  simp only [Nat.zero_add, List.length_map, List.length_range] at hI
  obtain ⟨rfl, hm7, w, z, hw, rfl⟩ := hI
  have hw8 : Wd 8 w := hw.mono (by omega)
  obtain ⟨bb, e9⟩ := in3b w (S ++ [.dict kvs])
  have e10 := q_mul bb
  have wq : Wd 1 (if bb then ("q" : Str) else ⟨#[]⟩) := by
    cases bb
    · exact ⟨by decide, fun c hc => by simp at hc⟩
    · refine ⟨by decide, fun c hc => ?_⟩
      have : ("q" : Str).cps.toList = [113] := by decide +kernel
      simp only [if_true, this, List.mem_singleton] at hc
      omega
  have e11 := addD_str hw8 wq (by decide)
  have e12 : (S ++ [MO.dict kvs])[S.length]? = some (.dict kvs) := by simp
  have e13 : kvs.length < sizeLine := Nat.lt_of_lt_of_le (show kvs.length < 1000 by have := hD.1; omega) (by decide)
  have e14 : (S ++ [MO.dict kvs]).set S.length (.dict (putD kvs (.str (w ++ (if bb then ("q" : Str) else ⟨#[]⟩))) (.bl true))) = S ++ [.dict (putD kvs (.str (w ++ (if bb then ("q" : Str) else ⟨#[]⟩))) (.bl true))] := by simp
  refine ⟨some (.int (drw n k)), some (.str w), z, putD kvs (.str (w ++ (if bb then ("q" : Str) else ⟨#[]⟩))) (.bl true), hD.put ((hw8.app wq).mono (by decide)), ?_⟩
  have e15 : intD [.bl bb] = some (.int (if bb then 1 else 0)) := rfl
  unfold b_words_L_2
  simp [e0, e1, e2, e3, e4, e5, e6, e7, e8, putO, e12, keyD, e13, e14, e9, e15, e10, e11]
end K02
namespace K02
open PySem L2 PyProof.Rows
theorem words_eq (n : Int) (S : Sto) : ∃ (ss : List Str) (kvs : List (D × D)), F_words_L [.int n] S = okO (.tup (ss.map .str)) (S ++ [.dict kvs]) ∧ ss.length ≤ 6 ∧ ∀ x ∈ ss, Wd 9 x := by
  obtain ⟨ρ', S', e1, hI⟩ := loopF_go (u := uName 3) (body := b_words_L_2) (fun i ρ S1 => i ≤ 6 ∧ ∃ kvs b c d z, S1 = S ++ [.dict kvs] ∧ DictW i kvs ∧ ρ = [some (.int n), some (.str "abcdefghijklmnopqrstuvwxyz"), some (.loc S.length), z, b, c, d])
    ((List.range 6).map fun (k : Nat) => D.int k) 0 [some (.int n), some (.str "abcdefghijklmnopqrstuvwxyz"), some (.loc S.length), none, none, none, none] (S ++ [.dict []]) ⟨by omega, [], none, none, none, none, rfl, ⟨Nat.le_refl _, [], rfl, fun x h => by cases h⟩, rfl⟩ (by
      rintro j dd ρ S1 hj ⟨hi, kvs, b, c, d, z, rfl, hD, rfl⟩
      obtain ⟨rfl, hlt⟩ := range_get hj
      simp only [Nat.zero_add] at hD ⊢
      obtain ⟨b', c', d', kvs', hD', eq⟩ := body_w2 n j S kvs none b c d hD hlt
      exact ⟨_, rfl, _, _, eq, by omega, kvs', b', c', d', some (.int j), rfl, hD', rfl⟩)
  simp only [Nat.zero_add, List.length_map, List.length_range] at hI
  obtain ⟨_, kvs, b, c, d, z, rfl, ⟨hl, ss, es, hw⟩, rfl⟩ := hI
  have hl2 : ss.length = kvs.length := by
    have := congrArg List.length es
    simpa using this.symm
  have e2 : sortL (kvs.map (·.1)) = some ((sortS ss).map .str) := by
    rw [es]
    unfold sortL
    rw [if_pos (by rw [List.length_map]; omega), strsO_map]
  have pm : (sortS ss).Perm ss := List.mergeSort_perm _ _
  refine ⟨sortS ss, kvs, ?_, by rw [pm.length_eq]; omega, fun x hx => hw x (pm.mem_iff.mp hx)⟩
  have e3 : rng1D [.int 6] = some ((List.range 6).map fun (k : Nat) => D.int k) := rng1 6 (by decide) (by decide)
  have e4 : (S ++ [MO.dict kvs])[S.length]? = some (.dict kvs) := by simp
  refine runD_ret rfl ?_
  unfold g_words_L
  simp [e3, e1, sortAnyO, e4, e2, tupD]
theorem strs_of_mem : ∀ {ds : List D}, (∀ d ∈ ds, ∃ x : Str, d = .str x) → ∃ ss : List Str, ds = ss.map .str
  | [], _ => ⟨[], rfl⟩
  | d :: ds, h => by
    obtain ⟨x, rfl⟩ := h d (List.mem_cons_self ..)
    obtain ⟨ss, rfl⟩ := strs_of_mem fun y hy => h y (List.mem_cons_of_mem _ hy)
    exact ⟨x :: ss, rfl⟩
theorem names_L_eq (n : Int) {ss : List Str} (h6 : ss.length ≤ 100) (S : Sto) : ∃ ss' : List Str, F_names_L [.int n, .tup (ss.map .str)] S = okO (.tup (ss'.map .str)) S ∧ ss'.length ≤ ss.length ∧ ∀ x ∈ ss', x ∈ ss := by
  have q := compF_eq (u := uTup 2 (usCons (uName 0) (usCons (uName 1) usNil))) (gt := t_names_L_1) (fe := e_names_L_1) (fun ρ => ∃ y z, ρ = [y, z, some (.int n)]) (fun d => match d with | .tup [.int k, _] => decide (n / (3 * k + 1) % 4 = 0) | _ => false)
    (fun d => match d with | .tup [_, x] => x | _ => .non) S (enumL 0 (ss.map .str)) (caps 2 [0] [some (.int n), some (.tup (ss.map .str))]) ⟨none, none, rfl⟩ (by
      rintro d hm ρ ⟨y, z, rfl⟩
      obtain ⟨j, hj⟩ := List.getElem?_of_mem hm
      rw [enumL_get] at hj
      obtain ⟨x, hx, rfl⟩ := Option.map_eq_some_iff.mp hj
      have hjl : j < ss.length := by have := (List.getElem?_eq_some_iff.mp hx).1; simpa using this
      have e1 : mulD (.int 3) (.int ((0 + j : Nat) : Int)) = some (.int (3 * ((0 + j : Nat) : Int))) := mulD_l (by decide) (by decide)
      have e2 : fdivD (.int n) (.int (3 * ((0 + j : Nat) : Int) + 1)) = some (.int (n / (3 * ((0 + j : Nat) : Int) + 1))) := fdivD_pos (by omega) (by omega)
      have e3 : modD (.int (n / (3 * ((0 + j : Nat) : Int) + 1))) (.int 4) = some (.int (n / (3 * ((0 + j : Nat) : Int) + 1) % 4)) := modD_pos (by decide)
      refine ⟨[some (.int ((0 + j : Nat) : Int)), some x, some (.int n)], rfl, ⟨_, _, rfl⟩, ?_, fun _ => ?_⟩
      · unfold t_names_L_1
        simp only [Nat.zero_add] at e1 e2 e3 ⊢
        simp [e1, e2, e3]
      · unfold e_names_L_1; simp)
  have hall : ∀ d ∈ ((enumL 0 (ss.map D.str)).filter (fun d => match d with | .tup [.int k, _] => decide (n / (3 * k + 1) % 4 = 0) | _ => false)).map (fun d => match d with | .tup [_, x] => x | _ => .non), ∃ x ∈ ss, d = .str x := by
    intro d hd
    obtain ⟨t, ht, rfl⟩ := List.mem_map.mp hd
    have ht := (List.mem_filter.mp ht).1
    obtain ⟨j, hj⟩ := List.getElem?_of_mem ht
    rw [enumL_get] at hj
    obtain ⟨x, hx, rfl⟩ := Option.map_eq_some_iff.mp hj
    rw [List.getElem?_map] at hx
    obtain ⟨y, hy, rfl⟩ := Option.map_eq_some_iff.mp hx
    exact ⟨y, List.mem_of_getElem? hy, rfl⟩
  obtain ⟨ss', e⟩ := strs_of_mem fun d hd => let ⟨x, _, q⟩ := hall d hd; ⟨x, q⟩
  refine ⟨ss', ?_, ?_, fun x hx => ?_⟩
  · refine runD_ret rfl ?_
    unfold g_names_L
    rw [e] at q
    simp [enumD, q, tupD]
  · have := congrArg List.length e
    rw [List.length_map, List.length_map] at this
    rw [← this]
    refine Nat.le_trans (List.length_filter_le _ _) ?_
    rw [enumL_length, List.length_map]; exact Nat.le_refl _
  · have hm : D.str x ∈ ss'.map D.str := List.mem_map_of_mem hx
    rw [← e] at hm
    obtain ⟨y, hy, q⟩ := hall _ hm
    cases q; exact hy
end K02
namespace L2
open PySem PyProof.Rows
mutual
def b0 : D → Bool
  | .non => true
  | .int i => decide (0 ≤ i) && decide (i ≤ 20)
  | .str x => decide (x.length ≤ 20) && x.cps.all (· < 128)
  | .tup ds => decide (ds.length ≤ 20) && b0s ds
  | _ => false
def b0s : List D → Bool
  | [] => true
  | d :: ds => b0 d && b0s ds
end
mutual
def sm : D → Bool
  | .tup ds => decide (ds.length < 64) && sms ds
  | .lst ds => sms ds
  | .set _ => false
  | .loc _ => false
  | _ => true
def sms : List D → Bool
  | [] => true
  | d :: ds => sm d && sms ds
end
theorem b0s_iff : ∀ {ds : List D}, b0s ds = true ↔ ∀ d ∈ ds, b0 d = true
  | [] => by simp [b0s]
  | d :: ds => by rw [b0s, Bool.and_eq_true, b0s_iff (ds := ds)]; simp
theorem sms_iff : ∀ {ds : List D}, sms ds = true ↔ ∀ d ∈ ds, sm d = true
  | [] => by simp [sms]
  | d :: ds => by rw [sms, Bool.and_eq_true, sms_iff (ds := ds)]; simp
mutual
theorem b0_sm : ∀ {d : D}, b0 d = true → sm d = true
  | .non, _ => rfl
  | .bl _, _ => rfl
  | .int _, _ => rfl
  | .str _, _ => rfl
  | .tup ds, h => by
    rw [b0, Bool.and_eq_true, decide_eq_true_eq] at h
    rw [sm, Bool.and_eq_true, decide_eq_true_eq]
    exact ⟨by omega, b0s_sms h.2⟩
  | .lst _, h => by simp [b0] at h
  | .set _, h => by simp [b0] at h
  | .loc _, h => by simp [b0] at h
theorem b0s_sms : ∀ {ds : List D}, b0s ds = true → sms ds = true
  | [], _ => rfl
  | d :: ds, h => by
    rw [b0s, Bool.and_eq_true] at h
    rw [sms, Bool.and_eq_true]
    exact ⟨b0_sm h.1, b0s_sms h.2⟩
end
mutual
theorem sm_pl : ∀ {d : D}, sm d = true → pl d = true
  | .non, _ => rfl
  | .bl _, _ => rfl
  | .int _, _ => rfl
  | .str _, _ => rfl
  | .tup ds, h => by
    rw [sm, Bool.and_eq_true] at h
    rw [pl]; exact sms_pls h.2
  | .lst ds, h => by rw [sm] at h; rw [pl]; exact sms_pls h
  | .set _, h => by simp [sm] at h
  | .loc _, h => by simp [sm] at h
theorem sms_pls : ∀ {ds : List D}, sms ds = true → pls ds = true
  | [], _ => rfl
  | d :: ds, h => by
    rw [sms, Bool.and_eq_true] at h
    rw [pls, Bool.and_eq_true]
    exact ⟨sm_pl h.1, sms_pls h.2⟩
end
theorem sm_len {d : D} (h : sm d = true) : ∀ ds, d = .tup ds → ds.length < 64 := by
  rintro ds rfl
  rw [sm, Bool.and_eq_true, decide_eq_true_eq] at h
  exact h.1
theorem sm_tup {ds : List D} (hl : ds.length < 64) (h : ∀ d ∈ ds, sm d = true) : sm (.tup ds) = true := by
  rw [sm, Bool.and_eq_true, decide_eq_true_eq]; exact ⟨hl, sms_iff.mpr h⟩
theorem b0_tup {ds : List D} (hl : ds.length ≤ 20) (h : ∀ d ∈ ds, b0 d = true) : b0 (.tup ds) = true := by
  rw [b0, Bool.and_eq_true, decide_eq_true_eq]; exact ⟨hl, b0s_iff.mpr h⟩
theorem ixL_in {xs : List D} {i : Int} (h0 : 0 ≤ i) (h1 : i < xs.length) (S : Sto) : ∃ d ∈ xs, ixO (.lst xs) (.int i) S = some d := by
  obtain ⟨k, rfl⟩ : ∃ k : Nat, i = k := ⟨i.toNat, by omega⟩
  have hk : k < xs.length := by omega
  refine ⟨xs[k], List.getElem_mem hk, ?_⟩
  unfold ixO; rw [if_neg (by simp [isLoc])]
  have hi : xs[k]? = some xs[k] := List.getElem?_eq_getElem hk
  have e : ixN xs.length (k : Int) = some k := by unfold ixN; rw [if_pos (by omega), if_pos (by omega)]; simp
  show atI xs (k : Int) = _
  unfold atI; rw [e]; exact hi
theorem ixT_in {xs : List D} {i : Int} (h0 : 0 ≤ i) (h1 : i < xs.length) (S : Sto) : ∃ d ∈ xs, ixO (.tup xs) (.int i) S = some d := by
  obtain ⟨d, hd, e⟩ := ixL_in h0 h1 S
  refine ⟨d, hd, ?_⟩
  unfold ixO at e ⊢
  rw [if_neg (by simp [isLoc])] at e ⊢
  exact e
theorem mod_in (x : Int) {n : Int} (h : 0 < n) : 0 ≤ x % n ∧ x % n < n := ⟨Int.emod_nonneg x (by omega), Int.emod_lt_of_pos x h⟩
theorem cutL_in {α : Type} {xs : List α} {lo hi : Option Int} : ∀ x ∈ cutL xs lo hi, x ∈ xs := fun x hx => List.mem_of_mem_drop (List.mem_of_mem_take hx)
theorem cutL_le {α : Type} (xs : List α) (lo hi : Option Int) : (cutL xs lo hi).length ≤ xs.length := by
  unfold cutL; rw [List.length_take, List.length_drop]; omega
end L2
namespace K02
open PySem L2 PyProof.Rows
theorem odd_eq (n : Int) (S : Sto) : ∃ d, F_odd_L [.int n] S = okO d S ∧ sm d = true := by
  have b := mod_in n (show (0 : Int) < 24 by decide)
  obtain ⟨d, hd, e⟩ := ixL_in (xs := [(D.int (-1)), (D.int 0), (D.int 1), (D.int 9), (D.int 10), (D.bl true), (D.bl false), D.non, (D.str ""), (D.str "a"), (D.str "A"), (D.str "end"), (D.str "abcdefghi"), (D.str "a b"), (D.tup []), (D.lst []), (D.tup [(D.str "a")]), (D.tup [(D.str "b"), (D.str "a")]),
    (D.tup [(D.str "names"), (D.tup [])]), (D.tup [(D.str "names"), (D.tup [(D.str "a"), (D.str "a")])]), (D.tup [(D.str "ask"), (D.int 0)]), (D.tup [(D.int 0), (D.int 0), (D.int 1)]), (D.tup [D.non]), (D.tup [(D.str "a"), (D.int 1)])]) b.1 b.2 S
  refine ⟨d, ?_, ?_⟩
  · have e2 : modD (.int n) (.int 24) = some (.int (n % 24)) := modD_pos (by decide)
    refine runD_ret rfl ?_
    unfold g_odd_L
    have hz : ∀ k : Nat, k ≤ 1000 → k ≤ sizeLine := fun k h => Nat.le_trans h (by decide)
    simp [addD_lstE, hz, e2, e]
  · have hall : sms [(D.int (-1)), (D.int 0), (D.int 1), (D.int 9), (D.int 10), (D.bl true), (D.bl false), D.non, (D.str ""), (D.str "a"), (D.str "A"), (D.str "end"), (D.str "abcdefghi"), (D.str "a b"), (D.tup []), (D.lst []), (D.tup [(D.str "a")]), (D.tup [(D.str "b"), (D.str "a")]),
      (D.tup [(D.str "names"), (D.tup [])]), (D.tup [(D.str "names"), (D.tup [(D.str "a"), (D.str "a")])]), (D.tup [(D.str "ask"), (D.int 0)]), (D.tup [(D.int 0), (D.int 0), (D.int 1)]), (D.tup [D.non]), (D.tup [(D.str "a"), (D.int 1)])] = true := by simp [sms, sm]
    exact sms_iff.mp hall d hd
end K02
namespace K02
open PySem L2 PyProof.Rows
theorem numS_ok (i : Int) (h0 : 0 ≤ i) (h1 : i ≤ 20) : strD1 [.int i] = some (.str (numS i)) := by
  have h : ∀ k : _root_.Fin 21, ((k.val : Int).natAbs.log2 < 1920 ∧ okB (numS (k.val : Int)) = true) := by decide +kernel
  obtain ⟨k, rfl⟩ : ∃ k : Nat, i = k := ⟨i.toNat, by omega⟩
  have q := h ⟨k, by omega⟩
  unfold strD1
  simp only
  rw [if_pos q]
def upS (x : Str) : Str := ⟨x.cps.map up1⟩
def nine (x : Str) : Str := ⟨(List.replicate (Int.toNat 9) x.cps.toList).flatten.toArray⟩
def rvS (x : Str) : Str := ⟨x.cps.toList.reverse.toArray⟩
set_option maxHeartbeats 4000000 in
theorem spoilt_eq (S : Sto) : ∀ (fuel deep : Nat) (d : D) (num : Int), deep < fuel → b0 d = true → ∃ d', F_spoilt_L fuel [d, .int num, .int deep] S = okO d' S ∧ sm d' = true
  | 0, deep, d, num, h, _ => absurd h (by omega)
  | fuel + 1, deep, d, num, h, hb => by
    have m6 : modD (.int num) (.int 6) = some (.int (num % 6)) := modD_pos (by decide)
    have d6 : fdivD (.int num) (.int 6) = some (.int (num / 6)) := fdivD_pos (by decide) (by decide)
    have d12 : fdivD (.int num) (.int 12) = some (.int (num / 12)) := fdivD_pos (by decide) (by decide)
    have m2 : modD (.int (num / 6)) (.int 2) = some (.int (num / 6 % 2)) := modD_pos (by decide)
    have n6 : modD (.int (num / 12)) (.int 6) = some (.int (num / 12 % 6)) := modD_pos (by decide)
    have n5 : modD (.int (num / 12)) (.int 5) = some (.int (num / 12 % 5)) := modD_pos (by decide)
    have b6 := mod_in (num / 12) (show (0 : Int) < 6 by decide)
    have b5 := mod_in (num / 12) (show (0 : Int) < 5 by decide)
    obtain ⟨o, eo, so⟩ := odd_eq (num / 6) S
    cases d with
    | tup ds =>
      have hb' := hb
      rw [b0, Bool.and_eq_true, decide_eq_true_eq] at hb
      obtain ⟨hl, hbs⟩ := hb
      have hbs := b0s_iff.mp hbs
      have hss : ∀ d ∈ ds, sm d = true := fun d hd => b0_sm (hbs d hd)
      by_cases hn : ds.length = 0
      · obtain rfl := List.length_eq_zero_iff.mp hn
        refine ⟨o, runD_ret rfl ?_, so⟩
        unfold g_spoilt_L
        by_cases hd0 : 0 < deep
        · simp [gtD, hd0, isiD, kindD, isiK, lenD, d6, eo]
        · simp [gtD, hd0, isiD, kindD, isiK, lenD, d6, eo]
      · have hpos : 0 < ds.length := by omega
        by_cases hgo : 0 < deep ∧ 0 < num % 6
        · obtain ⟨hd0, h6⟩ := hgo
          have e1 : modD (.int (num / 6)) (.int ds.length) = some (.int (num / 6 % ds.length)) := modD_pos (by omega)
          have e2 : fdivD (.int (num / 6)) (.int ds.length) = some (.int (num / 6 / ds.length)) := fdivD_pos (by omega) (by omega)
          have bl := mod_in (num / 6) (show (0 : Int) < ds.length by omega)
          obtain ⟨x, hx, e3⟩ := ixT_in (xs := ds) bl.1 bl.2 S
          obtain ⟨y, e4, sy⟩ := spoilt_eq S fuel (deep - 1) x (num / 6 / ds.length) (by omega) (hbs x hx)
          rw [show ((deep - 1 : Nat) : Int) = (deep : Int) - 1 by omega] at e4
          have a1 : addD (.tup (cutL ds none (some (num / 6 % ds.length)))) (.tup [y]) = some (.tup (cutL ds none (some (num / 6 % ds.length)) ++ [y])) := by
            rw [addD_tupE, if_pos (Nat.le_trans (show _ ≤ 1000 by have := cutL_le ds none (some (num / 6 % ds.length)); simp; omega) (by decide))]
          have a2 : addD (.tup (cutL ds none (some (num / 6 % ds.length)) ++ [y])) (.tup (cutL ds (some (num / 6 % ds.length + 1)) none)) = some (.tup (cutL ds none (some (num / 6 % ds.length)) ++ [y] ++ cutL ds (some (num / 6 % ds.length + 1)) none)) := by
            rw [addD_tupE, if_pos (Nat.le_trans (show _ ≤ 1000 by have := cutL_le ds none (some (num / 6 % ds.length)); have := cutL_le ds (some (num / 6 % ds.length + 1)) none; simp; omega) (by decide))]
          refine ⟨.tup (cutL ds none (some (num / 6 % ds.length)) ++ [y] ++ cutL ds (some (num / 6 % ds.length + 1)) none), runD_ret rfl ?_, sm_tup ?_ fun d hd => ?_⟩
          · unfold g_spoilt_L
            simp only [List.append_assoc, List.cons_append, List.nil_append] at a2
            simp [gtD, hd0, isiD, kindD, isiK, lenD, hpos, m6, h6, d6, e1, e2, e3, e4, slD, intO, a1, a2]
          · have := cutL_le ds none (some (num / 6 % ds.length)); have := cutL_le ds (some (num / 6 % ds.length + 1)) none
            simp; omega
          · simp only [List.mem_append, List.mem_singleton] at hd
            rcases hd with (hd | rfl) | hd
            · exact hss d (cutL_in d hd)
            · exact sy
            · exact hss d (cutL_in d hd)
        · by_cases hp : num / 6 % 2 = 0
          · have a1 : addD (.tup ds) (.tup (cutL ds (some (-1)) none)) = some (.tup (ds ++ cutL ds (some (-1)) none)) := by
              rw [addD_tupE, if_pos (Nat.le_trans (show _ ≤ 1000 by have := cutL_le ds (some (-1)) none; omega) (by decide))]
            have a2 : mulD (.tup ds) (.int 2) = some (.tup (ds ++ ds)) := by
              rw [mulD_tup, if_pos ⟨by decide, by decide, hpos, by omega⟩]
              show some (D.tup (List.replicate 2 ds).flatten) = _
              simp [List.replicate]
            obtain ⟨r, hr, er⟩ := ixL_in (xs := [.lst ds, .tup (cutL ds none (some (-1))), .tup (ds ++ cutL ds (some (-1)) none), .tup (cutL ds (some 1) none), .tup ds.reverse, .tup (ds ++ ds)]) b6.1 b6.2 S
            refine ⟨r, runD_ret rfl ?_, ?_⟩
            · unfold g_spoilt_L
              by_cases hd0 : 0 < deep
              · have h6 : ¬ 0 < num % 6 := fun z => hgo ⟨hd0, z⟩
                simp [gtD, hd0, isiD, kindD, isiK, lenD, hpos, m6, h6, d6, m2, hp, lstD, slD, intO, negD, a1, revD, a2, d12, n6, er]
              · simp [gtD, hd0, isiD, kindD, isiK, lenD, hpos, d6, m2, hp, lstD, slD, intO, negD, a1, revD, a2, d12, n6, er]
            · simp only [List.mem_cons, List.not_mem_nil, or_false] at hr
              rcases hr with rfl | rfl | rfl | rfl | rfl | rfl
              · rw [sm]; exact sms_iff.mpr hss
              · exact sm_tup (by have := cutL_le ds none (some (-1)); omega) fun d hd => hss d (cutL_in d hd)
              · refine sm_tup (by have := cutL_le ds (some (-1)) none; simp; omega) fun d hd => ?_
                rcases List.mem_append.mp hd with hd | hd
                · exact hss d hd
                · exact hss d (cutL_in d hd)
              · exact sm_tup (by have := cutL_le ds (some 1) none; omega) fun d hd => hss d (cutL_in d hd)
              · exact sm_tup (by rw [List.length_reverse]; omega) fun d hd => hss d (List.mem_reverse.mp hd)
              · refine sm_tup (by simp; omega) fun d hd => ?_
                rcases List.mem_append.mp hd with hd | hd
                · exact hss d hd
                · exact hss d hd
          · refine ⟨o, runD_ret rfl ?_, so⟩
            unfold g_spoilt_L
            by_cases hd0 : 0 < deep
            · have h6 : ¬ 0 < num % 6 := fun z => hgo ⟨hd0, z⟩
              simp [gtD, hd0, isiD, kindD, isiK, lenD, hpos, m6, h6, d6, m2, hp, eo]
            · simp [gtD, hd0, isiD, kindD, isiK, lenD, hpos, d6, m2, hp, eo]
    | int i =>
      rw [b0, Bool.and_eq_true, decide_eq_true_eq, decide_eq_true_eq] at hb
      by_cases hp : num / 6 % 2 = 0
      · have e1 := numS_ok i hb.1 hb.2
        have e2 : mulD (.int i) (.int 1001) = some (.int (i * 1001)) := mulD_r (by decide) (by decide)
        obtain ⟨r, hr, er⟩ := ixL_in (xs := [.str (numS i), .int (-i), .int (i * 1001), .bl (decide (i = 1)), .int (i + 1)]) b5.1 b5.2 S
        refine ⟨r, runD_ret rfl ?_, ?_⟩
        · unfold g_spoilt_L
          by_cases hd0 : 0 < deep
          · simp [gtD, hd0, isiD, kindD, isiK, d6, m2, hp, e1, negD, e2, d12, n5, er]
          · simp [gtD, hd0, isiD, kindD, isiK, d6, m2, hp, e1, negD, e2, d12, n5, er]
        · simp only [List.mem_cons, List.not_mem_nil, or_false] at hr
          rcases hr with rfl | rfl | rfl | rfl | rfl <;> rfl
      · refine ⟨o, runD_ret rfl ?_, so⟩
        unfold g_spoilt_L
        by_cases hd0 : 0 < deep
        · simp [gtD, hd0, isiD, kindD, isiK, d6, m2, hp, eo]
        · simp [gtD, hd0, isiD, kindD, isiK, d6, m2, hp, eo]
    | str x =>
      rw [b0, Bool.and_eq_true, decide_eq_true_eq] at hb
      obtain ⟨hl, ha⟩ := hb
      by_cases hp : num / 6 % 2 = 0
      · have wx : Wd 20 x := ⟨hl, fun c hc => by
          have := Array.all_eq_true_iff_forall_mem.mp ha c (by simpa using hc)
          simpa using this⟩
        have wa : Wd 1 ("a" : Str) := ⟨by decide, fun c hc => by rw [str_a] at hc; simp at hc; omega⟩
        have wb : Wd 1 (" " : Str) := ⟨by decide, fun c hc => by
          have : (" " : Str) = ⟨#[32]⟩ := by decide +kernel
          rw [this] at hc; simp at hc; omega⟩
        have e1 := addD_str wx wa (by decide)
        have e2 := addD_str wx wb (by decide)
        have e3 : upperD (.str x) = some (.str (upS x)) := by unfold upperD upS; simp only; rw [if_pos ha]
        have e4 : mulD (.str x) (.int 9) = some (.str (nine x)) := by
          rw [mulD_str, if_neg (by decide), if_pos ⟨by decide, by decide, by omega⟩]; rfl
        obtain ⟨r, hr, er⟩ := ixL_in (xs := [.str (x ++ "a"), .str (cutS x none (some (-1))), .str (upS x), .str (x ++ " "), .str (nine x), .str (rvS x)]) b6.1 b6.2 S
        refine ⟨r, runD_ret rfl ?_, ?_⟩
        · unfold g_spoilt_L
          have e5 : revD (.str x) = some (.str (rvS x)) := rfl
          have e6 : slD (.str x) none (some (-1)) = some (.str (cutS x none (some (-1)))) := rfl
          by_cases hd0 : 0 < deep
          · simp [gtD, hd0, isiD, kindD, isiK, d6, m2, hp, e1, e2, e3, e4, e5, e6, negD, intO, d12, n6, er]
          · simp [gtD, hd0, isiD, kindD, isiK, d6, m2, hp, e1, e2, e3, e4, e5, e6, negD, intO, d12, n6, er]
        · simp only [List.mem_cons, List.not_mem_nil, or_false] at hr
          rcases hr with rfl | rfl | rfl | rfl | rfl | rfl <;> rfl
      · refine ⟨o, runD_ret rfl ?_, so⟩
        unfold g_spoilt_L
        by_cases hd0 : 0 < deep
        · simp [gtD, hd0, isiD, kindD, isiK, d6, m2, hp, eo]
        · simp [gtD, hd0, isiD, kindD, isiK, d6, m2, hp, eo]
    | non =>
      refine ⟨o, runD_ret rfl ?_, so⟩
      unfold g_spoilt_L
      by_cases hd0 : 0 < deep
      · simp [gtD, hd0, isiD, kindD, isiK, d6, eo]
      · simp [gtD, hd0, isiD, kindD, isiK, d6, eo]
    | _ => simp [b0] at hb
end K02
namespace K02
open PySem L2 PyProof.Rows
theorem b0_strs {ss : List Str} (hl : ss.length ≤ 20) (h : ∀ x ∈ ss, Wd 9 x) : b0 (.tup (ss.map .str)) = true := by
  refine b0_tup (by rw [List.length_map]; exact hl) fun d hd => ?_
  obtain ⟨x, hx, rfl⟩ := List.mem_map.mp hd
  have w := h x hx
  rw [b0, Bool.and_eq_true, decide_eq_true_eq]
  refine ⟨by have := w.1; omega, ?_⟩
  rw [Array.all_eq_true_iff_forall_mem]
  intro c hc
  exact decide_eq_true (w.2 c (by simpa using hc))
end K02
namespace K02
open PySem L2 PyProof.Rows
theorem same_eq (a b : Bool) (S : Sto) : F_same_L [.bl a, .bl b] S = okO (.bl (a == b)) S := by
  refine runD_ret rfl ?_
  unfold g_same_L
  simp [isiD, kindD, isiK]
end K02
namespace K02
open PySem L2 PyProof.Rows
theorem there_in (m : Int) (z : Int) (h1 : 1 ≤ m) (h2 : m ≤ 10) (hz : -1 ≤ z) (hz2 : z ≤ 1) : ∃ t : Int, maxD [.int 1, .int (m + z)] = some (.int (if m + z > 1 then m + z else 1)) ∧ minD [.int 10, .int (if m + z > 1 then m + z else 1)] = some (.int t) ∧ 1 ≤ t ∧ t ≤ 10 := by
  refine ⟨_, rfl, rfl, ?_⟩
  split <;> split <;> omega
end K02
namespace K02
open PySem L2 PyProof.Rows
def isS (d : D) (s : Str) : Bool := match d with
  | .str y => decide (y = s)
  | _ => false
theorem eqD_strR {d : D} (h : pl d = true) (s : Str) : eqD d (.str s) = some (.bl (isS d s)) := by
  obtain ⟨p, e⟩ := toPy_pl h
  have e2 : toPy (.str s) = some (.str s) := rfl
  unfold eqD
  rw [e, e2]
  have hd : min p.depth (PyData.str s).depth ≤ 150 := Nat.le_trans (Nat.min_le_right _ _) (by simp [PyData.depth])
  simp only [hd, if_true]
  cases d with
  | str y => rw [toPy] at e; cases e; simp [PyData.eqv, isS, beqd]
  | tup ds => rw [toPy] at e; obtain ⟨ps, _, rfl⟩ := Option.map_eq_some_iff.mp e; simp [PyData.eqv, isS]
  | lst ds => rw [toPy] at e; obtain ⟨ps, _, rfl⟩ := Option.map_eq_some_iff.mp e; simp [PyData.eqv, isS]
  | set _ => simp [pl] at h
  | loc _ => simp [pl] at h
  | _ => rw [toPy] at e; cases e; simp [PyData.eqv, isS]
theorem neD_strR {d : D} (h : pl d = true) (s : Str) : neD d (.str s) = some (.bl (!isS d s)) := by
  obtain ⟨p, e⟩ := toPy_pl h
  have e2 : toPy (.str s) = some (.str s) := rfl
  unfold neD
  rw [e, e2]
  have hd : min p.depth (PyData.str s).depth ≤ 150 := Nat.le_trans (Nat.min_le_right _ _) (by simp [PyData.depth])
  simp only [hd, if_true]
  cases d with
  | str y => rw [toPy] at e; cases e; simp [PyData.eqv, isS, beqd]
  | tup ds => rw [toPy] at e; obtain ⟨ps, _, rfl⟩ := Option.map_eq_some_iff.mp e; simp [PyData.eqv, isS]
  | lst ds => rw [toPy] at e; obtain ⟨ps, _, rfl⟩ := Option.map_eq_some_iff.mp e; simp [PyData.eqv, isS]
  | set _ => simp [pl] at h
  | loc _ => simp [pl] at h
  | _ => rw [toPy] at e; cases e; simp [PyData.eqv, isS]
def leafB (d : D) : Bool := match d with
  | .tup [a, b] => isS a "names" && namesD b
  | _ => false
def askB (d : D) (n : Int) : Bool := match d with
  | .tup [a, b, _, _] => isS a "ask" && numB b n
  | _ => false
theorem sm_mem {ds : List D} (h : sm (.tup ds) = true) : ∀ d ∈ ds, sm d = true := by
  rw [sm, Bool.and_eq_true] at h; exact sms_iff.mp h.2
theorem at0 (xs : List D) (a : D) (S : Sto) : ixO (.tup (a :: xs)) (.int 0) S = some a := by
  unfold ixO; rw [if_neg (by simp [isLoc])]; exact atI_some (i := 0) rfl
theorem at1 (xs : List D) (a b : D) (S : Sto) : ixO (.tup (a :: b :: xs)) (.int 1) S = some b := by
  unfold ixO; rw [if_neg (by simp [isLoc])]; exact atI_some (i := 1) rfl
theorem at2 (xs : List D) (a b c : D) (S : Sto) : ixO (.tup (a :: b :: c :: xs)) (.int 2) S = some c := by
  unfold ixO; rw [if_neg (by simp [isLoc])]; exact atI_some (i := 2) rfl
theorem at3 (xs : List D) (a b c d : D) (S : Sto) : ixO (.tup (a :: b :: c :: d :: xs)) (.int 3) S = some d := by
  unfold ixO; rw [if_neg (by simp [isLoc])]; exact atI_some (i := 3) rfl
theorem is_leaf_eq {d : D} (h : sm d = true) (S : Sto) : F_is_leaf [d] S = okO (.bl (leafB d)) S := by
  refine runD_ret rfl ?_
  unfold g_is_leaf
  have e0 := fun S => is_tuple_of_eq (sm_pl h) 2 S
  cases d with
  | tup ds =>
    match ds with
    | [a, b] =>
      have ha := sm_mem h a (by simp)
      have hb := sm_mem h b (by simp)
      have e1 := eqD_strR (sm_pl ha) "names"
      have e2 := fun S => is_names_eq (sm_pl hb) (sm_len hb) S
      cases hq : isS a "names" with
      | true => simp [e0, tupN, at0, at1, e1, hq, e2, leafB]
      | false => simp [e0, tupN, at0, at1, e1, hq, leafB]
    | [] => simp [e0, tupN, leafB]
    | [a] => simp [e0, tupN, leafB]
    | a :: b :: c :: r =>
      have hl : ¬ ((r.length : Int) + 1 + 1 + 1 = 2) := by omega
      simp [e0, tupN, leafB, hl]
  | _ => simp [e0, tupN, leafB]
theorem is_ask_eq {d : D} (h : sm d = true) (n : Int) (S : Sto) : F_is_ask [d, .int n] S = okO (.bl (askB d n)) S := by
  refine runD_ret rfl ?_
  unfold g_is_ask
  have e0 := fun S => is_tuple_of_eq (sm_pl h) 4 S
  cases d with
  | tup ds =>
    match ds with
    | [a, b, c, d] =>
      have ha := sm_mem h a (by simp)
      have hb := sm_mem h b (by simp)
      have e1 := eqD_strR (sm_pl ha) "ask"
      have e2 := fun S => is_number_below_eq (sm_pl hb) n S
      cases hq : isS a "ask" with
      | true => simp [e0, tupN, at0, at1, e1, hq, e2, askB]
      | false => simp [e0, tupN, at0, at1, e1, hq, askB]
    | [] => simp [e0, tupN, askB]
    | [a] => simp [e0, tupN, askB]
    | [a, b] => simp [e0, tupN, askB]
    | [a, b, c] => simp [e0, tupN, askB]
    | a :: b :: c :: d :: e :: r =>
      have hl : ¬ ((r.length : Int) + 1 + 1 + 1 + 1 + 1 = 4) := by omega
      simp [e0, tupN, askB, hl]
  | _ => simp [e0, tupN, askB]
def prt (d : D) (i : Nat) : D := match d with
  | .tup ds => ds.getD i .non
  | _ => .non
def keyP (n : Int) : Nat → D → Bool
  | 0, d => leafB d
  | k + 1, d => leafB d || (askB d n && (keyP n k (prt d 2) && keyP n k (prt d 3)))
theorem ask_parts {d : D} {n : Int} (h : askB d n = true) : ∃ a b x y, d = .tup [a, b, x, y] := by
  unfold askB at h
  split at h
  · exact ⟨_, _, _, _, rfl⟩
  · cases h
theorem key_within_eq (n : Int) (S : Sto) : ∀ (k fuel : Nat) (d : D), k < fuel → sm d = true → F_is_key_within fuel [d, .int n, .int k] S = okO (.bl (keyP n k d)) S
  | k, 0, d, h, _ => absurd h (by omega)
  | 0, fuel + 1, d, _, hd => by
    refine runD_ret rfl ?_
    unfold g_is_key_within
    have e1 := is_leaf_eq hd S
    cases hl : leafB d with
    | true => simp [e1, hl, keyP]
    | false => simp [e1, hl, keyP]
  | k + 1, fuel + 1, d, h, hd => by
    refine runD_ret rfl ?_
    unfold g_is_key_within
    have e1 := is_leaf_eq hd S
    have e2 := is_ask_eq hd n S
    have hk : ¬ ((k : Int) + 1 = 0) := by omega
    cases hl : leafB d with
    | true => simp [e1, hl, keyP]
    | false =>
      cases ha : askB d n with
      | false => simp [e1, hl, e2, ha, keyP, hk]
      | true =>
        obtain ⟨a, b, x, y, rfl⟩ := ask_parts ha
        have hx := sm_mem hd x (by simp)
        have hy := sm_mem hd y (by simp)
        have r1 := key_within_eq n S k fuel x (by omega) hx
        have r2 := key_within_eq n S k fuel y (by omega) hy
        cases hq : keyP n k x with
        | true => simp [e1, hl, e2, ha, keyP, hk, at2, at3, r1, r2, hq, prt]
        | false => simp [e1, hl, e2, ha, keyP, hk, at2, at3, r1, hq, prt]
theorem is_key_eq {d : D} (hd : sm d = true) (n : Int) (S : Sto) : F_is_key [d, .int n] S = okO (.bl (keyP n 12 d)) S := by
  refine runD_ret rfl ?_
  unfold g_is_key
  have e := key_within_eq n S 12 14 d (by decide) hd
  have e' : F_is_key_within 14 [d, .int n, .int 12] S = okO (.bl (keyP n 12 d)) S := e
  simp [e']
set_option maxHeartbeats 4000000 in
theorem key_L_eq (n : Int) (S : Sto) : ∀ (k fuel e : Nat) (d : D), e + k = 12 → k + 1 < fuel → sm d = true → F_is_key_L fuel [d, .int n, .int e] S = okO (.bl (keyP n k d)) S
  | k, 0, e, d, _, h, _ => absurd h (by omega)
  | k, fuel + 1, e, d, hk, h, hd => by
    refine runD_ret rfl ?_
    unfold g_is_key_L
    have hdeep : ¬ ((12 : Int) < (e : Int)) := by omega
    cases d with
    | tup ds =>
      match ds, hd with
      | [], hd => cases k <;> simp [gtD, hdeep, isiD, kindD, isiK, lenD, keyP, leafB, askB]
      | a :: r, hd =>
        have ha := sm_mem hd a (by simp)
        cases a with
        | str s =>
          have e1 := eqD_strR (d := .str s) rfl "names"
          have e2 := neD_strR (d := .str s) rfl "ask"
          have hl0 : ¬ (((r.length : Int) + 1) = 0) := by omega
          cases hs : isS (.str s) "names" with
          | true =>
            have hna : isS (.str s) "ask" = false := by
              simp only [isS, decide_eq_true_eq, decide_eq_false_iff_not] at hs ⊢
              subst hs; decide +kernel
            match r, hd with
            | [b], hd =>
              have hb := sm_mem hd b (by simp)
              have r1 := are_names_eq (sm_pl hb) S
              rw [← names_same] at r1
              cases k <;> simp [gtD, hdeep, isiD, kindD, isiK, lenD, at0, at1, e1, hs, r1, keyP, leafB, askB, hna]
            | [], hd => cases k <;> simp [gtD, hdeep, isiD, kindD, isiK, lenD, at0, e1, hs, keyP, leafB, askB]
            | b :: c :: r', hd =>
              have hl : ¬ ((r'.length : Int) + 1 + 1 + 1 = 2) := by omega
              have hl0 : ¬ ((r'.length : Int) + 1 + 1 + 1 = 0) := by omega
              have q : askB (.tup (.str s :: b :: c :: r')) n = false := by
                unfold askB; split
                · rename_i e; cases e; rw [hna]; rfl
                · rfl
              cases k <;> simp [gtD, hdeep, isiD, kindD, isiK, lenD, at0, e1, hs, keyP, leafB, q, hl, hl0]
          | false =>
            cases hq : isS (.str s) "ask" with
            | false =>
              have q : askB (.tup (.str s :: r)) n = false := by
                unfold askB; split
                · rename_i e; cases e; rw [hq]; rfl
                · rfl
              have q2 : leafB (.tup (.str s :: r)) = false := by
                unfold leafB; split
                · rename_i e; cases e; rw [hs]; rfl
                · rfl
              cases k <;> simp [gtD, hdeep, isiD, kindD, isiK, lenD, at0, e1, hs, e2, hq, keyP, q, q2, hl0]
            | true =>
              match r, hd with
              | [b, x, y], hd =>
                have hb := sm_mem hd b (by simp)
                have hx := sm_mem hd x (by simp)
                have hy := sm_mem hd y (by simp)
                have e3 := number_eq (sm_pl hb) (n - 1) S
                rw [show n - 1 + 1 = n by omega] at e3
                cases hn : numB b n with
                | false => cases k <;> simp [gtD, hdeep, isiD, kindD, isiK, lenD, at0, at1, e1, hs, e2, hq, e3, hn, keyP, leafB, askB]
                | true =>
                  cases k with
                  | zero =>
                    obtain rfl : e = 12 := by omega
                    have r1 : F_is_key_L fuel [x, .int n, .int 13] S = okO (.bl false) S := by
                      cases fuel with
                      | zero => omega
                      | succ f =>
                        refine runD_ret rfl ?_
                        unfold g_is_key_L
                        simp [gtD]
                    simp [gtD, isiD, kindD, isiK, lenD, at0, at1, at2, e1, hs, e2, hq, e3, hn, keyP, leafB, r1]
                  | succ k =>
                    have r1 := key_L_eq n S k fuel (e + 1) x (by omega) (by omega) hx
                    have r2 := key_L_eq n S k fuel (e + 1) y (by omega) (by omega) hy
                    rw [show ((e + 1 : Nat) : Int) = (e : Int) + 1 by omega] at r1 r2
                    cases hz : keyP n k x with
                    | true => simp [gtD, hdeep, isiD, kindD, isiK, lenD, at0, at1, at2, at3, e1, hs, e2, hq, e3, hn, keyP, leafB, askB, prt, r1, r2, hz]
                    | false => simp [gtD, hdeep, isiD, kindD, isiK, lenD, at0, at1, at2, e1, hs, e2, hq, e3, hn, keyP, leafB, askB, prt, r1, hz]
              | [], hd => cases k <;> simp [gtD, hdeep, isiD, kindD, isiK, lenD, at0, e1, hs, e2, hq, keyP, leafB, askB]
              | [b], hd => cases k <;> simp [gtD, hdeep, isiD, kindD, isiK, lenD, at0, e1, hs, e2, hq, keyP, leafB, askB]
              | [b, x], hd => cases k <;> simp [gtD, hdeep, isiD, kindD, isiK, lenD, at0, e1, hs, e2, hq, keyP, leafB, askB]
              | b :: x :: y :: z :: r', hd =>
                have hl : ¬ ((r'.length : Int) + 1 + 1 + 1 + 1 + 1 = 4) := by omega
                have hl0 : ¬ ((r'.length : Int) + 1 + 1 + 1 + 1 + 1 = 0) := by omega
                cases k <;> simp [gtD, hdeep, isiD, kindD, isiK, lenD, at0, e1, hs, e2, hq, keyP, leafB, askB, hl, hl0]
        | set _ => simp [sm] at ha
        | loc _ => simp [sm] at ha
        | _ =>
          have hl0 : ¬ (((r.length : Int) + 1) = 0) := by omega
          have q : ∀ z, askB (.tup (z :: r)) n = true → ∃ s, z = .str s := fun z hz => by
            unfold askB at hz; split at hz
            · rename_i e; cases e
              rw [Bool.and_eq_true] at hz
              unfold isS at hz; split at hz
              · exact ⟨_, rfl⟩
              · cases hz.1
            · cases hz
          have q2 : ∀ z, leafB (.tup (z :: r)) = true → ∃ s, z = .str s := fun z hz => by
            unfold leafB at hz; split at hz
            · rename_i e; cases e
              rw [Bool.and_eq_true] at hz
              unfold isS at hz; split at hz
              · exact ⟨_, rfl⟩
              · cases hz.1
            · cases hz
          have f1 : ∀ z, (¬ ∃ s, z = .str s) → askB (.tup (z :: r)) n = false := fun z hz => Bool.eq_false_iff.mpr fun y => hz (q z y)
          have f2 : ∀ z, (¬ ∃ s, z = .str s) → leafB (.tup (z :: r)) = false := fun z hz => Bool.eq_false_iff.mpr fun y => hz (q2 z y)
          cases k <;> simp [gtD, hdeep, isiD, kindD, isiK, lenD, at0, keyP, f1, f2, hl0]
    | set _ => simp [sm] at hd
    | loc _ => simp [sm] at hd
    | _ => cases k <;> simp [gtD, hdeep, isiD, kindD, isiK, keyP, leafB, askB]
end K02
namespace K02
open PySem L2 PyProof.Rows
theorem key_gen (ss : List Str) (hl : ss.length ≤ 20) (hw : ∀ x ∈ ss, Wd 9 x) (m : Nat) (h1 : 1 ≤ m) (hm : m ≤ 10) (S : Sto) : ∀ (fuel deep : Nat) (num : Int), deep < fuel → 0 ≤ num → ∃ d, F_key_L fuel [.int num, .tup (ss.map .str), .int m, .int deep] S = okO d S ∧ b0 d = true
  | 0, deep, num, h, _ => absurd h (by omega)
  | fuel + 1, deep, num, h, h0 => by
    have m7 : modD (.int num) (.int 7) = some (.int (num % 7)) := modD_pos (by decide)
    have d7 : fdivD (.int num) (.int 7) = some (.int (num / 7)) := fdivD_pos (by decide) (by decide)
    have mm : modD (.int (num / 7)) (.int m) = some (.int (num / 7 % m)) := modD_pos (by omega)
    have bm := mod_in (num / 7) (show (0 : Int) < m by omega)
    obtain ⟨sn, en, hln, hmn⟩ := names_L_eq (num / 7) (ss := ss) (by omega) S
    have hb0 : b0 (.tup (sn.map .str)) = true := b0_strs (by omega) fun x hx => hw x (hmn x hx)
    have hnm : b0 (.str "names") = true := by decide +kernel
    have hak : b0 (.str "ask") = true := by decide +kernel
    have leaf : (deep = 0 ∨ num % 7 = 0) → ∃ d, F_key_L (fuel + 1) [.int num, .tup (ss.map .str), .int m, .int deep] S = okO d S ∧ b0 d = true := fun hc => by
      refine ⟨.tup [.str "names", .tup (sn.map .str)], runD_ret rfl ?_, b0_tup (by simp) fun d hd => ?_⟩
      · unfold g_key_L
        by_cases hd0 : deep = 0
        · subst hd0
          simp [d7, en]
        · have h7 : num % 7 = 0 := hc.resolve_left hd0
          simp [hd0, m7, h7, d7, en]
      · simp only [List.mem_cons, List.not_mem_nil, or_false] at hd
        rcases hd with rfl | rfl
        · exact hnm
        · exact hb0
    by_cases hd0 : deep = 0
    · exact leaf (.inl hd0)
    · by_cases h7 : num % 7 = 0
      · exact leaf (.inr h7)
      · have e1 := drawn_eq num 1 S
        have e2 := drawn_eq num 2 S
        obtain ⟨x, ex, bx⟩ := key_gen ss hl hw m h1 hm S fuel (deep - 1) (drw num 1) (by omega) (drw_nonneg _ _)
        obtain ⟨y, ey, by_⟩ := key_gen ss hl hw m h1 hm S fuel (deep - 1) (drw num 2) (by omega) (drw_nonneg _ _)
        rw [show ((deep - 1 : Nat) : Int) = (deep : Int) - 1 by omega] at ex ey
        refine ⟨.tup [.str "ask", .int (num / 7 % m), x, y], runD_ret rfl ?_, b0_tup (by simp) fun d hd => ?_⟩
        · unfold g_key_L
          simp [hd0, m7, h7, e1, e2, ex, ey, d7, mm]
        · simp only [List.mem_cons, List.not_mem_nil, or_false] at hd
          rcases hd with rfl | rfl | rfl | rfl
          · exact hak
          · rw [b0, Bool.and_eq_true, decide_eq_true_eq, decide_eq_true_eq]; omega
          · exact bx
          · exact by_
end K02
namespace K02
open PySem L2 PyProof.Rows
theorem wrap_eq (a w : Option D) (m : Nat) (h1 : 1 ≤ m) (hm : m ≤ 10) (S : Sto) (n : Int) (h0 : 0 ≤ n) (hn : n ≤ 14) (d : D) (hd : b0 d = true) : ∃ d' z, loopF (uName 4) b_law_1 ((List.range n.toNat).map fun (k : Nat) => D.int k) [a, some (.int m), w, some d, none, none] S = okO (.next [a, some (.int m), w, some d', z, none]) S ∧ b0 d' = true := by
  have hak : b0 (.str "ask") = true := by decide +kernel
  have hle : b0 (.tup [.str "names", .tup []]) = true := by decide +kernel
  obtain ⟨ρ', S', e1, hI⟩ := loopF_go (u := uName 4) (body := b_law_1) (fun i ρ S1 => S1 = S ∧ ∃ (d : D) (z : Option D), b0 d = true ∧ ρ = [a, some (.int m), w, some d, z, none])
    ((List.range n.toNat).map fun (k : Nat) => D.int k) 0 [a, some (.int m), w, some d, none, none] S ⟨rfl, d, none, hd, rfl⟩ (by
      rintro j dd ρ S1 hj ⟨rfl, d, z, hb, rfl⟩
      obtain ⟨rfl, hlt⟩ := range_get hj
      have bm := mod_in (j : Int) (show (0 : Int) < m by omega)
      have mm : modD (.int j) (.int m) = some (.int ((j : Int) % m)) := modD_pos (by omega)
      refine ⟨[a, some (.int m), w, some d, some (.int j), none], rfl, [a, some (.int m), w, some (.tup [.str "ask", .int ((j : Int) % m), d, .tup [.str "names", .tup []]]), some (.int j), none], S1, ?_, rfl, _, _, b0_tup (by simp) fun x hx => ?_, rfl⟩
      · unfold b_law_1
        simp [mm]
      · simp only [List.mem_cons, List.not_mem_nil, or_false] at hx
        rcases hx with rfl | rfl | rfl | rfl
        · exact hak
        · rw [b0, Bool.and_eq_true, decide_eq_true_eq, decide_eq_true_eq]; omega
        · exact hb
        · exact hle)
  obtain ⟨rfl, d', z, hb, rfl⟩ := hI
  exact ⟨d', z, e1, hb⟩
set_option maxHeartbeats 4000000 in
theorem law_eq (ns : List Int) (_ : ns.length ≤ 63) : ∃ S', F_law [.lst (ns.map .int)] [] = some (.ok (.bl true), S') := by
  have x0 : ∀ S, F_mixed_L [.lst (ns.map .int), .int 0] S = okO (.int (mix ns 0)) S := mixed_eq ns 0
  have x1 : ∀ S, F_mixed_L [.lst (ns.map .int), .int 1] S = okO (.int (mix ns 1)) S := mixed_eq ns 1
  have x2 : ∀ S, F_mixed_L [.lst (ns.map .int), .int 2] S = okO (.int (mix ns 2)) S := mixed_eq ns 2
  have x3 : ∀ S, F_mixed_L [.lst (ns.map .int), .int 3] S = okO (.int (mix ns 3)) S := mixed_eq ns 3
  have x4 : ∀ S, F_mixed_L [.lst (ns.map .int), .int 4] S = okO (.int (mix ns 4)) S := mixed_eq ns 4
  have x5 : ∀ S, F_mixed_L [.lst (ns.map .int), .int 5] S = okO (.int (mix ns 5)) S := mixed_eq ns 5
  have bm := mod_in (mix ns 0) (show (0 : Int) < 10 by decide)
  have m10 : modD (.int (mix ns 0)) (.int 10) = some (.int (mix ns 0 % 10)) := modD_pos (by decide)
  obtain ⟨m, hm⟩ : ∃ m : Nat, 1 + mix ns 0 % 10 = m := ⟨(1 + mix ns 0 % 10).toNat, by omega⟩
  have hm1 : 1 ≤ m := by omega
  have hm10 : m ≤ 10 := by omega
  obtain ⟨ss, kvs, ew, hl6, hw⟩ := words_eq (mix ns 1) []
  rw [List.nil_append] at ew
  have a6 : modD (.int (mix ns 3)) (.int 6) = some (.int (mix ns 3 % 6)) := modD_pos (by decide)
  have b6 := mod_in (mix ns 3) (show (0 : Int) < 6 by decide)
  obtain ⟨dp, hdp⟩ : ∃ dp : Nat, mix ns 3 % 6 = dp := ⟨(mix ns 3 % 6).toNat, by omega⟩
  obtain ⟨d0, ed0, bd0⟩ := key_gen ss (by omega) hw m hm1 hm10 [.dict kvs] 8 dp (mix ns 2) (by omega) (mix_nonneg _ _)
  have q6 : fdivD (.int (mix ns 3)) (.int 6) = some (.int (mix ns 3 / 6)) := fdivD_pos (by decide) (by decide)
  have q5 : modD (.int (mix ns 3 / 6)) (.int 5) = some (.int (mix ns 3 / 6 % 5)) := modD_pos (by decide)
  have q30 : fdivD (.int (mix ns 3)) (.int 30) = some (.int (mix ns 3 / 30)) := fdivD_pos (by decide) (by decide)
  have q15 : modD (.int (mix ns 3 / 30)) (.int 15) = some (.int (mix ns 3 / 30 % 15)) := modD_pos (by decide)
  have b15 := mod_in (mix ns 3 / 30) (show (0 : Int) < 15 by decide)
  have e15 := rng1 (mix ns 3 / 30 % 15) b15.1 (by omega)
  obtain ⟨d1, z1, ed1, bd1⟩ := wrap_eq (some (.lst (ns.map .int))) (some (.tup (ss.map .str))) m hm1 hm10 [.dict kvs] (mix ns 3 / 30 % 15) b15.1 (by omega) d0 bd0
  have a2 : modD (.int (mix ns 4)) (.int 2) = some (.int (mix ns 4 % 2)) := modD_pos (by decide)
  have f2 : fdivD (.int (mix ns 4)) (.int 2) = some (.int (mix ns 4 / 2)) := fdivD_pos (by decide) (by decide)
  have a7 : modD (.int (mix ns 4 / 2)) (.int 7) = some (.int (mix ns 4 / 2 % 7)) := modD_pos (by decide)
  have b7 := mod_in (mix ns 4 / 2) (show (0 : Int) < 7 by decide)
  obtain ⟨dq, hdq⟩ : ∃ dq : Nat, mix ns 4 / 2 % 7 = dq := ⟨(mix ns 4 / 2 % 7).toNat, by omega⟩
  obtain ⟨d2, ed2, sd2⟩ := spoilt_eq [.dict kvs] 8 dq d0 (mix ns 5) (by omega) bd0
  obtain ⟨d3, ed3, sd3⟩ := spoilt_eq [.dict kvs] 8 dq d1 (mix ns 5) (by omega) bd1
  have c10 : fdivD (.int (mix ns 0)) (.int 10) = some (.int (mix ns 0 / 10)) := fdivD_pos (by decide) (by decide)
  have c4 : modD (.int (mix ns 0 / 10)) (.int 4) = some (.int (mix ns 0 / 10 % 4)) := modD_pos (by decide)
  have b4 := mod_in (mix ns 0 / 10) (show (0 : Int) < 4 by decide)
  obtain ⟨zd, hzd, ezd⟩ := ixT_in (xs := [.int 0, .int 0, .int 1, .int (-1)]) b4.1 b4.2 [.dict kvs]
  obtain ⟨z, rfl, hz1, hz2⟩ : ∃ z : Int, zd = .int z ∧ -1 ≤ z ∧ z ≤ 1 := by
    simp only [List.mem_cons, List.not_mem_nil, or_false] at hzd
    rcases hzd with rfl | rfl | rfl | rfl
    · exact ⟨0, rfl, by decide, by decide⟩
    · exact ⟨0, rfl, by decide, by decide⟩
    · exact ⟨1, rfl, by decide, by decide⟩
    · exact ⟨-1, rfl, by decide, by decide⟩
  obtain ⟨t, et1, et2, ht1, ht2⟩ := there_in m z (by omega) (by omega) hz1 hz2
  have k1 : ∀ d, sm d = true → F_is_key [d, .int t] [.dict kvs] = okO (.bl (keyP t 12 d)) [.dict kvs] := fun d hd => is_key_eq hd t [.dict kvs]
  have k2 : ∀ d, sm d = true → F_is_key_L 15 [d, .int t, .int 0] [.dict kvs] = okO (.bl (keyP t 12 d)) [.dict kvs] := fun d hd => key_L_eq t [.dict kvs] 12 15 0 d rfl (by decide) hd
  have r7 : ∀ b : Bool, F_same_L [.bl b, .bl b] [.dict kvs] = okO (.bl true) [.dict kvs] := fun b => by rw [same_eq]; simp
  have s0 := b0_sm bd0
  have s1 := b0_sm bd1
  refine ⟨[.dict kvs], runD_ret rfl ?_⟩
  unfold g_law
  by_cases h5 : mix ns 3 / 6 % 5 = 1
  · by_cases h2 : mix ns 4 % 2 = 1
    · simp [x0, x1, x2, x3, x4, x5, m10, hm, ew, a6, hdp, ed0, q6, q5, h5, q30, q15, e15, ed1, a2, h2, f2, a7, hdq, ed3, c10, c4, ezd, et1, et2, k1, k2, sd3, r7]
    · simp [x0, x1, x2, x3, x4, x5, m10, hm, ew, a6, hdp, ed0, q6, q5, h5, q30, q15, e15, ed1, a2, h2, c10, c4, ezd, et1, et2, k1, k2, s1, r7]
  · by_cases h2 : mix ns 4 % 2 = 1
    · simp [x0, x1, x2, x3, x4, x5, m10, hm, ew, a6, hdp, ed0, q6, q5, h5, a2, h2, f2, a7, hdq, ed2, c10, c4, ezd, et1, et2, k1, k2, sd2, r7]
    · simp [x0, x1, x2, x3, x4, x5, m10, hm, ew, a6, hdp, ed0, q6, q5, h5, a2, h2, c10, c4, ezd, et1, et2, k1, k2, s0, r7]
end K02
namespace K02
open PySem L2
theorem all_mk {l : PySem.W.OpenLaw} {w : World} {K : PySem.W.Frag} {h : Heap} {mg : Str → Option Value} {fa : Addr} (hfa : mg "law" = some (.ref fa)) (T : Top K mg) :
    ∃ fd : FuncData, (∀ (s : Shared) (v : Value), BindsTo s fd ⟨[v], []⟩ [("_law_script", v)]) ∧ ∀ base : Heap, K.In base → base.Ns mainGlobals mg → FnOk l.prog w K mg base CX0 21 fa fd ["_law_script"] (spLaw K 63) := by
  obtain ⟨f, fd, Fn, hm, hb⟩ := T.d_law
  have e := hfa.symm.trans hm
  cases e
  have ok : ∀ base : Heap, FnD l.prog w K mg base 21 fa fd ["_law_script"] F_law := fun base => fn_law T Fn
  obtain ⟨oc, od, kV, doc, pm, an, cdv, ct, osl, rfl, lk, hcd⟩ := Fn.ex
  exact ⟨_, fun s v => .of_eq rfl, fun base _ _ => law_sp (ok base) (by decide) fun ns hl => law_eq ns hl⟩
end K02
open PySem PySem.W PyProof.Rows
set_option maxRecDepth 100000 in
set_option maxHeartbeats 0 in
theorem PySem.Challenge.cw_keyfold_k02_keys_holds : PySem.Challenge.rw_keyfold_k02_keys.Holds := by
  w_on; o_law; k_head; (case hw => w_witness2)
  k_fill
  refine L2.law_walk (l := PySem.Challenge.rw_keyfold_k02_keys) (k := 21) (x := "_law_script") rfl rfl ⟨rfl, by decide, by decide⟩ (fun w h Y => PySem.W.kIn_of Y) ?F
  case F =>
    intro w mg fa h KX G hmg
    refine' K02.all_mk (h := h) hmg (K02.top_mk KX G ?a0 ?l0 ?c0 ?k0 ?a1 ?l1 ?c1 ?k1 ?a2 ?l2 ?c2 ?k2 ?a3 ?l3 ?c3 ?k3 ?a4 ?l4 ?c4 ?k4 ?a5 ?l5 ?c5 ?k5 ?a6 ?l6 ?c6 ?k6 ?a7 ?l7 ?c7 ?k7 ?a8 ?l8 ?c8 ?k8 ?a9 ?l9 ?c9 ?k9 ?a10 ?l10 ?c10 ?k10 ?a11 ?l11 ?c11 ?k11 ?a12 ?l12 ?c12 ?k12 ?a13 ?l13 ?c13 ?k13 ?a14 ?l14 ?c14 ?k14 ?a15 ?l15 ?c15 ?k15 ?a16 ?l16 ?c16 ?k16 ?a17 ?l17 ?c17 ?k17 ?a18 ?l18 ?c18 ?k18 ?a19 ?l19 ?c19 ?k19 ?a20 ?l20 ?c20 ?k20 ?a21 ?l21 ?c21 ?k21 ?z_isinstance ?z_int ?z_bool ?z_tuple ?z_len ?z_all ?z_str ?z_sorted ?z_set ?z_range ?z_enumerate ?z_list ?z_max ?z_min ?e_KEPT_WORDS ?y_KEPT_WORDS ?t_KEPT_WORDS ?e_MOST_LETTERS ?t_MOST_LETTERS ?e_MOST_KEYS_ABOVE ?t_MOST_KEYS_ABOVE)
    (case a0 => k_is)
    (case l0 => k_is)
    (case c0 => k_is)
    (case k0 => k_is)
    (case a1 => k_is)
    (case l1 => k_is)
    (case c1 => k_is)
    (case k1 => k_is)
    (case a2 => k_is)
    (case l2 => k_is)
    (case c2 => k_is)
    (case k2 => k_is)
    (case a3 => k_is)
    (case l3 => k_is)
    (case c3 => k_is)
    (case k3 => k_is)
    (case a4 => k_is)
    (case l4 => k_is)
    (case c4 => k_is)
    (case k4 => k_is)
    (case a5 => k_is)
    (case l5 => k_is)
    (case c5 => k_is)
    (case k5 => k_is)
    (case a6 => k_is)
    (case l6 => k_is)
    (case c6 => k_is)
    (case k6 => k_is)
    (case a7 => k_is)
    (case l7 => k_is)
    (case c7 => k_is)
    (case k7 => k_is)
    (case a8 => k_is)
    (case l8 => k_is)
    (case c8 => k_is)
    (case k8 => k_is)
    (case a9 => k_is)
    (case l9 => k_is)
    (case c9 => k_is)
    (case k9 => k_is)
    (case a10 => k_is)
    (case l10 => k_is)
    (case c10 => k_is)
    (case k10 => k_is)
    (case a11 => k_is)
    (case l11 => k_is)
    (case c11 => k_is)
    (case k11 => k_is)
    (case a12 => k_is)
    (case l12 => k_is)
    (case c12 => k_is)
    (case k12 => k_is)
    (case a13 => k_is)
    (case l13 => k_is)
    (case c13 => k_is)
    (case k13 => k_is)
    (case a14 => k_is)
    (case l14 => k_is)
    (case c14 => k_is)
    (case k14 => k_is)
    (case a15 => k_is)
    (case l15 => k_is)
    (case c15 => k_is)
    (case k15 => k_is)
    (case a16 => k_is)
    (case l16 => k_is)
    (case c16 => k_is)
    (case k16 => k_is)
    (case a17 => k_is)
    (case l17 => k_is)
    (case c17 => k_is)
    (case k17 => k_is)
    (case a18 => k_is)
    (case l18 => k_is)
    (case c18 => k_is)
    (case k18 => k_is)
    (case a19 => k_is)
    (case l19 => k_is)
    (case c19 => k_is)
    (case k19 => k_is)
    (case a20 => k_is)
    (case l20 => k_is)
    (case c20 => k_is)
    (case k20 => k_is)
    (case a21 => k_is)
    (case l21 => k_is)
    (case c21 => k_is)
    (case k21 => k_is)
    (case z_isinstance => k_is)
    (case z_int => k_is)
    (case z_bool => k_is)
    (case z_tuple => k_is)
    (case z_len => k_is)
    (case z_all => k_is)
    (case z_str => k_is)
    (case z_sorted => k_is)
    (case z_set => k_is)
    (case z_range => k_is)
    (case z_enumerate => k_is)
    (case z_list => k_is)
    (case z_max => k_is)
    (case z_min => k_is)
    (case e_KEPT_WORDS => k_is)
    (case y_KEPT_WORDS => k_is)
    (case t_KEPT_WORDS => first | k_is | rfl | decide +kernel)
    (case e_MOST_LETTERS => k_is)
    (case t_MOST_LETTERS => first | k_is | rfl | decide +kernel)
    (case e_MOST_KEYS_ABOVE => k_is)
    (case t_MOST_KEYS_ABOVE => first | k_is | rfl | decide +kernel)
