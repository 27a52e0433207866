import PyProof.Rows.All
import Wide.All
import OpenK.AllK
import Wide.FinOn
import PyProof.EqAt
import PyProof.EqKinds
import PyProof.TupleCall
import Lean
import PyProof.Rows.SortRuns
import PySem.Syntax
import PyProof.NeKinds
import PyProof.WalkInts
import KE.KDictList
import PyProof.CompUse
import PyProof.StrWalks
import PyProof.EnumMake
import PyProof.EnumFor
import PyProof.StrCalls2
import PyProof.StrBlock2
import PyProof.StrBlockI
import PyProof.SliceStr2
import PyProof.ConsumeWalk
import PyProof.StrLawsJoin
import KE.KTryMore
import KE.KTryDeep
import OpenK.KOwn
import PyProof.ExcClass3
import KE.KIsAll
import PyProof.ExcArgsOwn
import PyProof.NsDelKeeps
import PyProof.ListRange
import PyProof.DictWalks
import KE.KEqDict
import PyProof.Rows.TupAdd
import PyProof.DictIter
import PyProof.AttrMissHeap
import PyProof.ZipIter
import PyProof.TupleIter
import PyProof.WalksMore
import PyProof.FactsAll.zip
import KE.KDictOf
import PySem.Challenge.RW_hookmill_k61_stock
set_option Elab.async false
set_option linter.all false
set_option autoImplicit false
set_option genSizeOfSpec false
set_option genInjectivity true
section
set_option Elab.async false
set_option maxRecDepth 100000
namespace L2
open PySem PySem.Spec PyProof.Rows
noncomputable abbrev Key:=Sum Int Str
noncomputable def keyIs : Key->Value->Bool
 | .inl k,v=>Value.isInt k v
 | .inr x,v=>Value.isStrOf x v
noncomputable def keyH (w : World) : Key->Int
 | .inl k=>hashInt k
 | .inr x=>hashStr w x
theorem keyIs_shape : ∀ {k : Key} {v : Value},keyIs k v = true->(∃ i t,k = Sum.inl i/\v = Value.int i t)\/(∃ x t,k = Sum.inr x/\v = Value.str x t)
 | .inl i,v,h=>by
  obtain ⟨t,e⟩:=Value.isInt_shape (k:=i) (v:=v) h
  exact .inl ⟨i,t,rfl,e⟩
 | .inr x,v,h=>by
  obtain ⟨t,e⟩:=Value.isStrOf_shape (x:=x) (v:=v) h
  exact .inr ⟨x,t,rfl,e⟩
theorem keyIs_int (i : Int) (t : Tok) : keyIs (.inl i) (.int i t) = true:=by simp [keyIs,Value.isInt]
theorem keyIs_str (x : Str) (t : Tok) : keyIs (.inr x) (.str x t) = true:=by simp [keyIs,Value.isStrOf]
theorem key_ll (a b : Int) : decide ((Sum.inl a : Key) = Sum.inl b) = (a == b):=by
 by_cases e : a = b
 ·subst e;simp
 ·have h : ¬ (Sum.inl a : Key) = Sum.inl b:=fun q=>e (Sum.inl.inj q)
  rw [decide_eq_false h]
  exact (beq_eq_false_iff_ne.mpr e).symm
theorem key_rr (a b : Str) : decide ((Sum.inr a : Key) = Sum.inr b) = decide (a = b):=by
 by_cases e : a = b
 ·subst e;simp
 ·have h : ¬ (Sum.inr a : Key) = Sum.inr b:=fun q=>e (Sum.inr.inj q)
  rw [decide_eq_false h,decide_eq_false e]
theorem key_lr (a : Int) (b : Str) : decide ((Sum.inl a : Key) = Sum.inr b) = false:=decide_eq_false (fun q=>nomatch q)
theorem key_rl (a : Str) (b : Int) : decide ((Sum.inr a : Key) = Sum.inl b) = false:=decide_eq_false (fun q=>nomatch q)
noncomputable def mixKind (prog : Program) (w : World) : PySem.KeyKind prog w Key where
 is:=keyIs
 hash:=keyH w
 inj:=fun v a b ha hb=>by
  rcases keyIs_shape ha with ⟨i,t,rfl,rfl⟩ | ⟨x,t,rfl,rfl⟩
  ·rcases keyIs_shape hb with ⟨j,u,rfl,e⟩ | ⟨y,u,rfl,e⟩
   ·injection e with e1 _;rw [e1]
   ·exact nomatch e
  ·rcases keyIs_shape hb with ⟨j,u,rfl,e⟩ | ⟨y,u,rfl,e⟩
   ·exact nomatch e
   ·injection e with e1 _;rw [e1]
 byValue:=fun k v h=>by
  rcases keyIs_shape h with ⟨i,t,rfl,rfl⟩ | ⟨x,t,rfl,rfl⟩ <;> rfl
 pyHash:=fun hv h=>by
  rcases keyIs_shape hv with ⟨i,t,rfl,rfl⟩ | ⟨x,t,rfl,rfl⟩
  ·exact wpAny_pyHash_int h
  ·exact wpAny_pyHash_str h
 eqBool:=fun hu hv h=>by
  rcases keyIs_shape hu with ⟨i,t,rfl,rfl⟩ | ⟨x,t,rfl,rfl⟩
  ·rcases keyIs_shape hv with ⟨j,u,rfl,rfl⟩ | ⟨y,u,rfl,rfl⟩
   ·rw [key_ll] at h;exact wpAny_eqBool_int h
   ·rw [key_lr] at h;exact SeqAt.EqAt.int_str i t y u _ _ _ _ h
  ·rcases keyIs_shape hv with ⟨j,u,rfl,rfl⟩ | ⟨y,u,rfl,rfl⟩
   ·rw [key_rl] at h;exact SeqAt.EqAt.str_int x t j u _ _ _ _ h
   ·rw [key_rr] at h;exact wpAny_eqBool_str h
 «strs»:=fun k x t v h=>by
  rcases keyIs_shape h with ⟨i,u,rfl,e⟩ | ⟨y,u,rfl,e⟩
  ·exact nomatch e
  ·injection e with e1 _
   subst e1
   cases v <;> rfl
theorem mixKind_int (prog : Program) (w : World) (i : Int) (t : Tok) : (mixKind prog w).is (.inl i) (.int i t) = true:=keyIs_int i t
theorem mixKind_str (prog : Program) (w : World) (x : Str) (t : Tok) : (mixKind prog w).is (.inr x) (.str x t) = true:=keyIs_str x t
end L2
namespace L2
open PySem PySem.Spec PyProof.Rows
inductive V where
 | non | bl (b : Bool) | int (i : Int) | str (x : Str) | byt (b : Array UInt8) | flt (b : UInt64) | ref (a : Addr) | ty (n : String)
 deriving DecidableEq
noncomputable def RelV : V->Value->Prop
 | .non,u=>u = Value.none
 | .bl b,u=>u = Value.bool b
 | .int i,u=>∃ t,u = Value.int i t
 | .str x,u=>∃ t,u = Value.str x t
 | .byt b,u=>∃ t,u = Value.bytes b t
 | .flt b,u=>∃ t,u = Value.float b t
 | .ref a,u=>u = Value.ref a
 | .ty n,u=>u = Value.type n
noncomputable abbrev Vals : List V->List Value->Prop:=Paired RelV
theorem Vals.length {xs : List V} {us : List Value} (r : Vals xs us) : xs.length = us.length:=Paired.length r
theorem Vals.get : ∀ {xs : List V} {us : List Value} {i : Nat} {x : V},Vals xs us->xs[i]? = some x->∃ u,us[i]? = some u/\RelV x u
 | _,_,_,_,.nil,e=>by simp at e
 | _,_,0,_,.cons r _,e=>by simp at e;subst e;exact ⟨_,rfl,r⟩
 | _,_,i + 1,x,.cons _ t,e=>by
  obtain ⟨u,h1,h2⟩:=Vals.get (i:=i) (x:=x) t (by simpa using e)
  exact ⟨u,by simpa using h1,h2⟩
theorem Vals.append : ∀ {xs ys : List V} {us ws : List Value},Vals xs us->Vals ys ws->Vals (xs ++ ys) (us ++ ws)
 | _,_,_,_,.nil,s=>s
 | _,_,_,_,.cons r t,s=>.cons r (Vals.append t s)
theorem Vals.take : ∀ {xs : List V} {us : List Value} (n : Nat),Vals xs us->Vals (xs.take n) (us.take n)
 | _,_,0,_=>.nil
 | _,_,_ + 1,.nil=>.nil
 | _,_,n + 1,.cons r t=>.cons r (Vals.take n t)
theorem Vals.drop : ∀ {xs : List V} {us : List Value} (n : Nat),Vals xs us->Vals (xs.drop n) (us.drop n)
 | _,_,0,r=>r
 | _,_,_ + 1,.nil=>.nil
 | _,_,n + 1,.cons _ t=>Vals.drop n t
noncomputable def RelO : Option V->Option Value->Prop
 | some v,some u=>RelV v u
 | none,none=>True
 | _,_=>False
noncomputable def KV {κ : Type} : List (κ × V)->List (κ × Value)->Prop:=Paired fun (p : κ × V) (q : κ × Value)=>p.1 = q.1/\RelV p.2 q.2
noncomputable def kV : Key->V
 | .inl i=>.int i
 | .inr x=>.str x
inductive HO where
 | lst (xs : List V)
 | tup (xs : List V)
 | dK (kvs : List (Key × V)) | dT (kvs : List (List Key × V))
 | set (S : Int->Bool) (n : Nat)
 | ins (C dx : Addr) (fs : List (Str × V))
 | own (x : Addr)
 | xd (fs : List (Str × V))
 | met (f x : Addr)
 | rng (lo hi : Int)
 | frz (o : Obj) (u : HO)
 | tbl (ps : Array Value)
 | ext (φ : Heap->Prop)
noncomputable abbrev Hp:=Addr->Option HO
noncomputable def upd (H : Hp) (a : Addr) (o : HO) : Hp:=fun b=>if b = a then some o else H b
theorem upd_same {H : Hp} {a : Addr} {o : HO} : upd H a o a = some o:=by unfold upd;rw [if_pos rfl]
theorem upd_ne {H : Hp} {a b : Addr} {o : HO} (h : b ≠ a) : upd H a o b = H b:=by unfold upd;rw [if_neg h]
theorem upd_upd {H : Hp} {a : Addr} {o u : HO} : upd (upd H a o) a u = upd H a u:=by
 funext b;unfold upd;split <;> rfl
theorem ne_of {H : Hp} {a b : Addr} {o u : HO} (h : H a = some o) (h' : H b = some u) (d : o ≠ u) : a ≠ b:=by
 intro e;subst e;rw [h] at h';exact d (Option.some.inj h')
theorem ne_of_none {H : Hp} {a b : Addr} {o : HO} (h : H a = some o) (h' : H b = none) : a ≠ b:=by
 intro e;subst e;rw [h] at h';cases h'
section
variable (P : Program) (w : World)
noncomputable def ObjOk (H : Hp) (h : Heap) (a : Addr) : HO->Prop
 | .lst xs=>xs.length<=sizeLine/\∃ (its : List Value) (n : Nat),Vals xs its/\h.get? a = some { cls:=.type "list",data:=.seq its.toArray n }
 | .tup xs=>xs.length<=sizeLine/\∃ its : List Value,Vals xs its/\IsTup h a its.toArray
 | .dK kvs=>kvs.length<=sizeLine/\(a == sysModules) = false/\∃ vs,KV kvs vs/\h.DictOf (mixKind P w) a vs
 | .dT kvs=>kvs.length<=sizeLine/\(a == sysModules) = false/\∃ xs : List (List Key × Addr × Value),
   Paired (fun (p : List Key × V) (q : List Key × Addr × Value)=>p.1 = q.1/\H q.2.1 = some (.tup (p.1.map kV))/\RelV p.2 q.2.2) kvs xs/\
   ∃ o es ep,h.get? a = some o/\o.ExactDict/\o.data = .dict es ep/\es.toList = xs.map (entryOfKey (tupleKind (mixKind P w)))/\(xs.map (·.1)).Nodup
 | .set S n=>h.SetOf (intKind P w) a S n
 | .ins C dx fs=>H dx = some (.own a)/\fs.length<=1000/\dx ≠ a/\h.get? a = some (PySem.W.instObj C dx)/\
   ∃ mA,h.Ns1 dx mA/\(∀ f,RelO (fs.lookup f) (mA f))/\PySem.Within mA (fs.map (·.1))
 | .own _=>∃ o,h.get? a = some o
 | .xd fs=>∃ mA,h.Ns1 a mA/\∀ f,RelO (fs.lookup f) (mA f)
 | .rng lo hi=>∃ t u v,h.get? a = some { cls:=.type "range",data:=.fields #[.int lo t,.int hi u,.int 1 v] }
 | .frz o u=>h.get? a = some o/\ObjOk H h a u
 | .tbl ps=>h.get? a = some { cls:=.none,data:=.fields ps }
 | .met f x=>h.get? a = some (PySem.W.methodObj (.ref f) (.ref x))
 | .ext φ=>φ h/\(∃ o,h.get? a = some o)/\∀ h1 h2 : Heap,φ h1->(∀ o,h1.get? a = some o->h2.get? a = some o)->φ h2
noncomputable def HOk (H : Hp) (h : Heap) : Prop:=∀ a o,H a = some o->ObjOk P w H h a o
end
section
variable {P : Program} {w : World} {H H' : Hp} {h h' : Heap} {a : Addr} {o : HO}
theorem ObjOk.lt (x : ObjOk P w H h a o) : a < h.objs.size:=by
 cases o with
 | lst xs=>obtain ⟨_,_,_,_,e⟩:=x;exact Heap.lt_size e
 | tup xs=>obtain ⟨_,_,_,p⟩:=x;exact p.lt
 | dK kvs=>obtain ⟨_,_,_,_,o,_,_,e,_⟩:=x;exact Heap.lt_size e
 | dT kvs=>obtain ⟨_,_,_,_,o,_,_,e,_⟩:=x;exact Heap.lt_size e
 | set S n=>obtain ⟨o,_,_,_,e,_⟩:=x;exact Heap.lt_size e
 | ins C dx fs=>obtain ⟨_,_,_,e,_⟩:=x;exact Heap.lt_size e
 | own y=>obtain ⟨_,e⟩:=x;exact Heap.lt_size e
 | xd fs=>obtain ⟨_,⟨_,_,_,e,_⟩,_⟩:=x;exact Heap.lt_size e
 | rng lo hi=>obtain ⟨_,_,_,e⟩:=x;exact Heap.lt_size e
 | frz ob u=>obtain ⟨e,_⟩:=x;exact Heap.lt_size e
 | tbl ps=>exact Heap.lt_size (show h.get? a = some _ from x)
 | met f y=>exact Heap.lt_size (show h.get? a = some _ from x)
 | ext φ=>obtain ⟨_,⟨_,e⟩,_⟩:=x;exact Heap.lt_size e
theorem Paired.mapP {α β : Type} {F G : α->β->Prop} : ∀ {l₁ : List α} {l₂ : List β},Paired F l₁ l₂->(∀ a b,F a b->G a b)->Paired G l₁ l₂
 | _,_,.nil,_=>.nil
 | _,_,.cons r t,f=>.cons (f _ _ r) (Paired.mapP t f)
theorem ObjOk.stay (x : ObjOk P w H h a o) (k : ∀ b u,(b = a\/H b = some (.own a))->h.get? b = some u->h'.get? b = some u)
  (ho : ∀ b,H b = some (.own a)->H' b = some (.own a)) (ht : ∀ b xs,H b = some (.tup xs)->H' b = some (.tup xs)) : ObjOk P w H' h' a o:=by
 induction o with
 | lst xs=>obtain ⟨z,its,n,r,e⟩:=x;exact ⟨z,its,n,r,k _ _ (.inl rfl) e⟩
 | tup xs=>obtain ⟨z,its,r,ob,e,c⟩:=x;exact ⟨z,its,r,ob,k _ _ (.inl rfl) e,c⟩
 | dK kvs=>obtain ⟨z,y,vs,r,ob,es,ep,e,c⟩:=x;exact ⟨z,y,vs,r,ob,es,ep,k _ _ (.inl rfl) e,c⟩
 | dT kvs=>
  obtain ⟨z,y,xs,r,ob,es,ep,e,c⟩:=x
  exact ⟨z,y,xs,Paired.mapP r fun p q z=>⟨z.1,ht _ _ z.2.1,z.2.2⟩,ob,es,ep,k _ _ (.inl rfl) e,c⟩
 | set S n=>obtain ⟨ob,es,ep,t,e,c⟩:=x;exact ⟨ob,es,ep,t,k _ _ (.inl rfl) e,c⟩
 | ins C dx fs=>
  obtain ⟨d,z,ne,e,mA,⟨od,es,ep,e2,c⟩,r⟩:=x
  exact ⟨ho _ d,z,ne,k _ _ (.inl rfl) e,mA,⟨od,es,ep,k _ _ (.inr d) e2,c⟩,r⟩
 | own y=>obtain ⟨ob,e⟩:=x;exact ⟨ob,k _ _ (.inl rfl) e⟩
 | xd fs=>obtain ⟨mA,⟨od,es,ep,e,c⟩,r⟩:=x;exact ⟨mA,⟨od,es,ep,k _ _ (.inl rfl) e,c⟩,r⟩
 | rng lo hi=>obtain ⟨t,u,v,e⟩:=x;exact ⟨t,u,v,k _ _ (.inl rfl) e⟩
 | frz ob u ih=>obtain ⟨e,q⟩:=x;exact ⟨k _ _ (.inl rfl) e,ih q⟩
 | tbl ps=>
  have e : h.get? a = some { cls:=.none,data:=.fields ps }:=x
  show h'.get? a = some { cls:=.none,data:=.fields ps }
  exact k a _ (.inl rfl) e
 | met f y=>
  have e : h.get? a = some (PySem.W.methodObj (.ref f) (.ref y)):=x
  show h'.get? a = some (PySem.W.methodObj (.ref f) (.ref y))
  exact k a _ (.inl rfl) e
 | ext φ=>obtain ⟨p,⟨o,e⟩,st⟩:=x;exact ⟨st _ _ p fun o q=>k _ _ (.inl rfl) q,⟨o,k _ _ (.inl rfl) e⟩,st⟩
theorem HOk.lt (x : HOk P w H h) (e : H a = some o) : a < h.objs.size:=(x a o e).lt
theorem HOk.fresh (x : HOk P w H h) (e : h.objs.size<=a) : H a = none:=by
 cases q : H a with
 | none=>rfl
 | some u=>exact absurd (Nat.lt_of_lt_of_le (x.lt q) e) (Nat.lt_irrefl _)
theorem HOk.kept (x : HOk P w H h) (k : ∀ b u,h.get? b = some u->h'.get? b = some u) : HOk P w H h':=fun a o e=>
 (x a o e).stay (fun b u _ q=>k b u q) (fun _ q=>q) fun _ _ q=>q
theorem HOk.laid (x : HOk P w H h) (k : ∀ b u,h.get? b = some u->h'.get? b = some u) (hp : h.objs.size<=a) (new : ObjOk P w (upd H a o) h' a o) : HOk P w (upd H a o) h':=fun b u e=>by
 have hn:=x.fresh hp
 by_cases hb : b = a
 ·subst hb;rw [upd_same] at e;cases e;exact new
 ·rw [upd_ne hb] at e
  exact (x b u e).stay (fun c v _ q=>k c v q) (fun c q=>by rw [upd_ne (ne_of_none q hn)];exact q) fun c xs q=>by rw [upd_ne (ne_of_none q hn)];exact q
end
noncomputable def Rd (H : Hp) (a : Addr) (u : HO) : Prop:=H a = some u\/∃ o,H a = some (.frz o u)
theorem Rd.ok {P : Program} {w : World} {H : Hp} {h : Heap} {a : Addr} {u : HO} (r : Rd H a u) (x : HOk P w H h) : ObjOk P w H h a u:=by
 rcases r with r | ⟨o,r⟩
 ·exact x a u r
 ·obtain ⟨_,q⟩:=x a _ r
  exact q
noncomputable def Mut : Option HO->Prop
 | some (.lst _)=>True
 | some (.dK _)=>True
 | some (.dT _)=>True
 | some (.set _ _)=>True
 | some (.ins _ _ _)=>True
 | some (.ext _)=>True
 | _=>False
section
variable {P : Program} {w : World} {H : Hp} {h h' : Heap} {x e : Addr} {o' : HO}
theorem HOk.write (ok : HOk P w H h) (mu : Mut (H x)) (he : e = x\/H e = some (.own x)) (k : ∀ b u,b ≠ e->h.get? b = some u->h'.get? b = some u) (heo : ∃ u,h'.get? e = some u)
  (new : ObjOk P w (upd H x o') h' x o') : HOk P w (upd H x o') h':=fun b u q=>by
 have nown : ∀ c y,H c = some (.own y)->c ≠ x:=fun c y r z=>by subst z;rw [r] at mu;exact mu
 have ntup : ∀ c xs,H c = some (.tup xs)->c ≠ x:=fun c xs r z=>by subst z;rw [r] at mu;exact mu
 by_cases hb : b = x
 ·subst hb;rw [upd_same] at q;cases q;exact new
 ·rw [upd_ne hb] at q
  by_cases hbe : b = e
  ·have q' : H b = some (.own x):=by
    rcases he with z | z
    ·exact absurd (hbe.trans z) hb
    ·rw [hbe];exact z
   rw [q] at q';cases q'
   obtain ⟨v,hv⟩:=heo
   exact ⟨v,by rw [hbe];exact hv⟩
  ·refine (ok b u q).stay (fun c v hc r=>k c v ?_ r) (fun c r=>by rw [upd_ne (nown c b r)];exact r) fun c xs r=>by rw [upd_ne (ntup c xs r)];exact r
   rcases hc with rfl | hc
   ·exact hbe
   ·rintro rfl
    rcases he with z | z
    ·exact nown c b hc z
    ·rw [hc] at z;cases z;exact hb rfl
end
structure Un (fs ex : List Addr) (H H' : Hp) (h h' : Heap) : Prop where
 keep : ∀ b o,h.get? b = some o->H b = none->b ∉ fs->b ∉ ex->h'.get? b = some o
 slot : ∀ b o,h.get? b = some o->H b = none->b ∈ fs->b ∉ ex->∃ sl,h'.get? b = some { o with slots:=sl }
 free : ∀ b o,h.get? b = some o->H b = none->b ∉ ex->H' b = none
 there : ∀ b o,h.get? b = some o->b ∉ ex->∃ o',h'.get? b = some o'
 tups : ∀ b xs,H b = some (.tup xs)->H' b = some (.tup xs)
 frzs : ∀ b o u,H b = some (.frz o u)->H' b = some (.frz o u)
 tbls : ∀ b ps,H b = some (.tbl ps)->∃ more,H' b = some (.tbl (ps ++ more))
section
variable {fs fs' ex ex' : List Addr} {H H1 H2 : Hp} {h h1 h2 h' : Heap} {a x e : Addr} {o : HO}
theorem Un.any (u : Un fs ex H H1 h h1) {b : Addr} {ob : Obj} (q : h.get? b = some ob) (n : H b = none) (hx : b ∉ ex) : ∃ sl,h1.get? b = some { ob with slots:=sl }:=by
 by_cases hb : b ∈ fs
 ·exact u.slot b ob q n hb hx
 ·exact ⟨ob.slots,u.keep b ob q n hb hx⟩
theorem Un.kept (k : ∀ b u,h.get? b = some u->h'.get? b = some u) : Un fs ex H H h h':=
 ⟨fun b ob q _ _ _=>k b ob q,fun b ob q _ _ _=>⟨ob.slots,k b ob q⟩,fun _ _ _ n _=>n,fun b ob q _=>⟨ob,k b ob q⟩,fun _ _ q=>q,fun _ _ _ q=>q,fun _ ps q=>⟨#[],by rw [q];simp⟩⟩
theorem Un.refl : Un fs ex H H h h:=Un.kept fun _ _ q=>q
theorem Un.laid (k : ∀ b u,h.get? b = some u->h'.get? b = some u) (hp : h.objs.size<=a) (hn : H a = none) : Un fs ex H (upd H a o) h h' where
 keep:=fun b u q _ _ _=>k b u q
 slot:=fun b u q _ _ _=>⟨u.slots,k b u q⟩
 free:=fun b u q n _=>by rw [upd_ne (Nat.ne_of_lt (Nat.lt_of_lt_of_le (Heap.lt_size q) hp))];exact n
 there:=fun b u q _=>⟨u,k b u q⟩
 tups:=fun b xs q=>by rw [upd_ne (ne_of_none q hn)];exact q
 frzs:=fun b u xs q=>by rw [upd_ne (ne_of_none q hn)];exact q
 tbls:=fun b ps q=>⟨#[],by rw [upd_ne (ne_of_none q hn),q];simp⟩
theorem Un.write (mu : Mut (H x)) (he : e = x\/H e = some (.own x)) (k : ∀ b u,b ≠ e->h.get? b = some u->h'.get? b = some u) (heo : ∃ u,h'.get? e = some u) : Un fs ex H (upd H x o) h h':=by
 have hx : ∀ b,H b = none->b ≠ x:=fun b n z=>by subst z;rw [n] at mu;exact mu
 have hb : ∀ b,H b = none->b ≠ e:=fun b n z=>by
  subst z
  rcases he with r | r
  ·exact hx b n r
  ·rw [n] at r;cases r
 have hm : ∀ b u,H b = some u->¬ Mut (some u)->b ≠ x:=fun b u q nm z=>by subst z;rw [q] at mu;exact nm mu
 refine ⟨fun b u q n _ _=>k b u (hb b n) q,fun b u q n _ _=>⟨u.slots,k b u (hb b n) q⟩,fun b u q n _=>by rw [upd_ne (hx b n)];exact n,fun b u q _=>?_,
  fun b xs q=>by rw [upd_ne (hm b _ q fun z=>z)];exact q,fun b u xs q=>by rw [upd_ne (hm b _ q fun z=>z)];exact q,fun b ps q=>⟨#[],by rw [upd_ne (hm b _ q fun z=>z),q];simp⟩⟩
 by_cases hbe : b = e
 ·subst hbe;exact heo
 ·exact ⟨u,k b u hbe q⟩
end
noncomputable def trk (h : Heap) (H : Hp) : List Addr:=(List.range h.objs.size).filter fun a=>(H a).isSome
noncomputable def hidT (h : Heap) (H : Hp) : Heap:=PySem.W.hideAll h (trk h H)
theorem hidT_size (h : Heap) (H : Hp) : (hidT h H).objs.size = h.objs.size:=PySem.W.hideAll_size _ _
theorem hidT_get {h : Heap} {H : Hp} {b : Addr} {o : Obj} (e : h.get? b = some o) (n : H b = none) : (hidT h H).get? b = some o:=
 PySem.W.hideAll_get _ e fun hm=>by
  have q : (H b).isSome = true:=(List.mem_filter.mp hm).2
  rw [n] at q;simp at q
theorem of_hidT {h : Heap} {H : Hp} {b : Addr} {o : Obj} (e : (hidT h H).get? b = some o) : h.get? b = some o/\H b = none:=by
 have e' : h.get? b = some o:=PySem.W.of_hideAll (trk h H) e
 refine ⟨e',?_⟩
 cases q : H b with
 | none=>rfl
 | some x=>
  have hm : b ∈ trk h H:=List.mem_filter.mpr ⟨List.mem_range.mpr (Heap.lt_size e'),by simp [q]⟩
  have z : (hidT h H).get? b = none:=PySem.W.hideAll_none (trk h H) hm
  rw [z] at e;cases e
end L2
namespace L2
open PySem PySem.Spec PyProof.Rows
structure Mod (K : PySem.W.Frag) (mg : Str->Option Value) (base : Heap) : Prop where
 kin : K.In base
 glob : base.Ns mainGlobals mg
 blt : ∃ mb,base.Ns builtinsNs mb/\∀ x : Str,x ≠ "__name__"->mb x = bootBuiltins x
 nolimit : base.NoLimit
/-- the context: a def's body (or a comprehension's block) running. base: fixed through the whole law; s₀, H₀: the entry; outer: the frames whose slots others may change (a def's callers); stack: all frames that run;
   ex: iterators that were made ahead of the entry and are walked here (a comprehension's); fn: the names whose cells were made at the entry (a def: all; a comprehension's block: its own); calm: not within an except suite; pn: pins that every state bears; xe: what is wanted of an exception that leaves the code -/
structure Cx where
 prog : Program
 w : World
 K : PySem.W.Frag
 mg : Str->Option Value
 base : Heap
 A : Around
 N : List Str
 s₀ : Shared
 H₀ : Hp
 env : Env
 outer : List Env
 stack : List Env
 ex : List Addr
 fn : Str->Bool
 calm : Bool
 pn : List (Addr × Obj)
 xe : Value->Shared->Prop
noncomputable def frs (l : List Env) : List Addr:=l.filterMap (·.frame)
noncomputable abbrev Cx.fs (X : Cx) : List Addr:=frs X.outer
noncomputable def Vis (sc : Scope) (x : Str) : Prop:=sc.names.lookup x = some .local\/sc.names.lookup x = some .cell\/sc.names.lookup x = some .free
noncomputable def Loc (sc : Scope) (x : Str) : Prop:=sc.names.lookup x = some .local\/sc.names.lookup x = some .cell
noncomputable def Look (env : Env) (h : Heap) (m : Str->Option Value) (x : Str) (u : Value) : Prop:=
 (env.kindOf x = some .local/\m x = some u)\/((env.kindOf x = some .cell\/env.kindOf x = some .free)/\∃ c,env.cells.lookup x = some c/\h.IsCell c (some u))
structure Cx.Ok (X : Cx) : Prop where
 mod : Mod X.K X.mg X.base
 kind : X.env.scope.kind = .function
 glob : X.env.globals = mainGlobals
 blt : X.env.builtins = builtinsNs
 above : X.s₀.heap.objs.size<=X.env.locals
 inj : ∀ x y c,X.env.cells.lookup x = some c->X.env.cells.lookup y = some c->x = y
 has : ∀ x,(X.env.kindOf x = some .cell\/X.env.kindOf x = some .free)->∃ c,X.env.cells.lookup x = some c
 cab : ∀ x c,X.fn x = true->X.env.cells.lookup x = some c->X.s₀.heap.objs.size<=c
 hd : X.calm = true->X.A.handled = none
 frames : X.A.frames = some X.stack
 stk : X.stack = X.outer\/(X.stack = X.env :: X.outer/\X.env.frame = some X.env.locals)
 exf : ∀ b ∈ X.ex,b ≠ X.env.locals/\∀ x c,X.env.cells.lookup x = some c->c ≠ b
 bs : ∀ b o,X.base.get? b = some o->X.s₀.heap.get? b = some o/\X.H₀ b = none
 bsz : X.base.objs.size<=X.s₀.heap.objs.size
 noex : ∀ b o,X.base.get? b = some o->b ∉ X.ex
 exfs : ∀ b ∈ X.ex,b ∉ X.fs
 funs : X.s₀.heap.FunFrames X.base X.outer
 frf : ∀ b ∈ X.fs,X.H₀ b = none
structure Inv (X : Cx) (pins : List (Addr × Obj)) (σ : List (Option V)) (H : Hp) (s : Shared) : Prop where
 ok : X.Ok
 os : s.os = X.s₀.os
 bare : AllBare s.gens
 base : Un X.fs X.ex X.H₀ H X.s₀.heap s.heap
 loc : ∃ m,s.heap.Ns X.env.locals m/\∀ (i : Nat) (x : Str) (v : V),X.N[i]? = some x->σ[i]? = some (some v)->Vis X.env.scope x->∃ u,RelV v u/\Look X.env s.heap m x u
 cell : ∀ x c,X.env.cells.lookup x = some c->∃ v,s.heap.IsCell c v
 free : H X.env.locals = none
 freeC : ∀ x c,X.env.cells.lookup x = some c->H c = none
 pin : ∀ p ∈ X.pn ++ pins,s.heap.get? p.1 = some p.2/\H p.1 = none/\p.1 ≠ X.env.locals/\p.1 ∉ X.fs/\∀ v,p.2.data ≠ .cell v
 hok : HOk X.prog X.w H s.heap
 len : σ.length = X.N.length
section
variable {X : Cx} {pins : List (Addr × Obj)} {σ : List (Option V)} {H H' : Hp} {s : Shared} {h' : Heap}
theorem Cx.Ok.nofr (ok : X.Ok) {b : Addr} {o : Obj} (e : X.base.get? b = some o) : b ∉ X.fs:=fun hb=>by
 have:=(ok.funs.mem hb).1
 rw [e] at this;cases this
theorem Inv.bs (I : Inv X pins σ H s) : ∀ b o,X.base.get? b = some o->s.heap.get? b = some o/\H b = none:=fun b o e=>
 ⟨I.base.keep b o (I.ok.bs b o e).1 (I.ok.bs b o e).2 (I.ok.nofr e) (I.ok.noex b o e),I.base.free b o (I.ok.bs b o e).1 (I.ok.bs b o e).2 (I.ok.noex b o e)⟩
theorem Inv.bk (I : Inv X pins σ H s) : ∀ b o,X.base.get? b = some o->s.heap.get? b = some o:=fun b o e=>(I.bs b o e).1
theorem Inv.mod (I : Inv X pins σ H s) : Mod X.K X.mg X.base:=I.ok.mod
theorem Inv.kIn (I : Inv X pins σ H s) : X.K.In s.heap:=I.ok.mod.kin.keeps I.bk
theorem Inv.lt (I : Inv X pins σ H s) : X.env.locals < s.heap.objs.size:=let ⟨_,hn,_⟩:=I.loc;hn.lt
theorem Inv.sz (I : Inv X pins σ H s) : X.s₀.heap.objs.size<=s.heap.objs.size:=Nat.le_trans I.ok.above (Nat.le_of_lt I.lt)
theorem Inv.nofs (I : Inv X pins σ H s) {a : Addr} (h : s.heap.objs.size<=a) : a ∉ X.fs:=fun hb=>by
 obtain ⟨_,o,ho,_⟩:=I.ok.funs.mem hb
 exact absurd (Nat.lt_of_lt_of_le (Heap.lt_size ho) (Nat.le_trans I.sz h)) (Nat.lt_irrefl _)
theorem Inv.cne (I : Inv X pins σ H s) : ∀ x c,X.env.cells.lookup x = some c->c ≠ X.env.locals:=fun x c e z=>by
 obtain ⟨v,o,ho,hd⟩:=I.cell x c e
 obtain ⟨m,⟨o',es,ep,ho',hd',_⟩,_⟩:=I.loc
 rw [z,ho'] at ho;cases ho;rw [hd'] at hd;cases hd
theorem Inv.funs (I : Inv X pins σ H s) : s.heap.FunFrames X.base X.outer:=by
 have all : ∀ (l : List Env),(∀ b ∈ frs l,b ∈ X.fs)->X.s₀.heap.FunFrames X.base l->s.heap.FunFrames X.base l:=by
  intro l
  induction l with
  | nil=>intro _ _;trivial
  | cons env r ih=>
   intro hs hl
   obtain ⟨hk,⟨L,o,hf,hn,ho,hd⟩,hr⟩:=hl
   have hL : L ∈ X.fs:=hs L (by unfold frs;rw [List.filterMap_cons,hf];exact List.mem_cons_self)
   obtain ⟨sl,e⟩:=I.base.slot L o ho (I.ok.frf L hL) hL fun z=>I.ok.exfs L z hL
   exact ⟨hk,⟨L,_,hf,hn,e,hd⟩,ih (fun b hb=>hs b (by unfold frs;rw [List.filterMap_cons,hf];exact List.mem_cons_of_mem _ hb)) hr⟩
 exact all X.outer (fun _ hb=>hb) I.ok.funs
theorem Inv.stack (I : Inv X pins σ H s) : s.heap.FunFrames X.base X.stack:=by
 rcases I.ok.stk with e | ⟨e,hf⟩
 ·rw [e];exact I.funs
 ·rw [e]
  obtain ⟨m,hn,_⟩:=I.loc
  refine .cons (by rw [I.ok.kind];decide) hf hn ?_ I.funs
  exact Heap.get?_none_of_le (Nat.le_trans I.ok.bsz I.ok.above)
theorem Inv.stkSub (I : Inv X pins σ H s) : ∀ b ∈ frs X.stack,b ∈ X.env.locals :: X.fs:=fun b hb=>by
 rcases I.ok.stk with e | ⟨e,hf⟩
 ·rw [e] at hb;exact List.mem_cons_of_mem _ hb
 ·rw [e] at hb
  unfold frs at hb
  rw [List.filterMap_cons,hf] at hb
  exact hb
theorem Inv.stkFree (I : Inv X pins σ H s) : ∀ b ∈ frs X.stack,H b = none:=fun b hb=>by
 rcases List.mem_cons.mp (I.stkSub b hb) with e | hb
 ·rw [e];exact I.free
 ·obtain ⟨_,o,ho,_⟩:=I.ok.funs.mem hb
  exact I.base.free b o ho (I.ok.frf b hb) fun z=>I.ok.exfs b z hb
theorem Inv.step {g' : Array GenState} {t' : Nat} {d' : Drawn} {ch : List Addr} (I : Inv X pins σ H s)
  (hch : ∀ b ∈ ch,(b ∈ X.ex\/X.s₀.heap.objs.size<=b)/\b ≠ X.env.locals/\(∀ x c,X.env.cells.lookup x = some c->c ≠ b)/\∀ p ∈ X.pn ++ pins,p.1 ≠ b)
  (keep : ∀ b o,b ≠ X.env.locals->b ∉ X.fs->b ∉ ch->s.heap.get? b = some o->H b = none->h'.get? b = some o)
  (slot : ∀ b o,b ≠ X.env.locals->b ∈ X.fs->b ∉ ch->s.heap.get? b = some o->H b = none->∃ sl,h'.get? b = some { o with slots:=sl }) (free : ∀ b o,b ∉ ch->s.heap.get? b = some o->H b = none->H' b = none)
  (there : ∀ b o,b ∉ ch->s.heap.get? b = some o->∃ o',h'.get? b = some o')
  (tups : ∀ b xs,H b = some (.tup xs)->H' b = some (.tup xs)) (frzs : ∀ b o u,H b = some (.frz o u)->H' b = some (.frz o u)) (tbls : ∀ b ps,H b = some (.tbl ps)->∃ more,H' b = some (.tbl (ps ++ more)))
  (ns : ∀ m,s.heap.Ns X.env.locals m->h'.Ns X.env.locals m) (hok : HOk X.prog X.w H' h') (hg : AllBare g') :
  Inv X pins σ H' { s with heap:=h',gens:=g',drawn:=d',toks:=t' }:=by
 have neL : ∀ b o,X.s₀.heap.get? b = some o->b ≠ X.env.locals:=fun b o e=>Nat.ne_of_lt (Nat.lt_of_lt_of_le (Heap.lt_size e) I.ok.above)
 have neC : ∀ b o,X.s₀.heap.get? b = some o->b ∉ X.ex->b ∉ ch:=fun b o e hx hb=>by
  rcases (hch b hb).1 with z | z
  ·exact hx z
  ·exact absurd (Nat.lt_of_lt_of_le (Heap.lt_size e) z) (Nat.lt_irrefl _)
 have cellK : ∀ x c,X.env.cells.lookup x = some c->∀ v,s.heap.IsCell c v->h'.IsCell c v:=fun x c e v ⟨o,ho,hd⟩=>by
  have nch : c ∉ ch:=fun z=>(hch c z).2.2.1 x c e rfl
  by_cases hc : c ∈ X.fs
  ·obtain ⟨sl,q⟩:=slot c o (I.cne x c e) hc nch ho (I.freeC x c e)
   exact ⟨_,q,hd⟩
  ·exact ⟨o,keep c o (I.cne x c e) hc nch ho (I.freeC x c e),hd⟩
 refine ⟨I.ok,I.os,hg,⟨fun b o e n hb hx=>?_,fun b o e n hb hx=>?_,fun b o e n hx=>?_,fun b o e hx=>?_,fun b xs e=>tups b xs (I.base.tups b xs e),fun b o xs e=>frzs b o xs (I.base.frzs b o xs e),fun b ps e=>?_⟩,?_,fun x c e=>?_,?_,fun x c e=>?_,fun p hp=>?_,hok,I.len⟩
 ·exact keep b o (neL b o e) hb (neC b o e hx) (I.base.keep b o e n hb hx) (I.base.free b o e n hx)
 ·obtain ⟨sl,e1⟩:=I.base.slot b o e n hb hx
  obtain ⟨sl',e2⟩:=slot b _ (neL b o e) hb (neC b o e hx) e1 (I.base.free b o e n hx)
  exact ⟨sl',e2⟩
 ·obtain ⟨o',e1⟩:=I.base.there b o e hx
  exact free b o' (neC b o e hx) e1 (I.base.free b o e n hx)
 ·obtain ⟨o',e1⟩:=I.base.there b o e hx
  exact there b o' (neC b o e hx) e1
 ·obtain ⟨m1,e1⟩:=I.base.tbls b ps e
  obtain ⟨m2,e2⟩:=tbls b _ e1
  exact ⟨m1 ++ m2,by rw [e2,Array.append_assoc]⟩
 ·obtain ⟨m,hn,hl⟩:=I.loc
  refine ⟨m,ns m hn,fun i x v e1 e2 e3=>?_⟩
  obtain ⟨u,r,l⟩:=hl i x v e1 e2 e3
  refine ⟨u,r,?_⟩
  rcases l with l | ⟨k,c,e,z⟩
  ·exact .inl l
  ·exact .inr ⟨k,c,e,cellK x c e _ z⟩
 ·obtain ⟨v,z⟩:=I.cell x c e
  exact ⟨v,cellK x c e v z⟩
 ·obtain ⟨m,⟨o,_,_,ho,_⟩,_⟩:=I.loc
  exact free _ o (fun z=>(hch _ z).2.1 rfl) ho I.free
 ·obtain ⟨v,o,ho,hd⟩:=I.cell x c e
  exact free c o (fun z=>(hch c z).2.2.1 x c e rfl) ho (I.freeC x c e)
 ·obtain ⟨e,n,ne,nf,d⟩:=I.pin p hp
  have nch : p.1 ∉ ch:=fun z=>(hch p.1 z).2.2.2 p hp rfl
  exact ⟨keep p.1 p.2 ne nf nch e n,free p.1 p.2 nch e n,ne,nf,d⟩
theorem Inv.un {t' : Nat} (I : Inv X pins σ H s) (u : Un X.fs [] H H' s.heap h') (hok : HOk X.prog X.w H' h') : Inv X pins σ H' { s with heap:=h',toks:=t' }:=by
 obtain ⟨m,⟨o,es,ep,ho,r⟩,_⟩:=id I.loc
 obtain ⟨sl,hL⟩:=u.any ho I.free (by simp)
 exact I.step (g':=s.gens) (d':=s.drawn) (ch:=[]) (fun _ z=>nomatch z) (fun b o _ hb _ e n=>u.keep b o e n hb (by simp)) (fun b o _ hb _ e n=>u.slot b o e n hb (by simp)) (fun b o _ e n=>u.free b o e n (by simp)) (fun b o _ e=>u.there b o e (by simp)) u.tups u.frzs u.tbls (fun m' hm=>by
  obtain ⟨o',es',ep',ho',r'⟩:=hm
  rw [ho] at ho';cases ho'
  exact ⟨_,es',ep',hL,r'⟩) hok I.bare
theorem Inv.call {g' : Array GenState} {t' : Nat} {d' : Drawn} {ch : List Addr} (I : Inv X pins σ H s) (u : Un (frs X.stack) ch H H' s.heap h') (hok : HOk X.prog X.w H' h') (hg : AllBare g')
  (hch : ∀ b ∈ ch,(b ∈ X.ex\/X.s₀.heap.objs.size<=b)/\b ≠ X.env.locals/\(∀ x c,X.env.cells.lookup x = some c->c ≠ b)/\∀ p ∈ X.pn ++ pins,p.1 ≠ b) :
  Inv X pins σ H' { s with heap:=h',gens:=g',drawn:=d',toks:=t' }:=by
 obtain ⟨m,⟨o,es,ep,ho,r⟩,_⟩:=id I.loc
 obtain ⟨sl,hL⟩:=u.any ho I.free fun z=>(hch _ z).2.1 rfl
 exact I.step (ch:=ch) hch (fun b o hL hb hc e n=>u.keep b o e n (fun z=>(List.mem_cons.mp (I.stkSub b z)).elim hL hb) hc) (fun b o _ _ hc e n=>u.any e n hc) (fun b o hc e n=>u.free b o e n hc) (fun b o hc e=>u.there b o e hc) u.tups u.frzs u.tbls (fun m' hm=>by
  obtain ⟨o',es',ep',ho',r'⟩:=hm
  rw [ho] at ho';cases ho'
  exact ⟨_,es',ep',hL,r'⟩) hok hg
theorem Inv.turned {t' : Nat} {it : Addr} (I : Inv X pins σ H s) (k : ∀ b o,b ≠ it->s.heap.get? b = some o->h'.get? b = some o) (hn : H it = none) (hL : it ≠ X.env.locals)
  (h1 : it ∈ X.ex\/X.s₀.heap.objs.size<=it) (h2 : ∀ x c,X.env.cells.lookup x = some c->c ≠ it) (h3 : ∀ p ∈ X.pn ++ pins,p.1 ≠ it) : Inv X pins σ H { s with heap:=h',toks:=t' }:=by
 have nit : ∀ b u,H b = some u->b ≠ it:=fun b u e z=>by rw [z,hn] at e;cases e
 refine I.step (g':=s.gens) (d':=s.drawn) (ch:=[it]) (fun b hb=>?_) (fun b o _ _ hc e _=>k b o (fun z=>hc (by simp [z])) e) (fun b o _ _ hc e _=>⟨o.slots,k b o (fun z=>hc (by simp [z])) e⟩) (fun _ _ _ _ n=>n)
  (fun b o hc e=>⟨o,k b o (fun z=>hc (by simp [z])) e⟩) (fun _ _ e=>e) (fun _ _ _ e=>e) (fun b ps e=>⟨#[],by rw [e];simp⟩) (fun m hm=>?_) (fun b u e=>?_) I.bare
 ·have e : b = it:=by simpa using hb
  subst e
  exact ⟨h1,hL,h2,h3⟩
 ·obtain ⟨o,es,ep,ho,r⟩:=hm
  exact ⟨o,es,ep,k _ o (Ne.symm hL) ho,r⟩
 ·refine (I.hok b u e).stay (fun c v hc q=>k c v ?_ q) (fun _ q=>q) fun _ _ q=>q
  rcases hc with z | z
  ·rw [z];exact nit b u e
  ·exact nit c _ z
theorem Inv.tok (I : Inv X pins σ H s) (t : Nat) : Inv X pins σ H { s with toks:=t }:=I.un (h':=s.heap) (t':=t) Un.refl I.hok
theorem Inv.kept {t' : Nat} (I : Inv X pins σ H s) (k : ∀ b u,s.heap.get? b = some u->h'.get? b = some u) : Inv X pins σ H { s with heap:=h',toks:=t' }:=I.un (Un.kept k) (I.hok.kept k)
theorem Inv.laid {a : Addr} {o : HO} {t' : Nat} (I : Inv X pins σ H s) (k : ∀ b u,s.heap.get? b = some u->h'.get? b = some u) (hp : s.heap.objs.size<=a) (new : ObjOk X.prog X.w (upd H a o) h' a o) :
  Inv X pins σ (upd H a o) { s with heap:=h',toks:=t' }:=I.un (Un.laid k hp (I.hok.fresh hp)) (I.hok.laid k hp new)
theorem Inv.write {x e : Addr} {o : HO} {t' : Nat} (I : Inv X pins σ H s) (mu : Mut (H x)) (he : e = x\/H e = some (.own x)) (k : ∀ b u,b ≠ e->s.heap.get? b = some u->h'.get? b = some u) (heo : ∃ u,h'.get? e = some u)
  (new : ObjOk X.prog X.w (upd H x o) h' x o) : Inv X pins σ (upd H x o) { s with heap:=h',toks:=t' }:=I.un (Un.write mu he k heo) (I.hok.write mu he k heo new)
theorem Inv.weak {σ' : List (Option V)} (I : Inv X pins σ H s) (hl : σ'.length = σ.length) (w : ∀ (i : Nat) v,σ'[i]? = some (some v)->σ[i]? = some (some v)) : Inv X pins σ' H s:=
 ⟨I.ok,I.os,I.bare,I.base,let ⟨m,hn,hl'⟩:=I.loc;⟨m,hn,fun i x v e1 e2 e3=>hl' i x v e1 (w i v e2) e3⟩,I.cell,I.free,I.freeC,I.pin,I.hok,hl.trans I.len⟩
theorem Inv.pins_of {pins' : List (Addr × Obj)} (I : Inv X pins σ H s) (h : ∀ p ∈ pins',s.heap.get? p.1 = some p.2/\H p.1 = none/\p.1 ≠ X.env.locals/\p.1 ∉ X.fs/\∀ v,p.2.data ≠ .cell v) : Inv X pins' σ H s:=
 ⟨I.ok,I.os,I.bare,I.base,I.loc,I.cell,I.free,I.freeC,fun p hp=>(List.mem_append.mp hp).elim (fun z=>I.pin p (List.mem_append_left _ z)) (h p),I.hok,I.len⟩
theorem nodup_ix {N : List Str} (hN : N.Nodup) {i j : Nat} {x : Str} (a : N[i]? = some x) (b : N[j]? = some x) : i = j:=by
 obtain ⟨h1,e1⟩:=List.getElem?_eq_some_iff.mp a
 obtain ⟨h2,e2⟩:=List.getElem?_eq_some_iff.mp b
 exact (List.getElem_inj hN).mp (e1.trans e2.symm)
theorem store_ok2 {M : Model} {A : Around} {E : Value->Shared->Prop} {i : Nat} {x : Str} {v : V} {u : Value} {Q : Unit->Shared->Prop} (I : Inv X pins σ H s) (hN : X.N.Nodup) (hi : X.N[i]? = some x) (hx : Loc X.env.scope x) (r : RelV v u)
  (h : ∀ s',Inv X pins (σ.set i (some v)) H s'->(∃ a,Heap.SameBut a s.heap s'.heap/\(a = X.env.locals\/X.env.cells.lookup x = some a))->Q () s') (hf : X.fn x = true\/X.env.scope.names.lookup x = some .local:=by first | exact .inl rfl | exact .inr rfl | assumption) : wpAny M A (storeName X.env x u) Q E s:=by
 obtain ⟨m,hn,hl⟩:=id I.loc
 have hcls : (X.env.scope.kind == .class || (X.env.scope.kind == .module && X.env.locals != X.env.globals)) = false:=by rw [I.ok.kind];rfl
 have hiσ : i < σ.length:=by rw [I.len];exact (List.getElem?_eq_some_iff.mp hi).1
 have cne:=I.cne
 have tracked : ∀ {a : Addr} {h' : Heap},(∃ o,s.heap.get? a = some o/\H a = none)->Heap.SameBut a s.heap h'->HOk X.prog X.w H h':=fun {a h'} ha hs b ob e=>by
  obtain ⟨_,_,hfree⟩:=ha
  refine (I.hok b ob e).stay (fun c w' hc q=>(hs.2 c ?_).trans q) (fun _ q=>q) fun _ _ q=>q
  rintro rfl
  rcases hc with rfl | hc
  ·rw [hfree] at e;cases e
  ·rw [hfree] at hc;cases hc
 rcases hx with hk | hk
 ·refine wpAny_storeName_local hk hn (fun h' hn' hs=>?_) hcls
  obtain ⟨oL,_,_,hoL,_⟩:=id hn
  refine h _ ⟨I.ok,I.os,I.bare,⟨fun b o e n hb hx=>?_,fun b o e n hb hx=>?_,I.base.free,fun b o e hx=>?_,I.base.tups,I.base.frzs,I.base.tbls⟩,⟨_,hn',fun j y v' e1 e2 e3=>?_⟩,fun y c e=>?_,I.free,I.freeC,fun p hp=>?_,tracked ⟨oL,hoL,I.free⟩ hs,by simpa using I.len⟩ ⟨_,hs,.inl rfl⟩
  ·exact (hs.2 b (Nat.ne_of_lt (Nat.lt_of_lt_of_le (Heap.lt_size e) I.ok.above))).trans (I.base.keep b o e n hb hx)
  ·obtain ⟨sl,e1⟩:=I.base.slot b o e n hb hx
   exact ⟨sl,(hs.2 b (Nat.ne_of_lt (Nat.lt_of_lt_of_le (Heap.lt_size e) I.ok.above))).trans e1⟩
  ·obtain ⟨o',e1⟩:=I.base.there b o e hx
   exact ⟨o',(hs.2 b (Nat.ne_of_lt (Nat.lt_of_lt_of_le (Heap.lt_size e) I.ok.above))).trans e1⟩
  ·by_cases hj : j = i
   ·subst hj
    rw [hi] at e1;cases e1
    rw [List.getElem?_set_self hiσ] at e2
    cases e2
    exact ⟨u,r,.inl ⟨hk,by simp⟩⟩
   ·rw [List.getElem?_set_ne (Ne.symm hj)] at e2
    obtain ⟨u',r',q⟩:=hl j y v' e1 e2 e3
    refine ⟨u',r',?_⟩
    rcases q with ⟨k,e⟩ | ⟨k,c,e,z⟩
    ·refine .inl ⟨k,?_⟩
     have : y ≠ x:=fun e=>hj (nodup_ix hN e1 (e ▸ hi))
     simp [this,e]
    ·exact .inr ⟨k,c,e,z.sameBut hs (cne y c e)⟩
  ·obtain ⟨w',z⟩:=I.cell y c e
   exact ⟨w',z.sameBut hs (cne y c e)⟩
  ·obtain ⟨e,n,ne,nf,d⟩:=I.pin p hp
   exact ⟨(hs.2 p.1 ne).trans e,n,ne,nf,d⟩
 ·have hfn : X.fn x = true:=by
   rcases hf with z | z
   ·exact z
   ·rw [z] at hk;cases hk
  obtain ⟨c,hc⟩:=I.ok.has x (.inl hk)
  obtain ⟨w',z⟩:=I.cell x c hc
  refine wpAny_storeName_cell I.ok.kind hk hc z (fun h' hc' hs=>?_)
  obtain ⟨oc,hoc,hocd⟩:=id z
  refine h { s with heap:=h' } ⟨I.ok,I.os,I.bare,⟨fun b o e n hb hx=>?_,fun b o e n hb hx=>?_,I.base.free,fun b o e hx=>?_,I.base.tups,I.base.frzs,I.base.tbls⟩,⟨m,hn.sameBut hs (Ne.symm (cne x c hc)),fun j y v' e1 e2 e3=>?_⟩,fun y c' e=>?_,I.free,I.freeC,fun p hp=>?_,tracked ⟨oc,hoc,I.freeC x c hc⟩ hs,by simpa using I.len⟩ ⟨c,hs,.inr hc⟩
  ·exact (hs.2 b (Nat.ne_of_lt (Nat.lt_of_lt_of_le (Heap.lt_size e) (I.ok.cab x c hfn hc)))).trans (I.base.keep b o e n hb hx)
  ·obtain ⟨sl,e1⟩:=I.base.slot b o e n hb hx
   exact ⟨sl,(hs.2 b (Nat.ne_of_lt (Nat.lt_of_lt_of_le (Heap.lt_size e) (I.ok.cab x c hfn hc)))).trans e1⟩
  ·obtain ⟨o',e1⟩:=I.base.there b o e hx
   exact ⟨o',(hs.2 b (Nat.ne_of_lt (Nat.lt_of_lt_of_le (Heap.lt_size e) (I.ok.cab x c hfn hc)))).trans e1⟩
  ·by_cases hj : j = i
   ·subst hj
    rw [hi] at e1;cases e1
    rw [List.getElem?_set_self hiσ] at e2
    cases e2
    exact ⟨u,r,.inr ⟨.inl hk,c,hc,hc'⟩⟩
   ·rw [List.getElem?_set_ne (Ne.symm hj)] at e2
    obtain ⟨u',r',q⟩:=hl j y v' e1 e2 e3
    refine ⟨u',r',?_⟩
    rcases q with q | ⟨k,c',e,z'⟩
    ·exact .inl q
    ·refine .inr ⟨k,c',e,z'.sameBut hs ?_⟩
     rintro rfl
     exact hj (nodup_ix hN e1 (I.ok.inj _ _ _ e hc ▸ hi))
  ·by_cases hcc : c' = c
   ·subst hcc;exact ⟨_,hc'⟩
   ·obtain ⟨w2,z2⟩:=I.cell y c' e
    exact ⟨w2,z2.sameBut hs hcc⟩
  ·obtain ⟨e,n,ne,nf,d⟩:=I.pin p hp
   refine ⟨(hs.2 p.1 ?_).trans e,n,ne,nf,d⟩
   intro q
   rw [q,hoc] at e
   have q' : oc = p.2:=Option.some.inj e
   exact d w' (by rw [<- q'];exact hocd)
theorem store_ok {M : Model} {A : Around} {E : Value->Shared->Prop} {i : Nat} {x : Str} {v : V} {u : Value} {Q : Unit->Shared->Prop} (I : Inv X pins σ H s) (hN : X.N.Nodup) (hi : X.N[i]? = some x) (hx : Loc X.env.scope x) (r : RelV v u)
  (h : ∀ s',Inv X pins (σ.set i (some v)) H s'->Q () s') (hf : X.fn x = true\/X.env.scope.names.lookup x = some .local:=by first | exact .inl rfl | exact .inr rfl | assumption) : wpAny M A (storeName X.env x u) Q E s:=
 store_ok2 I hN hi hx r (fun s' I' _=>h s' I') hf
end
noncomputable abbrev XK:=Value->Option Addr->Hp->Prop
noncomputable abbrev St:=List (Option V)
noncomputable abbrev VK:=V->Hp->Prop
noncomputable abbrev TE:=St->Hp->VK->Prop
noncomputable abbrev TT:=St->Hp->(Bool->Hp->Prop)->Prop
noncomputable abbrev TA:=St->Hp->(List V->Hp->Prop)->Prop
structure Ends where
 nx : St->Hp->Prop
 rt : VK
 bk : St->Hp->Prop:=fun _ _=>False
 ct : St->Hp->Prop:=fun _ _=>False
noncomputable abbrev TS:=Ends->St->Hp->Prop
noncomputable def EP (X : Cx) (pins : List (Addr × Obj)) (σ : St) (Q : VK) (u : Value) (s' : Shared) : Prop:=∃ v H',Inv X pins σ H' s'/\RelV v u/\Q v H'
noncomputable def TP (X : Cx) (pins : List (Addr × Obj)) (σ : St) (Q : Bool->Hp->Prop) (b : Bool) (s' : Shared) : Prop:=∃ H',Inv X pins σ H' s'/\Q b H'
noncomputable def AP (X : Cx) (pins : List (Addr × Obj)) (σ : St) (Q : List V->Hp->Prop) (us : List Value) (s' : Shared) : Prop:=∃ vs H',Inv X pins σ H' s'/\Vals vs us/\Q vs H'
noncomputable def SP (X : Cx) (pins : List (Addr × Obj)) (D : Ends) (f : Flow) (s' : Shared) : Prop:=
 match f with
 | .next=>∃ σ' H',Inv X pins σ' H' s'/\D.nx σ' H'
 | .brk=>∃ σ' H',Inv X pins σ' H' s'/\D.bk σ' H'
 | .cont=>∃ σ' H',Inv X pins σ' H' s'/\D.ct σ' H'
 | .ret u=>∃ v σ' H',Inv X pins σ' H' s'/\RelV v u/\D.rt v H'
noncomputable def PE (X : Cx) (e : Expr) (t : TE) : Prop:=
 ∀ (pins : List (Addr × Obj)) (s : Shared) (σ : St) (H : Hp) (Q : VK),Inv X pins σ H s->t σ H Q->wpAny (model X.prog X.w) X.A (eval e X.env) (EP X pins σ Q) X.xe s
noncomputable def PT (X : Cx) (e : Expr) (t : TT) : Prop:=
 ∀ (pins : List (Addr × Obj)) (s : Shared) (σ : St) (H : Hp) (Q : Bool->Hp->Prop),Inv X pins σ H s->t σ H Q->wpAny (model X.prog X.w) X.A (isTrue e X.env (eval e X.env)) (TP X pins σ Q) X.xe s
noncomputable def PW (X : Cx) (e : Expr) (t : TT) : Prop:=
 ∀ (whole : Sem Value) (pins : List (Addr × Obj)) (s : Shared) (σ : St) (H : Hp) (Q : Bool->Hp->Prop),Inv X pins σ H s->t σ H Q->wpAny (model X.prog X.w) X.A (isTrue e X.env whole) (TP X pins σ Q) X.xe s
theorem PW.pt {X : Cx} {e : Expr} {t : TT} (h : PW X e t) : PT X e t:=h _
noncomputable def PA (X : Cx) (es : List Expr) (t : TA) : Prop:=
 ∀ (pos : Pos) (pins : List (Addr × Obj)) (s : Shared) (σ : St) (H : Hp) (Q : List V->Hp->Prop),Inv X pins σ H s->t σ H Q->wpAny (model X.prog X.w) X.A (spliced (backTo pos (starEach es X.env))) (AP X pins σ Q) X.xe s
noncomputable def PS (X : Cx) (st : Stmt) (t : TS) : Prop:=
 ∀ (pins : List (Addr × Obj)) (s : Shared) (σ : St) (H : Hp) (D : Ends),Inv X pins σ H s->t D σ H->wpAny (model X.prog X.w) X.A (exec st X.env) (SP X pins D) X.xe s
noncomputable def PSs (X : Cx) (st : List Stmt) (t : TS) : Prop:=
 ∀ (pins : List (Addr × Obj)) (s : Shared) (σ : St) (H : Hp) (D : Ends),Inv X pins σ H s->t D σ H->wpAny (model X.prog X.w) X.A (execs st X.env) (SP X pins D) X.xe s
theorem thn {α : Type} {t : Sem α} {Q Q' : α->Shared->Prop} {M : Model} {A : Around} {E : Value->Shared->Prop} {s : Shared} (h : wpAny M A t Q E s) (hQ : ∀ a s,Q a s->Q' a s) : wpAny M A t Q' E s:=wpAny_mono h hQ fun _ _ x=>x
end L2
namespace L2
open PySem PySem.Spec PyProof.Rows
section
variable {X : Cx}
noncomputable def tVar (i : Nat) : TE:=fun σ H Q=>∃ v,σ[i]? = some (some v)/\Q v H
noncomputable def tC (v : V) : TE:=fun _ H Q=>Q v H
theorem pe_var {i : Nat} {x : Str} {pos : Pos} (hN : X.N[i]? = some x) (hv : Vis X.env.scope x) (hd : (x == ("__debug__" : Str)) = false:=by decide) (hcd : (x == ("__classdict__" : Str)) = false:=by decide) : PE X (.Name x pos) (tVar i):=by
 intro pins s σ H Q I h
 obtain ⟨v,e,h⟩:=h
 obtain ⟨m,hn,hl⟩:=I.loc
 obtain ⟨u,r,l⟩:=hl i x v hN e hv
 have fin : EP X pins σ Q u s:=⟨v,H,I,r,h⟩
 rcases l with ⟨hk,hm⟩ | ⟨hk,c,hc,hcell⟩
 ·exact wpAny_Name (wpAny_loadName_local I.ok.kind hk hn hm fin) hd
 ·rcases hk with hk | hk
  ·exact wpAny_Name (wpAny_loadName_cell I.ok.kind hk hc hcell fin) hd
  ·exact wpAny_Name (wpAny_loadName_free I.ok.kind hk hc hcell fin hcd) hd
theorem pe_int {i j pos} : PE X (.Constant (.int i) j pos) (tC (.int i)):=fun _ _ _ H _ I h=>wpAny_Constant_int ⟨.int i,H,I.tok _,⟨_,rfl⟩,h⟩
theorem pe_bl {b j pos} : PE X (.Constant (.bool b) j pos) (tC (.bl b)):=fun _ _ _ H _ I h=>Constant_bool ⟨.bl b,H,I,rfl,h⟩
theorem pe_str {x j pos} : PE X (.Constant (.str x) j pos) (tC (.str x)):=fun _ _ _ H _ I h=>Calls.Constant_str ⟨.str x,H,I.tok _,⟨_,rfl⟩,h⟩
noncomputable def Gl (X : Cx) (x : Str) : Prop:=X.env.kindOf x = some .globalImplicit
theorem ld_glob {E : Value->Shared->Prop} {pins : List (Addr × Obj)} {s : Shared} {σ : St} {H : Hp} {x : Str} {u : Value} {pos : Pos} {Q : Value->Shared->Prop} (I : Inv X pins σ H s) (hg : Gl X x) (hm : X.mg x = some u) (h : Q u s)
  (hd : (x == ("__debug__" : Str)) = false:=by decide) : wpAny (model X.prog X.w) X.A (eval (.Name x pos) X.env) Q E s:=
 Calls.Name_function_global I.ok.kind hg (Calls.loadGlobal_global (by rw [I.ok.glob];exact I.mod.glob.keeps I.bk) hm h) hd
theorem ld_blt {E : Value->Shared->Prop} {pins : List (Addr × Obj)} {s : Shared} {σ : St} {H : Hp} {x : Str} {u : Value} {pos : Pos} {Q : Value->Shared->Prop} (I : Inv X pins σ H s) (hg : Gl X x) (hm : X.mg x = none) (hv : bootBuiltins x = some u) (h : Q u s)
  (hn : x ≠ "__name__":=by decide) (hd : (x == ("__debug__" : Str)) = false:=by decide) : wpAny (model X.prog X.w) X.A (eval (.Name x pos) X.env) Q E s:=by
 obtain ⟨mb,h1,h2⟩:=I.mod.blt
 exact Calls.Name_function_global I.ok.kind hg (Calls.loadGlobal_builtin (by rw [I.ok.glob];exact I.mod.glob.keeps I.bk) hm (by rw [I.ok.blt];exact h1.keeps I.bk) ((h2 x hn).trans hv) h) hd
theorem pe_bltn {x : Str} {v : V} {u : Value} {pos : Pos} (hg : Gl X x) (hm : X.mg x = none) (hv : bootBuiltins x = some u) (r : RelV v u) (hn : x ≠ "__name__":=by decide) (hd : (x == ("__debug__" : Str)) = false:=by decide) : PE X (.Name x pos) (tC v):=
 fun _ _ _ H _ I h=>ld_blt I hg hm hv ⟨v,H,I,r,h⟩ hn hd
variable {a b : Expr} {ta tb : TE} {pos : Pos}
variable {tA tB' : TT} {rest : List Expr}
noncomputable def tAnd (t u : TT) : TT:=fun σ H Q=>t σ H fun c H1=>if c = true then u σ H1 Q else Q false H1
noncomputable def tOr (t u : TT) : TT:=fun σ H Q=>t σ H fun c H1=>if c = true then Q true H1 else u σ H1 Q
noncomputable def tNot (t : TT) : TT:=fun σ H Q=>t σ H fun c H1=>Q (!c) H1
theorem pw_and1 (ha : PT X a tA) : PW X (.BoolOp .And [a] pos) tA:=by
 intro wh pins s σ H Q I h
 refine isTrue_and (thn (ha pins s σ H Q I h) fun c s1 e=>?_)
 cases c with
 | true=>exact isTrue_and_nil e
 | false=>exact e
theorem pw_or1 (ha : PT X a tA) : PW X (.BoolOp .Or [a] pos) tA:=by
 intro wh pins s σ H Q I h
 refine isTrue_or (thn (ha pins s σ H Q I h) fun c s1 e=>?_)
 cases c with
 | false=>exact isTrue_or_nil e
 | true=>exact e
theorem pw_and (ha : PT X a tA) (hb : PW X (.BoolOp .And (b :: rest) pos) tB') : PW X (.BoolOp .And (a :: b :: rest) pos) (tAnd tA tB'):=by
 intro wh pins s σ H Q I h
 refine isTrue_and (thn (ha pins s σ H _ I h) fun c s1 ⟨H1,I1,q1⟩=>?_)
 cases c with
 | true=>exact hb wh pins s1 σ H1 Q I1 q1
 | false=>exact ⟨H1,I1,q1⟩
theorem pw_or (ha : PT X a tA) (hb : PW X (.BoolOp .Or (b :: rest) pos) tB') : PW X (.BoolOp .Or (a :: b :: rest) pos) (tOr tA tB'):=by
 intro wh pins s σ H Q I h
 refine isTrue_or (thn (ha pins s σ H _ I h) fun c s1 ⟨H1,I1,q1⟩=>?_)
 cases c with
 | true=>exact ⟨H1,I1,q1⟩
 | false=>exact hb wh pins s1 σ H1 Q I1 q1
theorem pt_not (ha : PT X a tA) : PT X (.UnaryOp .Not a pos) (tNot tA):=by
 intro pins s σ H Q I h
 exact isTrue_not (ha pins s σ H (fun c H1=>Q (!c) H1) I h)
noncomputable def tAndV (ta tb : TE) : TE:=fun σ H Q=>ta σ H fun x H1=>∃ c,x = .bl c/\if c = true then tb σ H1 Q else Q (.bl false) H1
noncomputable def tNotV (ta : TE) : TE:=fun σ H Q=>ta σ H fun x H1=>∃ c,x = .bl c/\Q (.bl (!c)) H1
theorem pe_one {op} {t : TE} (h : PE X a t) : PE X (.BoolOp op [a] pos) t:=fun pins s σ H Q I hw=>BoolOp_one (h pins s σ H Q I hw)
theorem pe_and (ha : PE X a ta) (hb : PE X (.BoolOp .And (b :: rest) pos) tb) : PE X (.BoolOp .And (a :: b :: rest) pos) (tAndV ta tb):=by
 intro pins s σ H Q I h
 refine BoolOp_and (thn (ha pins s σ H _ I h) fun v s1 ⟨x,H1,I1,r1,q1⟩=>?_)
 obtain ⟨c,rfl,q1⟩:=q1
 cases r1
 refine wpAny_truthy_bool ?_
 cases c with
 | true=>exact hb pins s1 σ H1 Q I1 q1
 | false=>exact ⟨.bl false,H1,I1,rfl,q1⟩
theorem pe_not (ha : PE X a ta) : PE X (.UnaryOp .Not a pos) (tNotV ta):=by
 intro pins s σ H Q I h
 refine UnaryOp_ (thn (ha pins s σ H _ I h) fun v s1 ⟨x,H1,I1,r1,q1⟩=>?_)
 obtain ⟨c,rfl,q1⟩:=q1
 cases r1
 exact not_of (wpAny_truthy_bool ⟨.bl (!c),H1,I1,rfl,q1⟩)
end
end L2
namespace L2
open PySem PySem.Spec PyProof.Rows
noncomputable def SqL (K : PySem.W.Frag) (H : Hp) (a : Addr) (xs : List V) : Prop:=
 Rd H a (.lst xs)\/
  ∃ (o : Obj) (its : Array Value) (n : Nat),K.lookup a = some o/\o.cls = .type "list"/\o.dict = none/\o.data = .seq its n/\its.size<=sizeLine/\Vals xs its.toList
noncomputable def SqT (K : PySem.W.Frag) (H : Hp) (a : Addr) (xs : List V) : Prop:=
 Rd H a (.tup xs)\/
  ∃ (o : Obj) (its : Array Value) (n : Nat),K.lookup a = some o/\o.cls = .type "tuple"/\o.data = .seq its n/\its.size<=sizeLine/\Vals xs its.toList
noncomputable def absV : Value->Option V
 | .none=>some .non
 | .bool b=>some (.bl b)
 | .int i _=>some (.int i)
 | .str x _=>some (.str x)
 | .bytes b _=>some (.byt b)
 | .float b _=>some (.flt b)
 | .ref a=>some (.ref a)
 | .type n=>some (.ty n)
 | _=>none
theorem RelV.abs {x : V} {u : Value} (r : RelV x u) : absV u = some x:=by
 cases x with
 | non=>cases r;rfl
 | bl _=>cases r;rfl
 | int _=>obtain ⟨t,rfl⟩:=r;rfl
 | str _=>obtain ⟨t,rfl⟩:=r;rfl
 | byt _=>obtain ⟨t,rfl⟩:=r;rfl
 | flt _=>obtain ⟨t,rfl⟩:=r;rfl
 | ref _=>cases r;rfl
 | ty _=>cases r;rfl
theorem RelV.inj {x y : V} {u : Value} (r : RelV x u) (q : RelV y u) : x = y:=Option.some.inj (r.abs.symm.trans q.abs)
theorem Vals.inj : ∀ {xs ys : List V} {us : List Value},Vals xs us->Vals ys us->xs = ys
 | _,_,_,.nil,.nil=>rfl
 | _,_,_,.cons r t,.cons r' t'=>by rw [r.inj r',Vals.inj t t']
section
variable {X : Cx} {pins : List (Addr × Obj)} {σ : St} {H : Hp} {s : Shared} {a : Addr} {xs ys : List V}
theorem SqL.of {K : PySem.W.Frag} (h : H a = some (.lst xs)) : SqL K H a xs:=.inl (.inl h)
theorem SqT.of {K : PySem.W.Frag} (h : H a = some (.tup xs)) : SqT K H a xs:=.inl (.inl h)
theorem Inv.list (I : Inv X pins σ H s) (h : SqL X.K H a xs) : ∃ its : List Value,Vals xs its/\PlainL s.heap a its.toArray/\xs.length<=sizeLine:=by
 rcases h with h | ⟨o,its,n,hk,hc,hd,hs,hz,r⟩
 ·obtain ⟨z,its,n,r,e⟩:=h.ok I.hok
  exact ⟨its,r,⟨_,n,e,rfl,rfl,rfl⟩,z⟩
 ·refine ⟨its.toList,r,⟨o,n,I.kIn a o hk,hc,hd,by simpa using hs⟩,?_⟩
  have e:=r.length
  simp only [Array.length_toList] at e
  lia
theorem Inv.tuple (I : Inv X pins σ H s) (h : SqT X.K H a xs) : ∃ its : List Value,Vals xs its/\IsTup s.heap a its.toArray/\xs.length<=sizeLine:=by
 rcases h with h | ⟨o,its,n,hk,hc,hs,hz,r⟩
 ·obtain ⟨z,its,r,p⟩:=h.ok I.hok
  exact ⟨its,r,p,z⟩
 ·refine ⟨its.toList,r,⟨o,I.kIn a o hk,hc,n,by simpa using hs⟩,?_⟩
  have e:=r.length
  simp only [Array.length_toList] at e
  lia
theorem Inv.list_inj (I : Inv X pins σ H s) (h : SqL X.K H a xs) (h' : SqL X.K H a ys) : xs = ys:=by
 obtain ⟨its,r,⟨o,n,e,_,_,d⟩,_⟩:=I.list h
 obtain ⟨its',r',⟨o',n',e',_,_,d'⟩,_⟩:=I.list h'
 rw [e] at e';cases e'
 rw [d] at d'
 injection d' with d1 _
 have : its = its':=by simpa using congrArg Array.toList d1
 subst this
 exact r.inj r'
theorem Inv.tuple_inj (I : Inv X pins σ H s) (h : SqT X.K H a xs) (h' : SqT X.K H a ys) : xs = ys:=by
 obtain ⟨its,r,⟨o,e,_,n,d⟩,_⟩:=I.tuple h
 obtain ⟨its',r',⟨o',e',_,n',d'⟩,_⟩:=I.tuple h'
 rw [e] at e';cases e'
 rw [d] at d'
 injection d' with d1 _
 have : its = its':=by simpa using congrArg Array.toList d1
 subst this
 exact r.inj r'
end
noncomputable abbrev Cx.wish (X : Cx) (E : Value->Shared->Prop) : Cx:={ X with xe:=E }
noncomputable abbrev Cx.nox (X : Cx) : Cx:=X.wish fun _ _=>False
theorem Cx.Ok.wish {X : Cx} (ok : X.Ok) (E : Value->Shared->Prop) : (X.wish E).Ok:=
 ⟨ok.mod,ok.kind,ok.glob,ok.blt,ok.above,ok.inj,ok.has,ok.cab,ok.hd,ok.frames,ok.stk,ok.exf,ok.bs,ok.bsz,ok.noex,ok.exfs,ok.funs,ok.frf⟩
theorem Cx.Ok.unwish {X : Cx} {E : Value->Shared->Prop} (ok : (X.wish E).Ok) : X.Ok:=
 ⟨ok.mod,ok.kind,ok.glob,ok.blt,ok.above,ok.inj,ok.has,ok.cab,ok.hd,ok.frames,ok.stk,ok.exf,ok.bs,ok.bsz,ok.noex,ok.exfs,ok.funs,ok.frf⟩
section
variable {X : Cx} {pins : List (Addr × Obj)} {σ : St} {H : Hp} {s : Shared} {E : Value->Shared->Prop}
theorem Inv.wish (I : Inv X pins σ H s) (E : Value->Shared->Prop) : Inv (X.wish E) pins σ H s:=⟨I.ok.wish E,I.os,I.bare,I.base,I.loc,I.cell,I.free,I.freeC,I.pin,I.hok,I.len⟩
theorem Inv.unwish (I : Inv (X.wish E) pins σ H s) : Inv X pins σ H s:=⟨I.ok.unwish,I.os,I.bare,I.base,I.loc,I.cell,I.free,I.freeC,I.pin,I.hok,I.len⟩
theorem SP.unwish {D : Ends} {f : Flow} {s' : Shared} (h : SP (X.wish E) pins D f s') : SP X pins D f s':=by
 cases f with
 | next=>obtain ⟨σ',H',I,q⟩:=h;exact ⟨σ',H',I.unwish,q⟩
 | brk=>obtain ⟨σ',H',I,q⟩:=h;exact ⟨σ',H',I.unwish,q⟩
 | cont=>obtain ⟨σ',H',I,q⟩:=h;exact ⟨σ',H',I.unwish,q⟩
 | ret u=>obtain ⟨v,σ',H',I,r,q⟩:=h;exact ⟨v,σ',H',I.unwish,r,q⟩
theorem PSs.nox {st : List Stmt} {t : TS} (h : PSs X.nox st t) : PSs X st t:=fun pins s σ H D I hw=>
 wpAny_mono (h pins s σ H D (I.wish _) hw) (fun _ _ q=>q.unwish) fun _ _ z=>False.elim z
end
section
variable {X : Cx} {st : Stmt} {rest : List Stmt} {t u : TS} {e : Expr} {te : TE} {pos : Pos}
noncomputable def tNext : TS:=fun D σ H=>D.nx σ H
noncomputable def tSeq (t u : TS) : TS:=fun D σ H=>t { D with nx:=u D } σ H
theorem pss_nil : PSs X [] tNext:=fun _ _ σ H _ I h=>wpAny_execs_nil ⟨σ,H,I,h⟩
theorem pss_cons (h1 : PS X st t) (h2 : PSs X rest u) : PSs X (st :: rest) (tSeq t u):=by
 intro pins s σ H D I h
 refine wpAny_execs_cons (thn (h1 pins s σ H { D with nx:=u D } I h) fun f s1 q=>?_)
 cases f with
 | next=>
  obtain ⟨σ',H',I',q⟩:=q
  exact h2 pins s1 σ' H' D I' q
 | ret v=>exact q
 | brk=>exact q
 | cont=>exact q
theorem pss_one (h1 : PS X st t) : PSs X [st] t:=by
 intro pins s σ H D I h
 refine wpAny_execs_cons (thn (h1 pins s σ H D I h) fun f s1 q=>?_)
 cases f with
 | next=>exact wpAny_execs_nil q
 | ret v=>exact q
 | brk=>exact q
 | cont=>exact q
theorem Inv.quiet {pins : List (Addr × Obj)} {σ : St} {H : Hp} {s : Shared} (I : Inv X pins σ H s) : interactive X.env = false:=by simp [interactive,I.ok.kind]
noncomputable def tDrop (te : TE) : TS:=fun D σ H=>te σ H fun _ H1=>D.nx σ H1
theorem ps_expr (he : PE X e te) (hs : swapsWith e none pos.line X.env = pure false:=by rfl) : PS X (.Expr e pos) (tDrop te):=by
 intro pins s σ H D I h
 exact wpAny_Expr_any (thn (he pins s σ H _ I h) fun v s1 ⟨x,H1,I1,r1,q1⟩=>⟨σ,H1,I1,q1⟩) I.quiet hs
noncomputable def tRet (te : TE) : TS:=fun D σ H=>te σ H D.rt
theorem ps_ret (he : PE X e te) : PS X (.Return (some e) pos) (tRet te):=by
 intro pins s σ H D I h
 exact wpAny_Return_some (thn (he pins s σ H _ I h) fun v s1 ⟨x,H1,I1,r1,q1⟩=>⟨x,σ,H1,I1,r1,q1⟩)
noncomputable def tIfS (c : TT) (t u : TS) : TS:=fun D σ H=>c σ H fun b H1=>if b = true then t D σ H1 else u D σ H1
theorem ps_if {c : Expr} {a b : List Stmt} {tc : TT} (hc : PT X c tc) (ha : PSs X a t) (hb : PSs X b u) : PS X (.If c a b pos) (tIfS tc t u):=by
 intro pins s σ H D I h
 refine wpAny_If (thn (hc pins s σ H _ I h) fun d s1 ⟨H1,I1,q1⟩=>?_)
 cases d with
 | true=>exact ha pins s1 σ H1 D I1 q1
 | false=>exact hb pins s1 σ H1 D I1 q1
end
noncomputable abbrev TG:=V->St->Hp->(St->Hp->Prop)->Prop
noncomputable abbrev TGs:=List V->St->Hp->(St->Hp->Prop)->Prop
noncomputable def PG (X : Cx) (target : Expr) (t : TG) : Prop:=
 ∀ (pins : List (Addr × Obj)) (s : Shared) (σ : St) (H : Hp) (v : V) (u : Value) (Q : St->Hp->Prop),Inv X pins σ H s->RelV v u->t v σ H Q->
  wpAny (model X.prog X.w) X.A (assign target X.env u) (fun _ s'=>∃ σ' H',Inv X pins σ' H' s'/\Q σ' H') X.xe s
noncomputable def PGs (X : Cx) (ts : List Expr) (t : TGs) : Prop:=
 ∀ (pins : List (Addr × Obj)) (s : Shared) (σ : St) (H : Hp) (vs : List V) (us : List Value) (Q : St->Hp->Prop),Inv X pins σ H s->Vals vs us->t vs σ H Q->
  wpAny (model X.prog X.w) X.A (assignInOrder ((assignEach ts X.env).map (·.2)) us) (fun _ s'=>∃ σ' H',Inv X pins σ' H' s'/\Q σ' H') X.xe s
section
variable {X : Cx} {pos : Pos}
noncomputable def gName (i : Nat) : TG:=fun v σ H Q=>Q (σ.set i (some v)) H
theorem pg_name {i : Nat} {x : Str} (hN : X.N.Nodup) (hi : X.N[i]? = some x) (hx : Loc X.env.scope x) (hf : X.fn x = true\/X.env.scope.names.lookup x = some .local:=by first | exact .inl rfl | exact .inr rfl | assumption) : PG X (.Name x pos) (gName i):=by
 intro pins s σ H v u Q I r h
 exact wpAny_assign_Name (store_ok I hN hi hx r (fun s' I'=>⟨_,H,I',h⟩) hf)
noncomputable def gNil : TGs:=fun vs σ H Q=>vs = []/\Q σ H
noncomputable def gCons (t : TG) (u : TGs) : TGs:=fun vs σ H Q=>∃ v r,vs = v :: r/\t v σ H fun σ' H'=>u r σ' H' Q
theorem pgs_nil : PGs X [] gNil:=by
 intro pins s σ H vs us Q I r h
 obtain ⟨e,h⟩:=h
 subst e
 cases r
 exact assignInOrder_nil ⟨σ,H,I,h⟩
theorem pgs_cons {e : Expr} {es : List Expr} {t : TG} {u : TGs} (h1 : PG X e t) (h2 : PGs X es u)
  (hs : (assignEach (e :: es) X.env).map (·.2) = assign e X.env :: (assignEach es X.env).map (·.2):=by rfl) : PGs X (e :: es) (gCons t u):=by
 intro pins s σ H vs us Q I r h
 obtain ⟨v,vr,e1,h⟩:=h
 subst e1
 cases r with
 | cons r rr=>
  rw [hs]
  refine assignInOrder_cons (thn (h1 pins s σ H _ _ _ I r h) fun _ s1 ⟨σ1,H1,I1,q1⟩=>?_)
  exact h2 pins s1 σ1 H1 _ _ Q I1 rr q1
noncomputable def gTup (K : PySem.W.Frag) (n : Nat) (t : TGs) : TG:=fun v σ H Q=>∃ a xs,v = .ref a/\SqT K H a xs/\xs.length = n/\t xs σ H Q
theorem pg_tup {es : List Expr} {k : Nat} {t : TGs} {n : Nat} (hc : X.calm = true) (h : PGs X es t)
  (hn : (assignEach es X.env).length = n:=by rfl) (hst : (assignEach es X.env).findIdx? (·.1) = none:=by rfl) : PG X (.Tuple es k pos) (gTup X.K n t):=by
 intro pins s σ H v u Q I r hw
 obtain ⟨a,xs,e1,hq,hl,hw⟩:=hw
 subst e1
 cases r
 obtain ⟨its,rv,ht,hz⟩:=I.tuple hq
 refine assign_Tuple_tuple (I.ok.hd hc) ht (by simp [hn,<- hl,rv.length]) hst fun h' hx=>?_
 have I1 : Inv X pins σ H { s with heap:=h' }:=I.kept (t':=s.toks) fun b o e=>hx b o (Nat.ne_of_lt (Heap.lt_size e)) e
 exact h pins _ σ H xs _ Q I1 (by simpa using rv) hw
noncomputable def tAsg (te : TE) (g : TG) : TS:=fun D σ H=>te σ H fun x H1=>g x σ H1 D.nx
theorem ps_set {i : Nat} {x : Str} {e : Expr} {te : TE} {pos' : Pos} (hN : X.N.Nodup) (hi : X.N[i]? = some x) (hx : Loc X.env.scope x) (he : PE X e te) (hs : swapsWith e (some (.Name x pos')) pos.line X.env = pure false:=by rfl) (hf : X.fn x = true\/X.env.scope.names.lookup x = some .local:=by first | exact .inl rfl | exact .inr rfl | assumption) :
  PS X (.Assign [.Name x pos'] e pos) (tAsg te (gName i)):=by
 intro pins s σ H D I h
 refine wpAny_Assign_Name (thn (he pins s σ H _ I h) fun v s1 ⟨y,H1,I1,r1,q1⟩=>?_) hs
 exact store_ok I1 hN hi hx r1 (fun s2 I2=>⟨_,H1,I2,q1⟩) hf
end
section
variable {X : Cx} {pos : Pos}
noncomputable def tWhile (c : TT) (tb : TS) : TS:=fun D σ H=>∃ W : Nat->St->Hp->Prop,(∃ m,W m σ H)/\∀ m σ H,W m σ H->
 c σ H fun b H1=>if b = true then ∃ N : St->Hp->Prop,(∀ σ' H',N σ' H'->∃ m',m' < m/\W m' σ' H')/\tb { D with nx:=N,ct:=N,bk:=D.nx } σ H1 else D.nx σ H1
theorem ps_while {c : Expr} {body : List Stmt} {tc : TT} {tb : TS} (hp : PassesOwn (model X.prog X.w) X.A X.env X.xe) (hc : PT X c tc) (hb : PSs X body tb) : PS X (.While c body [] pos) (tWhile tc tb):=by
 intro pins s σ H D I h
 obtain ⟨W,⟨m0,w0⟩,turn⟩:=h
 refine wpAny_While (codeAny_whileLoop (fun n s'=>∃ σ' H',Inv X pins σ' H' s'/\W n σ' H') ?_ m0 ⟨σ,H,I,w0⟩)
 rintro n s1 ⟨σ1,H1,I1,w1⟩
 refine wpAny_passesOwn hp (thn (hc pins s1 σ1 H1 _ I1 (turn n σ1 H1 w1)) fun b s2 ⟨H2,I2,q2⟩=>?_)
 cases b with
 | true=>
  obtain ⟨N,hN,q2⟩:=q2
  rw [if_pos rfl]
  refine wpAny_passesOwn hp (thn (hb pins s2 σ1 H2 _ I2 q2) fun f s3 q3=>?_)
  cases f with
  | next=>
   obtain ⟨σ3,H3,I3,n3⟩:=q3
   obtain ⟨m',hm,w3⟩:=hN σ3 H3 n3
   exact ⟨m',hm,σ3,H3,I3,w3⟩
  | cont=>
   obtain ⟨σ3,H3,I3,n3⟩:=q3
   obtain ⟨m',hm,w3⟩:=hN σ3 H3 n3
   exact ⟨m',hm,σ3,H3,I3,w3⟩
  | brk=>exact q3
  | ret v=>exact q3
 | false=>
  rw [if_neg Bool.false_ne_true]
  exact wpAny_execs_nil ⟨σ1,H2,I2,q2⟩
end
structure It where
 go : Nat->Hp->Prop
 yld : Nat->Hp->V->Hp->Prop
 stop : Nat->Hp->Prop
noncomputable def FpOk (X : Cx) (pins : List (Addr × Obj)) (H : Hp) (b : Addr) : Prop:=
 H b = none/\b ≠ X.env.locals/\b ∉ X.fs/\(b ∈ X.ex\/X.s₀.heap.objs.size<=b)/\(∀ x c,X.env.cells.lookup x = some c->c ≠ b)/\∀ p ∈ X.pn ++ pins,p.1 ≠ b
theorem Inv.fpOk {X : Cx} {pins : List (Addr × Obj)} {σ : St} {H H' : Hp} {s : Shared} {b : Addr} (I : Inv X pins σ H s) (hb : s.heap.objs.size<=b) (hn : H' b = none) : FpOk X pins H' b:=by
 refine ⟨hn,Nat.ne_of_gt (Nat.lt_of_lt_of_le I.lt hb),I.nofs hb,.inr (Nat.le_trans I.sz hb),fun x c e z=>?_,fun p hp z=>?_⟩
 ·obtain ⟨v,q⟩:=I.cell x c e
  exact absurd (Nat.lt_of_lt_of_le q.lt (by rw [z];exact hb)) (Nat.lt_irrefl _)
 ·exact absurd (Nat.lt_of_lt_of_le (Heap.lt_size (I.pin p hp).1) (by rw [z];exact hb)) (Nat.lt_irrefl _)
structure Turn (P : Program) (w : World) (K : PySem.W.Frag) (tg : Expr) (J : It) (fp : List Addr) (it : Addr) (tn : Nat->Heap->Prop) : Prop where
 mem : it ∈ fp
 obj : ∀ i h,tn i h->∀ b ∈ fp,∃ o,h.get? b = some o/\∀ v,o.data ≠ .cell v
 keep : ∀ i h h',tn i h->(∀ b ∈ fp,∀ o,h.get? b = some o->h'.get? b = some o)->tn i h'
 item : ∀ (X : Cx),X.prog = P->X.w = w->X.K = K->X.calm = true->∀ (i : Nat) (pins : List (Addr × Obj)) (s : Shared) (σ : St) (H : Hp) (E : Value->Shared->Prop),Inv X pins σ H s->(∀ b ∈ fp,FpOk X pins H b)->tn i s.heap->J.go i H->
  wpAny (model P w) X.A (pyNext (.ref it)) (fun r s1=>∃ u,r = some u/\
   wpAny (model P w) X.A (letOwnedTupleGo tg (.ref it) u) (fun _ s2=>∃ x H',Inv X pins σ H' s2/\RelV x u/\J.yld i H x H'/\tn (i + 1) s2.heap/\∀ b ∈ fp,H' b = none) E s1) E s
 done : ∀ (X : Cx),X.prog = P->X.w = w->X.K = K->X.calm = true->∀ (i : Nat) (pins : List (Addr × Obj)) (s : Shared) (σ : St) (H : Hp) (E : Value->Shared->Prop),Inv X pins σ H s->(∀ b ∈ fp,FpOk X pins H b)->tn i s.heap->J.stop i H->
  wpAny (model P w) X.A (pyNext (.ref it)) (fun r s1=>r = none/\Inv X pins σ H s1) E s
 self : ∀ (A : Around) (i : Nat) (s : Shared) (Q : Value->Shared->Prop) (E : Value->Shared->Prop),tn i s.heap->Q (.ref it) s->wpAny (model P w) A (pyIter (.ref it)) Q E s
noncomputable abbrev TI:=St->Hp->(It->Hp->Prop)->Prop
noncomputable def PIE (X : Cx) (pins : List (Addr × Obj)) (σ : St) (tg : Expr) (R : It->Hp->Prop) (itv : Value) (s2 : Shared) : Prop:=
 ∃ (it : Addr) (fp : List Addr) (tn : Nat->Heap->Prop) (J : It) (H' : Hp),itv = .ref it/\Inv X pins σ H' s2/\Turn X.prog X.w X.K tg J fp it tn/\tn 0 s2.heap/\(∀ b ∈ fp,FpOk X pins H' b)/\R J H'
noncomputable def PI (X : Cx) (tg iter : Expr) (wi : TI) : Prop:=
 ∀ (pins : List (Addr × Obj)) (s : Shared) (σ : St) (H : Hp) (R : It->Hp->Prop),Inv X pins σ H s->wi σ H R->
  wpAny (model X.prog X.w) X.A (eval iter X.env) (fun v s1=>wpAny (model X.prog X.w) X.A (pyIter v) (PIE X pins σ tg R) X.xe s1) X.xe s
theorem go_of {M : Model} {A : Around} {E : Value -> Shared -> Prop} {s : Shared} {tg : Expr} {it : Addr} {u : Value} {o : Obj} {n : String} {vs : Array Value} {Q : Unit -> Shared -> Prop} (ho : s.heap.get? it = some o) (hc : o.cls = .type n) (hd : o.data = .fields vs)
    (hn : ["enumerate", "zip", "dict_itemiterator", "dict_reverseitemiterator", "odict_iterator", "itertools.zip_longest", "itertools.pairwise"].contains n = false) (hQ : Q () s) : wpAny M A (letOwnedTupleGo tg (.ref it) u) Q E s := by
  unfold letOwnedTupleGo
  cases tg <;> first
    | exact wpAny_pure hQ
    | (cases u <;> first
        | exact wpAny_pure hQ
        | (refine wpAny_bind (wpAny_load ho ?_)
           rw [hc, hd]
           show wpAny M A (if (["enumerate", "zip", "dict_itemiterator", "dict_reverseitemiterator", "odict_iterator", "itertools.zip_longest", "itertools.pairwise"].contains n && vs[0]? == some (rawInt _)) = true then _ else _) Q E s
           rw [if_neg (by intro h; rw [hn, Bool.false_and] at h; cases h)]
           exact wpAny_pure hQ))
noncomputable def Itl (K : PySem.W.Frag) (a : Addr) : It:=
 ⟨fun i H=>∃ xs x,SqL K H a xs/\xs[i]? = some x,fun i H x H'=>H' = H/\∀ xs,SqL K H a xs->xs[i]? = some x,fun i H=>∃ xs,SqL K H a xs/\xs.length<=i⟩
noncomputable def Itt (K : PySem.W.Frag) (a : Addr) : It:=
 ⟨fun i H=>∃ xs x,SqT K H a xs/\xs[i]? = some x,fun i H x H'=>H' = H/\∀ xs,SqT K H a xs->xs[i]? = some x,fun i H=>∃ xs,SqT K H a xs/\xs.length<=i⟩
noncomputable def Itr (lo : Int) (n : Nat) : It:=⟨fun i _=>i < n,fun i H x H'=>H' = H/\x = .int (lo + i),fun i _=>n<=i⟩
theorem turn_list {P : Program} {w : World} {K : PySem.W.Frag} {tg : Expr} (a it : Addr) : Turn P w K tg (Itl K a) [it] it (fun i h=>h.IsListIter it a i) where
 mem:=by simp
 obj:=fun i h st b hb=>by
  have e : b = it:=by simpa using hb
  subst e
  obtain ⟨o,e,c,d⟩:=st
  exact ⟨o,e,fun v z=>by rw [d] at z;cases z⟩
 keep:=fun i h h' st k=>st.at fun o e=>k it (by simp) o e
 item:=by
  intro X hP hw hK hc i pins s σ H E I hf st hg
  subst hP hw hK
  obtain ⟨xs,x,hq,hx⟩:=hg
  obtain ⟨its,rv,p,hz⟩:=I.list hq
  obtain ⟨u,hu,ru⟩:=rv.get hx
  obtain ⟨f0,f1,f2,f3,f4,f5⟩:=hf it (by simp)
  refine wpAny_pyNext_list_item st p.isList (x:=u) (by simpa using hu) fun h' st' sb=>?_
  have I1 : Inv X pins σ H { s with heap:=h' }:=I.turned (t':=s.toks) (fun b o hb e=>(sb.2 b hb).trans e) f0 f1 f3 f4 f5
  obtain ⟨o,e,c,d⟩:=id st'
  exact ⟨u,rfl,go_of (s:={ s with heap:=h' }) e c d (by decide) ⟨x,H,I1,ru,⟨rfl,fun ys hy=>by rw [I.list_inj hy hq];exact hx⟩,st',fun b hb=>(hf b hb).1⟩⟩
 done:=by
  intro X hP hw hK hc i pins s σ H E I hf st hg
  subst hP hw hK
  obtain ⟨xs,hq,hx⟩:=hg
  obtain ⟨its,rv,p,hz⟩:=I.list hq
  obtain ⟨f0,f1,f2,f3,f4,f5⟩:=hf it (by simp)
  have hl:=rv.length
  exact wpAny_pyNext_list_end (I.ok.hd hc) st p.isList (by simp;lia) fun h' eb=>⟨rfl,I.turned (t':=s.toks) (fun b o hb e=>eb b o hb e) f0 f1 f3 f4 f5⟩
 self:=fun _ _ _ _ _ st h=>wpAny_pyIter_listiter st h
theorem turn_tuple {P : Program} {w : World} {K : PySem.W.Frag} {tg : Expr} (a it : Addr) : Turn P w K tg (Itt K a) [it] it (fun i h=>h.IsTupleIter it a i) where
 mem:=by simp
 obj:=fun i h st b hb=>by
  have e : b = it:=by simpa using hb
  subst e
  obtain ⟨o,e,c,d⟩:=st
  exact ⟨o,e,fun v z=>by rw [d] at z;cases z⟩
 keep:=fun i h h' st k=>st.at fun o e=>k it (by simp) o e
 item:=by
  intro X hP hw hK hc i pins s σ H E I hf st hg
  subst hP hw hK
  obtain ⟨xs,x,hq,hx⟩:=hg
  obtain ⟨its,rv,p,hz⟩:=I.tuple hq
  obtain ⟨u,hu,ru⟩:=rv.get hx
  obtain ⟨f0,f1,f2,f3,f4,f5⟩:=hf it (by simp)
  refine wpAny_pyNext_tuple_item st (show s.heap.IsTuple a its.toArray from p) (x:=u) (by simpa using hu) fun h' st' sb=>?_
  have I1 : Inv X pins σ H { s with heap:=h' }:=I.turned (t':=s.toks) (fun b o hb e=>(sb.2 b hb).trans e) f0 f1 f3 f4 f5
  obtain ⟨o,e,c,d⟩:=id st'
  exact ⟨u,rfl,go_of (s:={ s with heap:=h' }) e c d (by decide) ⟨x,H,I1,ru,⟨rfl,fun ys hy=>by rw [I.tuple_inj hy hq];exact hx⟩,st',fun b hb=>(hf b hb).1⟩⟩
 done:=by
  intro X hP hw hK hc i pins s σ H E I hf st hg
  subst hP hw hK
  obtain ⟨xs,hq,hx⟩:=hg
  obtain ⟨its,rv,p,hz⟩:=I.tuple hq
  obtain ⟨f0,f1,f2,f3,f4,f5⟩:=hf it (by simp)
  have hl:=rv.length
  exact wpAny_pyNext_tuple_end (I.ok.hd hc) st (show s.heap.IsTuple a its.toArray from p) (by simp;lia) fun h' eb=>⟨rfl,I.turned (t':=s.toks) (fun b o hb e=>eb b o hb e) f0 f1 f3 f4 f5⟩
 self:=fun _ _ _ _ _ st h=>wpAny_pyIter_tupleiter st h
theorem turn_range {P : Program} {w : World} {K : PySem.W.Frag} {tg : Expr} (it : Addr) (lo : Int) (n : Nat) : Turn P w K tg (Itr lo n) [it] it (fun i h=>IsRangeIter h it (lo + (i : Nat) * 1) ((n : Int) - (i : Nat)) 1) where
 mem:=by simp
 obj:=fun i h st b hb=>by
  have e : b = it:=by simpa using hb
  subst e
  exact ⟨_,st,fun v z=>by
   have z' : Data.fields _ = Data.cell v:=z
   cases z'⟩
 keep:=fun i h h' st k=>k it (by simp) _ st
 item:=by
  intro X hP hw hK hc i pins s σ H E I hf st hg
  subst hP hw hK
  obtain ⟨f0,f1,f2,f3,f4,f5⟩:=hf it (by simp)
  have W:=Walks.range (prog:=X.prog) (w:=X.w) (I.ok.hd hc) it lo 1 n
  refine W.item i s _ _ hg st fun v h' tk hv st' kk=>?_
  obtain ⟨t,rfl⟩:=hv
  have I1 : Inv X pins σ H { s with heap:=h',toks:=tk }:=I.turned (fun b o hb e=>kk b o (by simpa using hb) e) f0 f1 f3 f4 f5
  refine ⟨_,rfl,go_of (s:={ s with heap:=h',toks:=tk }) (n := "range_iterator") st' rfl rfl (by decide) ⟨.int (lo + i),H,I1,⟨t,?_⟩,⟨rfl,rfl⟩,st',fun b hb=>(hf b hb).1⟩⟩
  rw [Int.mul_one]
 done:=by
  intro X hP hw hK hc i pins s σ H E I hf st hg
  subst hP hw hK
  obtain ⟨f0,f1,f2,f3,f4,f5⟩:=hf it (by simp)
  exact wpAny_pyNext_range_end (I.ok.hd hc) st (by have : n<=i:=hg;lia) fun h' eb=>⟨rfl,I.turned (t':=s.toks) (fun b o hb e=>eb b o hb e) f0 f1 f3 f4 f5⟩
 self:=fun _ _ _ _ _ st h=>wpAny_pyIter_rangeiter st h
end L2
namespace L2
open PySem PySem.Spec PyProof.Rows
section
variable {X : Cx} {tg : Expr}
theorem range_it {pins : List (Addr × Obj)} {σ : St} {H : Hp} {s : Shared} {R : It->Hp->Prop} {E : Value->Shared->Prop} {lo hi : Int} {t u v : Tok} {tk : Nat} (I : Inv X pins σ H s) (h1 : -(2 ^ 62)<=lo) (h2 : lo < 2 ^ 62) (h3 : -(2 ^ 62)<=hi) (h4 : hi < 2 ^ 62)
  (q : R (Itr lo (hi - lo).toNat) H) : wpAny (model X.prog X.w) X.A (pyIter (.ref s.heap.objs.size)) (PIE X pins σ tg R) E { s with heap:=s.heap.push { cls:=.type "range",data:=.fields #[.int lo t,.int hi u,.int 1 v] },toks:=tk }:=by
 refine wpAny_pyIter_range (IsRange.new ..) (small_one h1 h2 h3 h4) ?_
 have I1 : Inv X pins σ H { s with heap:=s.heap.push { cls:=.type "range",data:=.fields #[.int lo t,.int hi u,.int 1 v] },toks:=tk }:=I.kept fun b o e=>Heap.get?_push_of_some _ e
 refine ⟨(s.heap.push { cls:=.type "range",data:=.fields #[.int lo t,.int hi u,.int 1 v] }).objs.size,[(s.heap.push { cls:=.type "range",data:=.fields #[.int lo t,.int hi u,.int 1 v] }).objs.size],_,_,H,rfl,
  I1.kept (t':=tk) fun b o e=>Heap.get?_push_of_some _ e,turn_range _ lo (hi - lo).toNat,?_,fun b hb=>?_,q⟩
 ·have e1 : lo + ((0 : Nat) : Int) * 1 = lo:=by simp
  have e2 : (((hi - lo).toNat : Nat) : Int) - ((0 : Nat) : Int) = Builtin.Range.rangeSize lo hi 1:=by rw [rangeSize_one];split <;> lia
  show IsRangeIter _ _ (lo + ((0 : Nat) : Int) * 1) ((((hi - lo).toNat : Nat) : Int) - ((0 : Nat) : Int)) 1
  rw [e1,e2]
  exact Heap.get?_push_size _ rfl
 ·have e : b = (s.heap.push { cls:=.type "range",data:=.fields #[.int lo t,.int hi u,.int 1 v] }).objs.size:=by simpa using hb
  subst e
  exact I1.fpOk (Nat.le_refl _) (I1.hok.fresh (Nat.le_refl _))
noncomputable def iRng1 (ta : TA) : TI:=fun σ H R=>ta σ H fun vs H1=>∃ j : Int,vs = [.int j]/\-(2 ^ 62)<=j/\j < 2 ^ 62/\R (Itr 0 j.toNat) H1
noncomputable def iRng2 (ta : TA) : TI:=fun σ H R=>ta σ H fun vs H1=>∃ i j : Int,vs = [.int i,.int j]/\(-(2 ^ 62)<=i/\i < 2 ^ 62/\-(2 ^ 62)<=j/\j < 2 ^ 62)/\R (Itr i (j - i).toNat) H1
theorem pi_range1 {a : Expr} {ta : TA} {p pos : Pos} (hg : Gl X "range") (hm : X.mg "range" = none) (ha : PA X [a] ta) (hs : starEach [a] X.env = [(false,eval a X.env)]:=by rfl) : PI X tg (.Call (.Name "range" p) [a] [] pos) (iRng1 ta):=by
 intro pins s σ H R I h
 refine Call_ (ld_blt I hg hm boot_range (PyProof.Rows.callWith_type1 (thn (ha pos pins s σ H _ I h) fun us s1 ⟨vs,H1,I1,r1,q1⟩=>?_) hs rfl))
 obtain ⟨j,e,q1,q2,q⟩:=q1
 subst e
 cases r1 with
 | cons r rr=>
  cases rr
  obtain ⟨t,rfl⟩:=r
  exact call_range_1 (range_it I1 (by lia) (by lia) q1 q2 (by simpa using q))
theorem pi_range2 {a b : Expr} {ta : TA} {p pos : Pos} (hg : Gl X "range") (hm : X.mg "range" = none) (ha : PA X [a,b] ta) (hs : starEach [a,b] X.env = [(false,eval a X.env),(false,eval b X.env)]:=by rfl) (hs2 : starEach [b] X.env = [(false,eval b X.env)]:=by rfl) :
  PI X tg (.Call (.Name "range" p) [a,b] [] pos) (iRng2 ta):=by
 intro pins s σ H R I h
 refine Call_ (ld_blt I hg hm boot_range (PyProof.Rows.callWith_type1 (thn (ha pos pins s σ H _ I h) fun us s1 ⟨vs,H1,I1,r1,q1⟩=>?_) (by rw [hs,hs2]) (by rw [hs2];rfl)))
 obtain ⟨i,j,e,⟨q1,q2,q3,q4⟩,q⟩:=q1
 subst e
 cases r1 with
 | cons r rr=>
  cases rr with
  | cons r' rr=>
   cases rr
   obtain ⟨t,rfl⟩:=r
   obtain ⟨t',rfl⟩:=r'
   exact call_range_2 (range_it I1 q1 q2 q3 q4 q)
noncomputable def tFor (wi : TI) (g : TG) (tb : TS) : TS:=fun D σ H=>wi σ H fun J H1=>∃ W : Nat->Nat->St->Hp->Prop,(∃ m,W 0 m σ H1)/\∀ i m σ H,W i m σ H->
 (J.stop i H/\D.nx σ H)\/(J.go i H/\∃ N : St->Hp->Prop,(∀ σ' H',N σ' H'->∃ m',m' < m/\W (i + 1) m' σ' H')/\∀ x H',J.yld i H x H'->g x σ H' fun σ2 H2=>tb { D with nx:=N,ct:=N,bk:=D.nx } σ2 H2)
noncomputable def pinsAt (fp : List Addr) (h : Heap) : List (Addr × Obj):=fp.filterMap fun b=>(h.get? b).map fun o=>(b,o)
theorem mem_pinsAt {fp : List Addr} {h : Heap} {b : Addr} {o : Obj} (hb : b ∈ fp) (e : h.get? b = some o) : (b,o) ∈ pinsAt fp h:=List.mem_filterMap.mpr ⟨b,hb,by rw [e];rfl⟩
theorem of_pinsAt {fp : List Addr} {h : Heap} {p : Addr × Obj} (hp : p ∈ pinsAt fp h) : p.1 ∈ fp/\h.get? p.1 = some p.2:=by
 obtain ⟨b,hb,e⟩:=List.mem_filterMap.mp hp
 cases q : h.get? b with
 | none=>rw [q] at e;cases e
 | some o=>
  rw [q] at e
  have e' : (b,o) = p:=Option.some.inj e
  subst e'
  exact ⟨hb,q⟩
theorem Inv.pinned {pins : List (Addr × Obj)} {σ : St} {H : Hp} {s : Shared} {fp : List Addr} (I : Inv X pins σ H s) (hf : ∀ b ∈ fp,FpOk X pins H b) (ho : ∀ b ∈ fp,∃ o,s.heap.get? b = some o/\∀ v,o.data ≠ .cell v) : Inv X (pins ++ pinsAt fp s.heap) σ H s:=
 I.pins_of fun p hp=>(List.mem_append.mp hp).elim (fun z=>I.pin p (List.mem_append_right _ z)) fun z=>by
  obtain ⟨hb,e⟩:=of_pinsAt z
  obtain ⟨f0,f1,f2,_⟩:=hf p.1 hb
  obtain ⟨o,e',d⟩:=ho p.1 hb
  rw [e] at e';cases e'
  exact ⟨e,f0,f1,f2,d⟩
theorem Inv.unpinned {pins pl : List (Addr × Obj)} {σ : St} {H : Hp} {s : Shared} (I : Inv X (pins ++ pl) σ H s) : Inv X pins σ H s:=I.pins_of fun p hp=>I.pin p (List.mem_append_right _ (List.mem_append_left _ hp))
theorem ps_for {iter : Expr} {body : List Stmt} {wi : TI} {g : TG} {tb : TS} {pos : Pos} (hp : PassesOwn (model X.prog X.w) X.A X.env X.xe) (hc : X.calm = true) (hi : PI X tg iter wi) (hg : PG X tg g) (hb : PSs X body tb)
  (hs : ∀ x,foldedSetIterable iter X.env x = pure x:=by intro _;rfl) : PS X (.For tg iter body [] pos) (tFor wi g tb):=by
 intro pins s σ H D I h
 refine wpAny_For (thn (hi pins s σ H _ I h) fun v s1 h1=>thn h1 fun itv s2 h2=>?_) hs
 obtain ⟨it,fp,tn,J,H2,e,I2,T,st2,f2,W,⟨m0,w0⟩,turn⟩:=h2
 subst e
 -- what stays true of the iterator's objects through the loop
 have stat : ∀ {H' : Hp},(∀ b ∈ fp,H' b = none)->∀ b ∈ fp,FpOk X pins H' b:=fun hn b hb=>⟨hn b hb,(f2 b hb).2⟩
 refine codeAny_forLoop_any (fun n s'=>∃ i σ' H',Inv X pins σ' H' s'/\tn i s'.heap/\(∀ b ∈ fp,H' b = none)/\W i n σ' H') ?_ m0 ⟨0,σ,H2,I2,st2,fun b hb=>(f2 b hb).1,w0⟩
 rintro n s3 ⟨i,σ3,H3,I3,st3,fr3,w3⟩
 rcases turn i n σ3 H3 w3 with ⟨stop,qn⟩ | ⟨go,N,hN,step⟩
 ·refine wpAny_passesOwn hp (thn (T.done X rfl rfl rfl hc i pins s3 σ3 H3 X.xe I3 (stat fr3) st3 stop) fun r s4 ⟨hr,I4⟩=>?_)
  subst hr
  exact wpAny_execs_nil ⟨σ3,H3,I4,qn⟩
 ·refine wpAny_passesOwn hp (thn (T.item X rfl rfl rfl hc i pins s3 σ3 H3 X.xe I3 (stat fr3) st3 go) fun r s4 ⟨u,hr,h4⟩=>?_)
  subst hr
  refine wpAny_passesOwn hp (thn h4 fun _ s5 ⟨x,H5,I5,r5,y5,st5,fr5⟩=>?_)
  have I5':=I5.pinned (stat fr5) (T.obj _ _ st5)
  refine wpAny_passesOwn hp (thn (hg _ s5 σ3 H5 x u _ I5' r5 (step x H5 y5)) fun _ s6 ⟨σ6,H6,I6,q6⟩=>?_)
  refine wpAny_passesOwn hp (thn (hb _ s6 σ6 H6 _ I6 q6) fun f s7 q7=>?_)
  have again : ∀ {σ7 : St} {H7 : Hp},Inv X (pins ++ pinsAt fp s5.heap) σ7 H7 s7->N σ7 H7->∃ m,m < n/\∃ i σ' H',Inv X pins σ' H' s7/\tn i s7.heap/\(∀ b ∈ fp,H' b = none)/\W i m σ' H':=fun {σ7 H7} I7 n7=>by
   obtain ⟨m',hm,w7⟩:=hN σ7 H7 n7
   refine ⟨m',hm,i + 1,σ7,H7,I7.unpinned,T.keep _ _ _ st5 fun b hb o e=>(I7.pin (b,o) (List.mem_append_right _ (List.mem_append_right _ (mem_pinsAt hb e)))).1,fun b hb=>?_,w7⟩
   obtain ⟨o,e,d⟩:=T.obj _ _ st5 b hb
   exact (I7.pin (b,o) (List.mem_append_right _ (List.mem_append_right _ (mem_pinsAt hb e)))).2.1
  cases f with
  | next=>obtain ⟨σ7,H7,I7,n7⟩:=q7;exact again I7 n7
  | cont=>obtain ⟨σ7,H7,I7,n7⟩:=q7;exact again I7 n7
  | brk=>obtain ⟨σ7,H7,I7,q7⟩:=q7;exact ⟨σ7,H7,I7.unpinned,q7⟩
  | ret v=>obtain ⟨x7,σ7,H7,I7,r7,q7⟩:=q7;exact ⟨x7,σ7,H7,I7.unpinned,r7,q7⟩
end
end L2
namespace L2
open PySem PySem.Spec PyProof.Rows
noncomputable abbrev R2:=V->V->Hp->VK->Prop
noncomputable def OpR (X : Cx) (f : Value->Value->Sem Value) (r : R2) : Prop:=
 ∀ (pins : List (Addr × Obj)) (s : Shared) (σ : St) (H : Hp) (x y : V) (v u : Value) (Q : VK),Inv X pins σ H s->RelV x v->RelV y u->r x y H Q->
  wpAny (model X.prog X.w) X.A (f v u) (EP X pins σ Q) X.xe s
noncomputable def UnR (X : Cx) (f : Value->Sem Value) (r : V->Hp->VK->Prop) : Prop:=
 ∀ (pins : List (Addr × Obj)) (s : Shared) (σ : St) (H : Hp) (x : V) (v : Value) (Q : VK),Inv X pins σ H s->RelV x v->r x H Q->
  wpAny (model X.prog X.w) X.A (f v) (EP X pins σ Q) X.xe s
noncomputable def CallR (X : Cx) (f : Value) (r : List V->Hp->VK->Prop) : Prop:=
 ∀ (pins : List (Addr × Obj)) (s : Shared) (σ : St) (H : Hp) (xs : List V) (us : List Value) (Q : VK),Inv X pins σ H s->Vals xs us->r xs H Q->
  wpAny (model X.prog X.w) X.A (call f us) (EP X pins σ Q) X.xe s
noncomputable def TruR (X : Cx) (r : V->Hp->(Bool->Hp->Prop)->Prop) : Prop:=
 ∀ (pins : List (Addr × Obj)) (s : Shared) (σ : St) (H : Hp) (x : V) (v : Value) (Q : Bool->Hp->Prop),Inv X pins σ H s->RelV x v->r x H Q->
  wpAny (model X.prog X.w) X.A (truthy v) (TP X pins σ Q) X.xe s
noncomputable def tOp (r : R2) (ta tb : TE) : TE:=fun σ H Q=>ta σ H fun x H1=>tb σ H1 fun y H2=>r x y H2 Q
noncomputable def tUn (r : V->Hp->VK->Prop) (ta : TE) : TE:=fun σ H Q=>ta σ H fun x H1=>r x H1 Q
noncomputable def rI (C : Int->Int->Prop) (g : Int->Int->V) : R2:=fun x y H Q=>∃ i j,x = .int i/\y = .int j/\C i j/\Q (g i j) H
noncomputable def rI0 (g : Int->Int->V) : R2:=fun x y H Q=>∃ i j,x = .int i/\y = .int j/\Q (g i j) H
noncomputable def rU (g : Int->V) : V->Hp->VK->Prop:=fun x H Q=>∃ i,x = .int i/\Q (g i) H
section
variable {X : Cx} {a b c : Expr} {ta tb tc : TE} {pos : Pos}
theorem binT (ha : PE X a ta) (hb : PE X b tb) {pins : List (Addr × Obj)} {s : Shared} {σ : St} {H : Hp} {R : V->V->Hp->Prop} (I : Inv X pins σ H s)
  (h : ta σ H fun x H1=>tb σ H1 fun y H2=>R x y H2) {Q : Value->Shared->Prop} {f : Value->Value->Sem Value}
  (hf : ∀ v u s2 x y H2,Inv X pins σ H2 s2->RelV x v->RelV y u->R x y H2->wpAny (model X.prog X.w) X.A (f v u) Q X.xe s2) :
  wpAny (model X.prog X.w) X.A (eval a X.env) (fun v s₁=>wpAny (model X.prog X.w) X.A (eval b X.env) (fun u s₂=>wpAny (model X.prog X.w) X.A (f v u) Q X.xe s₂) X.xe s₁) X.xe s:=by
 refine thn (ha pins s σ H _ I h) fun v s1 ⟨x,H1,I1,r1,q1⟩=>?_
 refine thn (hb pins s1 σ H1 _ I1 q1) fun u s2 ⟨y,H2,I2,r2,q2⟩=>?_
 exact hf v u s2 x y H2 I2 r1 r2 q2
theorem pe_op {op : Operator} {r : R2} (ho : OpR X (binaryOp op) r) (ha : PE X a ta) (hb : PE X b tb) : PE X (.BinOp a op b pos) (tOp r ta tb):=by
 intro pins s σ H Q I h
 exact wpAny_BinOp (binT ha hb I h fun v u s2 x y H2 I2 rx ry q=>ho pins s2 σ H2 x y v u Q I2 rx ry q)
theorem pe_un {op : UnaryOp} {r : V->Hp->VK->Prop} (ho : UnR X (unaryOp op) r) (ha : PE X a ta) : PE X (.UnaryOp op a pos) (tUn r ta):=by
 intro pins s σ H Q I h
 exact UnaryOp_ (thn (ha pins s σ H _ I h) fun v s1 ⟨x,H1,I1,r1,q1⟩=>ho pins s1 σ H1 x v Q I1 r1 q1)
theorem opI {f : Value->Value->Sem Value} {C : Int->Int->Prop} {g : Int->Int->Int}
  (rule : ∀ (i j : Int) (t u : Tok) (s : Shared) (Q : Value->Shared->Prop) (E : Value->Shared->Prop),C i j->Q (.int (g i j) s.toks) { s with toks:=s.toks + 1 }->wpAny (model X.prog X.w) X.A (f (.int i t) (.int j u)) Q E s) :
  OpR X f (rI C fun i j=>.int (g i j)):=by
 intro pins s σ H x y v u Q I rx ry h
 obtain ⟨i,j,rfl,rfl,hc,q⟩:=h
 obtain ⟨t,rfl⟩:=rx
 obtain ⟨t',rfl⟩:=ry
 exact rule i j t t' s _ _ hc ⟨.int (g i j),H,I.tok _,⟨_,rfl⟩,q⟩
theorem opI0 {f : Value->Value->Sem Value} {g : Int->Int->Int}
  (rule : ∀ (i j : Int) (t u : Tok) (s : Shared) (Q : Value->Shared->Prop) (E : Value->Shared->Prop),Q (.int (g i j) s.toks) { s with toks:=s.toks + 1 }->wpAny (model X.prog X.w) X.A (f (.int i t) (.int j u)) Q E s) :
  OpR X f (rI0 fun i j=>.int (g i j)):=by
 intro pins s σ H x y v u Q I rx ry h
 obtain ⟨i,j,rfl,rfl,q⟩:=h
 obtain ⟨t,rfl⟩:=rx
 obtain ⟨t',rfl⟩:=ry
 exact rule i j t t' s _ _ ⟨.int (g i j),H,I.tok _,⟨_,rfl⟩,q⟩
noncomputable def CDiv (i j : Int) : Prop:=0 < j/\j < 1073741824
noncomputable def CMul (i j : Int) : Prop:=(-(2 ^ 64) < i/\i < 2 ^ 64)\/(-(2 ^ 64) < j/\j < 2 ^ 64)
theorem CMul.ok {i j : Int} (h : CMul i j) : IntMulOk i j:=by
 rcases h with ⟨h1,h2⟩ | ⟨h1,h2⟩
 ·exact .of_left (intBits_le_64 h1 h2)
 ·exact .of_right (intBits_le_64 h1 h2)
theorem op_add : OpR X (binaryOp .Add) (rI0 fun i j=>.int (i + j)):=opI0 fun _ _ _ _ _ _ _ q=>add_int q
theorem op_sub : OpR X (binaryOp .Sub) (rI0 fun i j=>.int (i - j)):=opI0 fun _ _ _ _ _ _ _ q=>sub_int q
theorem op_mul : OpR X (binaryOp .Mult) (rI CMul fun i j=>.int (i * j)):=opI fun _ _ _ _ _ _ _ hc q=>mul_int q hc.ok
theorem op_fdiv : OpR X (binaryOp .FloorDiv) (rI CDiv fun i j=>.int (i / j)):=opI fun i j _ _ _ _ _ hc q=>by
 have h1 : (0 : Int) < j:=hc.1
 have h2 : j < 1073741824:=hc.2
 exact floordiv_int (by lia) (by rw [Int.fdiv_eq_ediv_of_nonneg i (by lia)];exact q) (.inl (PyProof.noPylong_small (by lia)))
theorem op_mod : OpR X (binaryOp .Mod) (rI (fun _ j=>0 < j) fun i j=>.int (i % j)):=opI fun i j _ _ _ _ _ hc q=>by
 have h1 : (0 : Int) < j:=hc
 exact mod_int' (by lia) (by rw [Int.fmod_eq_emod_of_nonneg i (by lia)];exact q)
theorem unI {f : Value->Sem Value} {g : Int->Int}
  (rule : ∀ (i : Int) (t : Tok) (s : Shared) (Q : Value->Shared->Prop) (E : Value->Shared->Prop),Q (.int (g i) s.toks) { s with toks:=s.toks + 1 }->wpAny (model X.prog X.w) X.A (f (.int i t)) Q E s) :
  UnR X f (rU fun i=>.int (g i)):=by
 intro pins s σ H x v Q I rx h
 obtain ⟨i,rfl,q⟩:=h
 obtain ⟨t,rfl⟩:=rx
 exact rule i t s _ _ ⟨.int (g i),H,I.tok _,⟨_,rfl⟩,q⟩
theorem un_neg : UnR X (unaryOp .USub) (rU fun i=>.int (-i)):=unI fun _ _ _ _ _ q=>neg_int q
end
section
variable {X : Cx} {a b c : Expr} {ta tb tc : TE} {pos : Pos}
theorem fin_bl {pins : List (Addr × Obj)} {σ : St} {H : Hp} {s : Shared} {Q : VK} {k k' : Bool} (I : Inv X pins σ H s) (q : Q (.bl k) H) (e : k = k') : EP X pins σ Q (.bool k') s:=by
 subst e
 exact ⟨.bl k,H,I,rfl,q⟩
theorem op_in_str : OpR X (compareOp .In) (fun x y H Q=>∃ i j,x = .str i/\y = .str j/\Q (.bl (!(Builtin.Str.occurrences j i 0 j.length 1).isEmpty)) H):=by
 intro pins s σ H x y v u Q I rx ry h
 obtain ⟨i,j,rfl,rfl,q⟩:=h
 obtain ⟨t,rfl⟩:=rx
 obtain ⟨t',rfl⟩:=ry
 exact in_str (fin_bl I q rfl)
theorem nomark (b : Expr) {op : CmpOp} (h : op ≠ .In:=by decide) (h2 : op ≠ .NotIn:=by decide) : behindInMarks op b = false:=by
 have e1 : (op == CmpOp.In) = false:=by cases op <;> first | rfl | exact absurd rfl h
 have e2 : (op == CmpOp.NotIn) = false:=by cases op <;> first | rfl | exact absurd rfl h2
 cases b <;> simp [behindInMarks,e1,e2]
theorem pe_cmpR {op : CmpOp} {r : R2} (ho : OpR X (compareOp op) r) (ha : PE X a ta) (hb : PE X b tb) (hm : behindInMarks op b = false) : PE X (.Compare a [op] [b] pos) (tOp r ta tb):=by
 intro pins s σ H Q I h
 exact wpAny_Compare1 (binT ha hb I h fun v u s2 x y H2 I2 rx ry q=>ho pins s2 σ H2 x y v u Q I2 rx ry q) hm
noncomputable def tTest (t : TE) : TT:=fun σ H Q=>t σ H fun x H'=>∃ k,x = .bl k/\Q k H'
theorem pt_cmpR {op : CmpOp} {r : R2} (ho : OpR X (compareOp op) r) (ha : PE X a ta) (hb : PE X b tb) (hm : behindInMarks op b = false) : PT X (.Compare a [op] [b] pos) (tTest (tOp r ta tb)):=by
 intro pins s σ H Q I h
 refine wpAny_isTrue_Compare1 (thn (ha pins s σ H _ I h) fun v s1 ⟨x,H1,I1,r1,q1⟩=>thn (hb pins s1 σ H1 _ I1 q1) fun u s2 ⟨y,H2,I2,r2,q2⟩=>
  thn (ho pins s2 σ H2 x y v u _ I2 r1 r2 q2) fun c s3 ⟨z,H3,I3,r3,k,e,q3⟩=>?_) hm
 subst e
 cases r3
 exact wpAny_truthy_bool ⟨H3,I3,q3⟩
noncomputable def TruV (K : PySem.W.Frag) (x : V) (H : Hp) (k : Bool) : Prop:=
 match x with
 | .non=>k = false
 | .bl b=>k = b
 | .int i=>k = (i != 0)
 | .str y=>y.length<=sizeLine/\k = ((y.length : Int) != 0)
 | .byt y=>y.size<=sizeLine/\k = ((y.size : Int) != 0)
 | .ref p=>(∃ xs,SqL K H p xs/\k = !xs.isEmpty)\/(∃ xs,SqT K H p xs/\k = !xs.isEmpty)\/∃ kvs,H p = some (.dK kvs)/\k = !kvs.isEmpty
 | _=>False
theorem isEmpty_kv {κ : Type} {kvs : List (κ × V)} {vs : List (κ × Value)} (r : KV kvs vs) : (!vs.isEmpty) = !kvs.isEmpty:=by
 cases r <;> rfl
theorem isEmpty_of {xs : List V} {its : List Value} (r : Vals xs its) : (!its.toArray.isEmpty) = !xs.isEmpty:=by
 cases r <;> simp
theorem line63 : (sizeLine : Nat) < 2 ^ 63:=by rw [sizeLine_eq];decide
theorem tru_ok : TruR X (fun x H Q=>∃ k,TruV X.K x H k/\Q k H):=by
 intro pins s σ H x v Q I rx h
 obtain ⟨k,e,q⟩:=h
 have hl:=line63
 have hs : sizeLine = 16777216:=sizeLine_eq
 cases x with
 | non=>
  cases rx
  have e' : k = false:=e
  subst e'
  exact truthy_none ⟨H,I,q⟩
 | bl b=>
  cases rx
  have e' : k = b:=e
  subst e'
  exact wpAny_truthy_bool ⟨H,I,q⟩
 | int i=>
  obtain ⟨t,rfl⟩:=rx
  have e' : k = (i != 0):=e
  subst e'
  exact PySem.P.truthy_int ⟨H,I,q⟩
 | str y=>
  obtain ⟨t,rfl⟩:=rx
  obtain ⟨hy,e'⟩ : y.length<=sizeLine/\k = ((y.length : Int) != 0):=e
  subst e'
  exact PySem.P.truthy_str (by lia) ⟨H,I.tok _,q⟩
 | byt y=>
  obtain ⟨t,rfl⟩:=rx
  obtain ⟨hy,e'⟩ : y.size<=sizeLine/\k = ((y.size : Int) != 0):=e
  subst e'
  exact PySem.W.truthy_bytes (by lia) ⟨H,I.tok _,q⟩
 | ref p=>
  cases rx
  have e' : (∃ xs,SqL X.K H p xs/\k = !xs.isEmpty)\/(∃ xs,SqT X.K H p xs/\k = !xs.isEmpty)\/∃ kvs,H p = some (.dK kvs)/\k = !kvs.isEmpty:=e
  rcases e' with ⟨xs,hx,e'⟩ | ⟨xs,hx,e'⟩ | ⟨kvs,hx,e'⟩
  ·subst e'
   obtain ⟨its,r,pl,hz⟩:=I.list hx
   have hlen:=r.length
   exact wpAny_truthy_list pl.isList (by simp only [List.size_toArray];lia) ⟨H,I.tok _,by rw [isEmpty_of r];exact q⟩
  ·subst e'
   obtain ⟨its,r,pl,hz⟩:=I.tuple hx
   have hlen:=r.length
   exact truthy_tuple pl (by simp only [List.size_toArray];lia) ⟨H,I.tok _,by rw [isEmpty_of r];exact q⟩
  ·subst e'
   obtain ⟨hz,hS,vs,r,m⟩ : kvs.length<=sizeLine/\(p == sysModules) = false/\∃ vs,KV kvs vs/\s.heap.DictOf (mixKind X.prog X.w) p vs:=I.hok p _ hx
   have hlen : kvs.length = vs.length:=Paired.length r
   exact wpAny_truthy_dict hS m (by lia) ⟨H,I.tok _,by rw [isEmpty_kv r];exact q⟩
 | _=>exact (show False from e).elim
theorem pt_truth (ha : PE X a ta) (he : ∀ whole,isTrue a X.env whole = (do let v <- whole;standAt a.pos;holding [v] (truthy v))) :
  PT X a (fun σ H Q=>ta σ H fun x H'=>∃ k,TruV X.K x H' k/\Q k H'):=by
 intro pins s σ H Q I h
 exact isTrue_plain (thn (ha pins s σ H _ I h) fun v s1 ⟨x,H1,I1,r1,q1⟩=>tru_ok pins s1 σ H1 x v Q I1 r1 q1) (he _)
theorem op_add_str : OpR X (binaryOp .Add) (fun x y H Q=>∃ i j,x = .str i/\y = .str j/\i.length + j.length<=sizeLine/\Q (.str (i ++ j)) H):=by
 intro pins s σ H x y v u Q I rx ry h
 obtain ⟨i,j,rfl,rfl,hz,q⟩:=h
 obtain ⟨t,rfl⟩:=rx
 obtain ⟨t',rfl⟩:=ry
 exact add_str (fun t' tk=>⟨.str (i ++ j),H,I.tok _,⟨_,rfl⟩,q⟩) hz
theorem vals1 {x : V} {us : List Value} (r : Vals [x] us) : ∃ u,us = [u]/\RelV x u:=by
 cases r with
 | cons r1 r2=>cases r2;exact ⟨_,rfl,r1⟩
end
end L2
namespace L2
open PySem PySem.Spec PyProof.Rows
section
variable {prog : Program} {w : World} {A : Around} {E : Value->Shared->Prop} {s : Shared} {K : PySem.W.Frag} {x dx C f : Addr} {mA : Str->Option Value} {name : Str} {v : Value}
end
theorem RelO.some_of {v : V} {o : Option Value} (r : RelO (some v) o) : ∃ u,o = some u/\RelV v u:=by
 cases o with
 | none=>exact (show False from r).elim
 | some u=>exact ⟨u,rfl,r⟩
section
variable {P : Program} {w : World} {H H' : Hp} {h h' : Heap} {a C dx : Addr} {fs fs' : List (Str × V)}
end
section
variable {X : Cx} {pins : List (Addr × Obj)} {σ : St} {H : Hp} {s : Shared} {a C dx : Addr} {fs : List (Str × V)} {f : Str} {v : V} {A : Around} {E : Value->Shared->Prop}
end
section
variable {X : Cx} {o e value : Expr} {f : Str} {pos pos' tpos : Pos} {ta tv : TE}
end
section
variable {X : Cx} {pins : List (Addr × Obj)} {σ : St} {H : Hp} {s : Shared} {A : Around} {E : Value->Shared->Prop} {Q : Value->Shared->Prop} {c : Value} {b : Bool}
end
end L2
namespace L2
open PySem PySem.Spec PyProof.Rows
structure Room (k : Nat) (A : Around) : Prop where
 hd : A.handled = none
 dp : A.depth + 3 * k + 5 < recursionLimit
 un : A.units + 16 * k + 200 < cLine
theorem Room.mono {j k : Nat} {A : Around} (r : Room k A) (h : j<=k) : Room j A:=⟨r.hd,by have:=r.dp;lia,by have:=r.un;lia⟩
theorem Room.deeper {k : Nat} {A : Around} (r : Room (k + 1) A) (env : Env) : Room k (A.deeper env):=
 ⟨r.hd,by have:=r.dp;show A.depth + 1 + 3 * k + 5 < _;lia,by have:=r.un;show A.units + 3 + 16 * k + 200 < _;lia⟩
theorem Room.depth {k : Nat} {A : Around} (r : Room k A) : A.depth < recursionLimit:=by have:=r.dp;lia
theorem Room.units {k : Nat} {A : Around} (r : Room k A) : A.units + 64 < cLine:=by have:=r.un;lia
noncomputable def tNil : TA:=fun _ H Q=>Q [] H
noncomputable def tCons (ta : TE) (tr : TA) : TA:=fun σ H Q=>ta σ H fun x H1=>tr σ H1 fun xs H2=>Q (x :: xs) H2
section
variable {X : Cx} {e : Expr} {es : List Expr} {te : TE} {t : TA} {pos : Pos}
theorem pa_nil : PA X [] tNil:=fun _ _ _ _ H Q I h=>Calls.spliced_nil ⟨[],H,I,.nil,h⟩
theorem pa_cons (ha : PE X e te) (hr : PA X es t) (hs : starEach (e :: es) X.env = (false,eval e X.env) :: starEach es X.env:=by rfl) : PA X (e :: es) (tCons te t):=by
 intro pos pins s σ H Q I h
 rw [hs]
 show wpAny _ _ (spliced ((false,eval e X.env) :: backTo pos (starEach es X.env))) _ _ s
 refine Calls.spliced_cons (thn (ha pins s σ H _ I h) fun u s1 ⟨x,H1,I1,r1,q1⟩=>?_)
 exact thn (hr pos pins s1 σ H1 _ I1 q1) fun us s2 ⟨xs,H2,I2,r2,q2⟩=>⟨x :: xs,H2,I2,.cons r1 r2,q2⟩
noncomputable def tTup (t : TA) : TE:=fun σ H Q=>t σ H fun xs H1=>xs.length<=sizeLine/\∀ p,H1 p = none->Q (.ref p) (upd H1 p (.tup xs))
noncomputable def tLst (t : TA) : TE:=fun σ H Q=>t σ H fun xs H1=>xs.length<=sizeLine/\∀ p,H1 p = none->Q (.ref p) (upd H1 p (.lst xs))
theorem pe_tup {x1} (h : PA X es t) : PE X (.Tuple es x1 pos) (tTup t):=by
 intro pins s σ H Q I hq
 refine wpAny_Tuple_spliced (thn (h pos pins s σ H _ I hq) fun us s1 ⟨xs,H1,I1,r,z,q⟩=>⟨by rw [<- r.length];exact z,?_⟩)
 have hf : H1 s1.heap.objs.size = none:=I1.hok.fresh (Nat.le_refl _)
 refine ⟨.ref s1.heap.objs.size,upd H1 s1.heap.objs.size (.tup xs),I1.laid (t':=s1.toks) (fun b u e=>Heap.get?_push_of_some _ e) (Nat.le_refl _) ?_,rfl,q _ hf⟩
 exact ⟨z,us,r,⟨_,Heap.get?_push_size _ rfl,rfl,_,rfl⟩⟩
theorem pe_lst (h : PA X es t) : PE X (.List es pos) (tLst t):=by
 intro pins s σ H Q I hq
 refine wpAny_List_spliced (thn (h pos pins s σ H _ I hq) fun us s1 ⟨xs,H1,I1,r,z,q⟩=>⟨by rw [<- r.length];exact z,?_⟩)
 have hf : H1 s1.heap.objs.size = none:=I1.hok.fresh (Nat.le_refl _)
 refine ⟨.ref s1.heap.objs.size,upd H1 s1.heap.objs.size (.lst xs),I1.laid (t':=s1.toks) (fun b u e=>Heap.get?_push_of_some _ e) (Nat.le_refl _) ?_,rfl,q _ hf⟩
 exact ⟨z,us,0,r,Heap.get?_push_size _ rfl⟩
end
noncomputable abbrev Sp:=List V->Hp->VK->XK->Prop
noncomputable abbrev CXT:=List Env->Hp->Shared->XK->Value->Shared->Prop
structure Env0 (P : Program) (w : World) (K : PySem.W.Frag) (mg : Str->Option Value) (base : Heap) (A : Around) (outer : List Env) (s : Shared) (H : Hp) : Prop where
 frames : A.frames = some outer
 mod : Mod K mg base
 bs : ∀ b o,base.get? b = some o->s.heap.get? b = some o/\H b = none
 bsz : base.objs.size<=s.heap.objs.size
 funs : s.heap.FunFrames base outer
 frf : ∀ b ∈ frs outer,H b = none
 hok : HOk P w H s.heap
 bare : AllBare s.gens
noncomputable def CE (outer : List Env) (P : Program) (w : World) (H : Hp) (s : Shared) (Q : VK) (u : Value) (s' : Shared) : Prop:=
 ∃ v H',s'.os = s.os/\AllBare s'.gens/\Un (frs outer) [] H H' s.heap s'.heap/\HOk P w H' s'.heap/\RelV v u/\Q v H'
noncomputable def CR (CX : CXT) (outer : List Env) (P : Program) (w : World) (H : Hp) (s : Shared) (Q : VK) (E : XK) (r : Result) (s' : Shared) : Prop:=
 match r with
 | .ok (.ret u)=>CE outer P w H s Q u s'
 | .ok _=>False
 | .error e=>CX outer H s E e s'
structure FnOk (P : Program) (w : World) (K : PySem.W.Frag) (mg : Str->Option Value) (base : Heap) (CX : CXT) (k : Nat) (f : Addr) (fd : FuncData) (ps : List Str) (sp : Sp) : Prop where
 len : ∀ vs H Q E,sp vs H Q E->vs.length = ps.length
 run : ∀ (A : Around) (outer : List Env) (s : Shared) (H : Hp) (args : Args) (us : List Value) (vs : List V) (Q : VK) (E : XK),Room k A->Env0 P w K mg base A outer s H->BindsTo s fd args (ps.zip us)->Vals vs us->sp vs H Q E->
  codeAny (model P w) A (.call (.ref f) args) (CR CX outer P w H s Q E) s
section
variable {X : Cx} {pins : List (Addr × Obj)} {σ : St} {H : Hp} {s s' : Shared}
theorem Inv.env0 (I : Inv X pins σ H s) : Env0 X.prog X.w X.K X.mg X.base X.A X.stack s H:=
 ⟨I.ok.frames,I.ok.mod,I.bs,Nat.le_trans I.ok.bsz I.sz,I.stack,I.stkFree,I.hok,I.bare⟩
theorem Inv.after {Q : VK} {u : Value} (I : Inv X pins σ H s) (h : CE X.stack X.prog X.w H s Q u s') : EP X pins σ Q u s':=by
 obtain ⟨v,H',os,bare,un,hok,r,q⟩:=h
 obtain ⟨hh,g,d,t,os'⟩:=s'
 obtain rfl : os' = s.os:=os
 exact ⟨v,H',I.call (h':=hh) (g':=g) (d':=d) (t':=t) (ch:=[]) un hok bare (fun b z=>absurd z (by simp)),r,q⟩
end
noncomputable def tCall (sp : Sp) (dvs : List V) (E : XK) (t : TA) : TE:=fun σ H Q=>t σ H fun vs H1=>sp (vs ++ dvs) H1 Q E
noncomputable def Binds (K : PySem.W.Frag) (fd : FuncData) (ps : List Str) (ds : List Value) : Prop:=
 ∀ (s : Shared) (us : List Value),K.In s.heap->(us ++ ds).length = ps.length->BindsTo s fd ⟨us,[]⟩ (ps.zip (us ++ ds))
theorem Binds.all {K : PySem.W.Frag} {fd : FuncData} {ps : List Str} (h : ∀ us : List Value,us.length = ps.length->bindArgs fd ⟨us,[]⟩ = pure (ps.zip us)) : Binds K fd ps []:=fun s us _ hl=>by
 rw [List.append_nil] at hl ⊢
 exact .of_eq (h us hl)
noncomputable def Passes (CX : CXT) (X : Cx) (E : XK) : Prop:=∀ (pins : List (Addr × Obj)) (σ : St) (H : Hp) (s : Shared) (e : Value) (s' : Shared),Inv X pins σ H s->CX X.stack H s E e s'->X.xe e s'
section
variable {X : Cx} {CX : CXT} {k : Nat} {f C : Addr} {fd : FuncData} {ps : List Str} {sp : Sp} {dvs : List V} {ds : List Value} {E : XK} {x m : Str} {p pos apos : Pos} {e o : Expr} {es : List Expr} {ta : TE} {t : TA}
theorem run_fn {pins : List (Addr × Obj)} {σ : St} {H : Hp} {s : Shared} {Q : VK} {us : List Value} {vs : List V} (F : FnOk X.prog X.w X.K X.mg X.base CX k f fd ps sp) (hr : Room k X.A) (hb : Binds X.K fd ps ds) (hd : Vals dvs ds) (hx : Passes CX X E)
  (I : Inv X pins σ H s) (r : Vals vs us) (h : sp (vs ++ dvs) H Q E) : wpAny (model X.prog X.w) X.A (call (.ref f) us) (EP X pins σ Q) X.xe s:=by
 have r2 : Vals (vs ++ dvs) (us ++ ds):=r.append hd
 have hl : (us ++ ds).length = ps.length:=by rw [<- r2.length];exact F.len _ _ _ _ h
 refine wpAny_call (codeAny_mono (F.run X.A X.stack s H ⟨us,[]⟩ (us ++ ds) (vs ++ dvs) Q E hr I.env0 (hb s us I.kIn hl) r2 h) fun r s' hq=>?_)
 cases r with
 | error e=>exact hx pins σ H s e s' I hq
 | ok fl=>
  cases fl with
  | ret u=>exact I.after hq
  | next=>exact False.elim hq
  | brk=>exact False.elim hq
  | cont=>exact False.elim hq
theorem pe_call (F : FnOk X.prog X.w X.K X.mg X.base CX k f fd ps sp) (hr : Room k X.A) (hg : Gl X x) (hm : X.mg x = some (.ref f)) (hk : PySem.W.keepIn X.K (.ref f) = true) (hb : Binds X.K fd ps ds) (hd : Vals dvs ds) (hx : Passes CX X E)
  (ha : PA X (e :: es) t) (hdb : (x == ("__debug__" : Str)) = false:=by decide) (he : starEach (e :: es) X.env = (false,eval e X.env) :: starEach es X.env:=by rfl) (hpl : (backTo pos (starEach es X.env)).any (·.1) = false:=by rfl) :
  PE X (.Call (.Name x p) (e :: es) [] pos) (tCall sp dvs E t):=by
 intro pins s σ H Q I h
 refine wpAny_Call_Name_kw (ld_glob I hg hm ?_ hdb)
 refine PySem.W.callWith_K (h₀:=X.base) I.ok.mod.kin hk (thn (ha pos pins s σ H _ I h) fun us s1 ⟨vs,H1,I1,r,q⟩=>⟨I1.kIn,?_⟩) he hpl
 exact run_fn F hr hb hd hx I1 r q
end
section
variable {X : Cx} {CX : CXT} {k : Nat} {f C : Addr} {fd : FuncData} {ps ks : List Str} {sp : Sp} {E : XK} {x m : Str} {p pos apos kpos : Pos} {e o : Expr} {es : List Expr} {kws : List Keyword} {te ta : TE} {t tk : TA} {nm : Option Str}
variable {g : List Value->List Value->List Value} {gV : List V->List V->List V}
end
structure FnScope (N P : List Str) (sc : Scope) : Prop where
 kind : sc.kind = .function
 co : sc.isCoroutine = false
 gen : sc.isGenerator = false
 nd : N.Nodup
 pre : N.take P.length = P
 par : ∀ x ∈ P,sc.names.lookup x = some .local\/sc.names.lookup x = some .cell
 nofree : ∀ y ∈ sc.names,y.2 ≠ .free
theorem bindL_out {kindOf : Str->Option NameKind} {x : Str} : ∀ {binds : List (Str × Value)} {m : Str->Option Value},(∀ v,(x,v) ∉ binds)->bindL kindOf binds m x = m x
 | [],_,_=>rfl
 | (n,v) :: r,m,h=>by
  unfold bindL
  rw [bindL_out fun w hw=>h w (List.mem_cons_of_mem _ hw)]
  split
  ·have : x ≠ n:=by rintro rfl;exact h v List.mem_cons_self
   simp [this]
  ·rfl
theorem bindC_out {kindOf : Str->Option NameKind} {x : Str} : ∀ {binds : List (Str × Value)} {m : Str->Option Value},(∀ v,(x,v) ∉ binds)->bindC kindOf binds m x = m x
 | [],_,_=>rfl
 | (n,v) :: r,m,h=>by
  unfold bindC
  rw [bindC_out fun w hw=>h w (List.mem_cons_of_mem _ hw)]
  split
  ·rfl
  ·have : x ≠ n:=by rintro rfl;exact h v List.mem_cons_self
   simp [this]
theorem bindL_get {kindOf : Str->Option NameKind} {x : Str} {v : Value} : ∀ {P : List Str} {vs : List Value} {i : Nat} {m : Str->Option Value},P.Nodup->P[i]? = some x->vs[i]? = some v->kindOf x = some .local->
  bindL kindOf (P.zip vs) m x = some v
 | [],_,_,_,_,h,_,_=>by simp at h
 | _ :: _,[],_,_,_,_,h,_=>by simp at h
 | p :: P,w :: vs,0,m,nd,h1,h2,hk=>by
  simp at h1 h2;subst h1;subst h2
  show bindL kindOf ((p,w) :: P.zip vs) m p = _
  unfold bindL
  rw [bindL_out fun v hv=>(List.nodup_cons.mp nd).1 (List.of_mem_zip hv).1,if_pos hk]
  simp
 | p :: P,w :: vs,i + 1,m,nd,h1,h2,hk=>by
  show bindL kindOf ((p,w) :: P.zip vs) m x = _
  unfold bindL
  exact bindL_get (i:=i) (List.nodup_cons.mp nd).2 (by simpa using h1) (by simpa using h2) hk
theorem bindC_get {kindOf : Str->Option NameKind} {x : Str} {v : Value} : ∀ {P : List Str} {vs : List Value} {i : Nat} {m : Str->Option Value},P.Nodup->P[i]? = some x->vs[i]? = some v->kindOf x ≠ some .local->
  bindC kindOf (P.zip vs) m x = some v
 | [],_,_,_,_,h,_,_=>by simp at h
 | _ :: _,[],_,_,_,_,h,_=>by simp at h
 | p :: P,w :: vs,0,m,nd,h1,h2,hk=>by
  simp at h1 h2;subst h1;subst h2
  show bindC kindOf ((p,w) :: P.zip vs) m p = _
  unfold bindC
  rw [bindC_out fun v hv=>(List.nodup_cons.mp nd).1 (List.of_mem_zip hv).1,if_neg hk]
  simp
 | p :: P,w :: vs,i + 1,m,nd,h1,h2,hk=>by
  show bindC kindOf ((p,w) :: P.zip vs) m x = _
  unfold bindC
  exact bindC_get (i:=i) (List.nodup_cons.mp nd).2 (by simpa using h1) (by simpa using h2) hk
noncomputable def start (N : List Str) (vs : List V) : St:=vs.map some ++ List.replicate (N.length - vs.length) none
noncomputable def cxOf (CX : CXT) (P : Program) (w : World) (K : PySem.W.Frag) (mg : Str->Option Value) (base : Heap) (N : List Str) (qual : Str) (scope : Scope) (f : Addr) (cd : Value) (A : Around) (outer : List Env) (s : Shared) (H : Hp) (E : XK) : Cx where
 prog:=P
 w:=w
 K:=K
 mg:=mg
 base:=base
 A:=A.deeper (envOfC qual scope s.heap.objs.size f cd)
 N:=N
 s₀:=s
 H₀:=H
 env:=envOfC qual scope s.heap.objs.size f cd
 outer:=outer
 stack:=envOfC qual scope s.heap.objs.size f cd :: outer
 ex:=[]
 calm:=true
 fn:=fun _=>true
 pn:=[]
 xe:=fun e s'=>wpAny (model P w) (A.deeper (envOfC qual scope s.heap.objs.size f cd)) (leaving (envOfC qual scope s.heap.objs.size f cd) e) (fun _ s''=>CX outer H s E e s'') (fun e' s''=>CX outer H s E e' s'') s'
theorem cell_has {sc : Scope} {n : Nat} {x : Str} (h : sc.names.lookup x = some .cell) : ∃ c,(cellsFrom n sc.names []).lookup x = some c:=by
 have q:=PySem.W.cellsFrom_some sc.names n [] (.inl h)
 exact Option.isSome_iff_exists.mp q
theorem inv_start {CX : CXT} {P : Program} {w : World} {K : PySem.W.Frag} {mg : Str->Option Value} {base : Heap} {N ps : List Str} {qual : Str} {scope : Scope} {f : Addr} {cd : Value} {A : Around} {outer : List Env} {s s1 : Shared} {H : Hp} {E : XK} {us : List Value} {vs : List V}
  (S : FnScope N ps scope) (hd : A.handled = none) (e0 : Env0 P w K mg base A outer s H) (hl : vs.length = ps.length) (r : Vals vs us)
  (x : InCallC s s.heap.objs.size (bindL (envOfC qual scope s.heap.objs.size f cd).kindOf (ps.zip us) fun _=>none) (cellsFrom (s.heap.objs.size + 1) scope.names []) (bindC (envOfC qual scope s.heap.objs.size f cd).kindOf (ps.zip us) fun _=>none) s1) :
  Inv (cxOf CX P w K mg base N qual scope f cd A outer s H E) [] (start N vs) H s1:=by
 have hpl : ps.length<=N.length:=by have:=congrArg List.length S.pre;rw [List.length_take] at this;lia
 obtain ⟨h1,tk,rfl,hk⟩:=x.done
 have noA : ∀ b : Addr,b ∉ (cxOf CX P w K mg base N qual scope f cd A outer s H E).ex:=fun b z=>absurd (show b ∈ ([] : List Addr) from z) (by simp)
 refine ⟨⟨e0.mod,S.kind,rfl,rfl,Nat.le_refl _,fun y z c h1 h2=>?_,fun y hy=>?_,fun y c _ h=>?_,fun _=>hd,Around.frames_deeper e0.frames,.inr ⟨rfl,rfl⟩,fun b z=>absurd z (noA b),e0.bs,e0.bsz,fun b _ _=>noA b,fun b z=>absurd z (noA b),e0.funs,e0.frf⟩,
  rfl,e0.bare,Un.kept hk,⟨_,x.toInCall.ns,fun i y v h1 h2 h3=>?_⟩,fun y c h=>⟨_,x.cell y c h⟩,e0.hok.fresh (Nat.le_refl _),fun y c h=>?_,fun p hp=>absurd (show p ∈ ([] : List (Addr × Obj)) from hp) (by simp),e0.hok.kept hk,?_⟩
 ·exact name_of_addr x.apart (PySem.mem_of_lookup h1) (PySem.mem_of_lookup h2)
 ·have hy : scope.names.lookup y = some .cell\/scope.names.lookup y = some .free:=hy
  rcases hy with hy | hy
  ·exact cell_has hy
  ·exact absurd rfl (S.nofree _ (PySem.mem_of_lookup hy))
 ·exact Nat.le_of_lt (x.above y c (PySem.mem_of_lookup h))
 ·have hi : i < vs.length:=by
   unfold start at h2
   by_cases hi : i < vs.length
   ·exact hi
   ·rw [List.getElem?_append_right (by simpa using hi)] at h2
    rw [List.getElem?_replicate] at h2
    split at h2 <;> cases h2
  have ha : vs[i]? = some v:=by
   unfold start at h2
   rw [List.getElem?_append_left (by simpa using hi),List.getElem?_map] at h2
   cases e : vs[i]? with
   | none=>rw [e] at h2;cases h2
   | some a=>rw [e] at h2;cases h2;rfl
  obtain ⟨u,hu,rv⟩:=r.get ha
  have hp : ps[i]? = some y:=by
   rw [<- S.pre,List.getElem?_take_of_lt (by lia)];exact h1
  have ndP : ps.Nodup:=by rw [<- S.pre];exact S.nd.sublist (List.take_sublist _ _)
  refine ⟨u,rv,?_⟩
  rcases S.par y (List.mem_of_getElem? hp) with k | k
  ·exact .inl ⟨k,bindL_get ndP hp hu k⟩
  ·obtain ⟨c,e⟩:=cell_has (n:=s.heap.objs.size + 1) k
   refine .inr ⟨.inl k,c,e,?_⟩
   have q:=x.cell y c e
   rw [bindC_get ndP hp hu (by show scope.names.lookup y ≠ _;rw [k];decide)] at q
   exact q
 ·exact e0.hok.fresh (Nat.le_of_lt (x.above y c (PySem.mem_of_lookup h)))
 ·unfold start
  show _ = N.length
  rw [List.length_append,List.length_map,List.length_replicate]
  lia
theorem fn_of {CX : CXT} {P : Program} {w : World} {K : PySem.W.Frag} {mg : Str->Option Value} {base : Heap} {k : Nat} {f : Addr} {name qual : Str} {params : Arguments} {body : List Stmt} {scope : Scope} {dV kV doc pm cdv ct oc : Value} {an od : Option Addr}
  {osl : Array (Option Value)} {N ps : List Str} {sp : Sp} (lk : K.lookup f = some ⟨oc,od,.func (PySem.W.fnOf name qual params body scope dV kV doc pm an cdv ct),osl⟩) (hcd : PySem.W.codeIn K cdv qual = true) (S : FnScope N ps scope)
  (len : ∀ vs H Q E,sp vs H Q E->vs.length = ps.length)
  (hbody : ∀ (A : Around) (outer : List Env) (s : Shared) (H : Hp) (vs : List V) (Q : VK) (E : XK),Room k (A.deeper (envOfC qual scope s.heap.objs.size f cdv))->sp vs H Q E->
   ∃ t,PSs (cxOf CX P w K mg base N qual scope f cdv A outer s H E) body t/\t { nx:=fun _ H'=>Q .non H',rt:=Q } (start N vs) H) :
  FnOk P w K mg base CX (k + 1) f (PySem.W.fnOf name qual params body scope dV kV doc pm an cdv ct) ps sp:=by
 refine ⟨len,fun A outer s H args us vs Q E hr e0 hb r hsp=>?_⟩
 have hl:=len _ _ _ _ hsp
 have KX : K.In s.heap:=e0.mod.kin.keeps fun b o e=>(e0.bs b o e).1
 have lim : s.heap.NoLimit:=e0.mod.nolimit.keeps fun b o e=>(e0.bs b o e).1
 have hkind : ∀ y ∈ ps.zip us,scope.names.lookup y.1 = some .local\/(scope.names.lookup y.1 = some .cell/\((cellsFrom (s.heap.objs.size + 1) scope.names []).lookup y.1).isSome = true):=fun ⟨n,v⟩ hy=>by
  rcases S.par n (List.of_mem_zip hy).1 with q | q
  ·exact .inl q
  ·exact .inr ⟨q,PySem.W.cellsFrom_some _ _ _ (.inl q)⟩
 refine codeAny_call_function hr.depth (KX _ _ lk) rfl S.co S.gen rfl (PySem.W.codeRec_of KX hcd) (hb _ _ _ _ ?_)
 refine wpAny_newFunctionEnv_cells S.kind hkind fun env he s1 x=>?_
 subst he
 refine ⟨lim.keeps x.toInCall.keep,codeAny_func ?_⟩
 obtain ⟨t,ht,hq⟩:=hbody A outer s H vs Q E (hr.deeper _) hsp
 have I : Inv (cxOf CX P w K mg base N qual scope f cdv A outer s H E) [] (start N vs) H s1:=inv_start S hr.hd e0 hl r x
 refine wpAny_mono (ht [] s1 (start N vs) H _ I hq) (fun fl s' hs=>?_) fun e s' hs=>hs
 have fin : ∀ {σ' : St} {H' : Hp} {v : V} {u : Value},Inv (cxOf CX P w K mg base N qual scope f cdv A outer s H E) [] σ' H' s'->RelV v u->Q v H'->CE outer P w H s Q u s':=
  fun {σ' H' v u} J rv q=>⟨v,H',J.os,J.bare,J.base,J.hok,rv,q⟩
 cases fl with
 | ret u=>
  obtain ⟨v,σ',H',J,rv,q⟩:=hs
  exact fin J rv q
 | next=>
  obtain ⟨σ',H',J,q⟩:=hs
  exact fin (v:=V.non) (u:=Value.none) J rfl q
 | brk=>
  obtain ⟨_,_,_,q⟩:=hs
  exact False.elim q
 | cont=>
  obtain ⟨_,_,_,q⟩:=hs
  exact False.elim q
end L2
namespace L2
open PySem PySem.Spec PyProof.Rows
section
variable {X : Cx} {x : Str} {p pos : Pos} {e : Expr} {es : List Expr} {t : TA} {id T : String} {r : List V->Hp->VK->Prop}
noncomputable def tCB (r : List V->Hp->VK->Prop) (t : TA) : TE:=fun σ H Q=>t σ H fun vs H1=>r vs H1 Q
theorem pe_callB (hc : CallR X (.builtin id) r) (hg : Gl X x) (hm : X.mg x = none) (hv : bootBuiltins x = some (.builtin id)) (ha : PA X (e :: es) t) (hn : x ≠ "__name__":=by decide) (hdb : (x == ("__debug__" : Str)) = false:=by decide)
  (he : starEach (e :: es) X.env = (false,eval e X.env) :: starEach es X.env:=by rfl) (hpl : (backTo pos (starEach es X.env)).any (·.1) = false:=by rfl) : PE X (.Call (.Name x p) (e :: es) [] pos) (tCB r t):=by
 intro pins s σ H Q I h
 refine wpAny_Call_Name_kw (ld_blt I hg hm hv ?_ hn hdb)
 exact PyProof.Rows.callWith_builtin1 (thn (ha pos pins s σ H _ I h) fun us s1 ⟨vs,H1,I1,r1,q1⟩=>hc pins s1 σ H1 vs us Q I1 r1 q1) he hpl
theorem pe_callTy (hc : CallR X (.type T) r) (hg : Gl X x) (hm : X.mg x = none) (hv : bootBuiltins x = some (.type T)) (ha : PA X (e :: es) t) (hn : x ≠ "__name__":=by decide) (hdb : (x == ("__debug__" : Str)) = false:=by decide)
  (he : starEach (e :: es) X.env = (false,eval e X.env) :: starEach es X.env:=by rfl) (hpl : (backTo pos (starEach es X.env)).any (·.1) = false:=by rfl) : PE X (.Call (.Name x p) (e :: es) [] pos) (tCB r t):=by
 intro pins s σ H Q I h
 refine wpAny_Call_Name_kw (ld_blt I hg hm hv ?_ hn hdb)
 exact PyProof.Rows.callWith_type1 (thn (ha pos pins s σ H _ I h) fun us s1 ⟨vs,H1,I1,r1,q1⟩=>hc pins s1 σ H1 vs us Q I1 r1 q1) he hpl
end
end L2
namespace HT
open PySem PyProof.Rows
section
open PySem.SeqAt
open PySem.AutoSeq1 (wpAny_loadPart')
open PySem.MeetsSeq PySem.MeetsSeq2 PySem.MeetsSeq3
end
section
variable {prog : Program} {w : World} {A : Around} {E : Value->Shared->Prop} {s : Shared}
theorem cat_tup {t b : Addr} {vs ws : List Value} {Q : Value->Shared->Prop} (ht : IsTup s.heap t vs.toArray) (hb : IsTup s.heap b ws.toArray) (hv : vs ≠ [])
  (h1 : ws = []->Q (.ref t) s) (h2 : ws ≠ []->Q (.ref s.heap.objs.size) { s with heap:=s.heap.push { cls:=.type "tuple",data:=.seq (vs ++ ws).toArray } })
  (hsz : vs.length + ws.length<=sizeLine) : wpAny (model prog w) A (binaryOp .Add (.ref t) (.ref b)) Q E s:=by
 obtain ⟨⟨cls,dd,data,sl⟩,ho,hc,n,hd⟩:=id ht
 obtain ⟨⟨cls2,dd2,data2,sl2⟩,ho2,hc2,n2,hd2⟩:=id hb
 simp only at hc hd hc2 hd2
 subst hc hd hc2 hd2
 have e : vs.toArray ++ ws.toArray = (vs ++ ws).toArray:=by simp
 by_cases hw : ws = []
 ·exact concat_meets ⟨_,ho,rfl⟩ ⟨_,ho2,rfl⟩ noFill_tuple_add seq_tuple_add PySem.F.slot_tuple_add PySem.F.entry_tuple_add (PySem.F.args_tuple_add_2 _ _)
   (tuple_addW1 t b vs.toArray ws.toArray n n2 dd dd2 sl sl2 (by simpa using hv) (by simp [hw])) ⟨ho,ho2,h1 hw⟩
 ·refine concat_meets ⟨_,ho,rfl⟩ ⟨_,ho2,rfl⟩ noFill_tuple_add seq_tuple_add PySem.F.slot_tuple_add PySem.F.entry_tuple_add (PySem.F.args_tuple_add_2 _ _)
   (tuple_addW2 t b vs.toArray ws.toArray n n2 dd dd2 sl sl2 (by simpa using hv) (by simpa using hw) (by rw [List.size_toArray,List.size_toArray];exact hsz)) ⟨ho,ho2,?_⟩
  rw [e]
  exact h2 hw
noncomputable def sIx (n d : Nat) : Option Int->Nat
 | none=>d
 | some v=>if v < 0 then (v + (n : Int)).toNat else min v.toNat n
theorem sIx_le (n d : Nat) (hd : d<=n) (o : Option Int) : sIx n d o<=n:=by
 cases o with
 | none=>exact hd
 | some v=>
  show (if v < 0 then (v + (n : Int)).toNat else min v.toNat n)<=n
  by_cases hv : v < 0
  ·rw [if_pos hv];lia
  ·rw [if_neg hv];exact Nat.min_le_right _ _
theorem clip_eq (v : Int) (n d : Nat) : (if v < 0 then max (v + (n : Int)) 0 else min v (n : Int)) = ((sIx n d (some v) : Nat) : Int):=by
 show (if v < 0 then max (v + (n : Int)) 0 else min v (n : Int)) = (((if v < 0 then (v + (n : Int)).toNat else min v.toNat n) : Nat) : Int)
 by_cases hv : v < 0
 ·simp only [if_pos hv];lia
 ·simp only [if_neg hv];lia
theorem adjust_gen (lo hi : Option Int) (n : Nat) : Builtin.Slice.sliceAdjust lo hi 1 (n : Int) = (((sIx n 0 lo : Nat) : Int),((sIx n n hi : Nat) : Int)):=by
 have h1 : ¬ ((1 : Int) < 0):=by lia
 unfold Builtin.Slice.sliceAdjust
 simp only [h1,if_false]
 refine Prod.ext ?_ ?_
 ·cases lo with
  | none=>rfl
  | some v=>exact clip_eq v n 0
 ·cases hi with
  | none=>rfl
  | some v=>exact clip_eq v n n
theorem places_gen (i j : Nat) : Builtin.Slice.slicePlaces (i : Int) (j : Int) 1 = j - i:=by
 unfold Builtin.Slice.slicePlaces
 have h1 : (1 : Int) > 0:=by lia
 simp only [h1,if_true,Int.ediv_one]
 split <;> lia
theorem slicePart_ {v : Value} {o : Option Int} {Q : Option Int->Shared->Prop} (p : IsPart v o) (h : Q o s) : wpAny (model prog w) A (Builtin.Slice.slicePartIndex v) Q E s:=by
 cases p with
 | none=>exact slicePart_none h
 | int i t=>exact slicePart_int h
theorem sliceApplied_gen {sl : Addr} {vl vu : Value} {lo hi : Option Int} {n : Nat} {Q : Int × Int × Nat->Shared->Prop} (hs : s.heap.IsSliceOf sl vl vu .none) (pl : IsPart vl lo) (pu : IsPart vu hi)
  (h : Q (((sIx n 0 lo : Nat) : Int),1,sIx n n hi - sIx n 0 lo) s) : wpAny (model prog w) A (Builtin.Slice.sliceApplied (.ref sl) (pure (n : Int))) Q E s:=by
 obtain ⟨os,hos,hcs,hds⟩:=id hs
 unfold Builtin.Slice.sliceApplied Builtin.Slice.sliceFields
 refine wpAny_bind (wpAny_bind (wpAny_field hos hds (x:=vl) rfl (wpAny_bind (wpAny_field hos hds (x:=vu) rfl (wpAny_bind (wpAny_field hos hds (x:=.none) rfl (wpAny_pure ?_)))))))
 refine wpAny_bind (slicePart_none ?_)
 show wpAny _ _ (if ((1 : Int) == 0) = true then _ else _) _ _ s
 rw [if_neg (by decide)]
 refine wpAny_bind (slicePart_ pl (wpAny_bind (slicePart_ pu (wpAny_bind (wpAny_pure ?_)))))
 show wpAny _ _ (match Builtin.Slice.sliceAdjust lo hi 1 (n : Int) with | (lo,hi)=>pure (lo,(1 : Int),Builtin.Slice.slicePlaces lo hi 1)) _ _ s
 rw [adjust_gen lo hi n]
 show wpAny _ _ (pure (((sIx n 0 lo : Nat) : Int),(1 : Int),Builtin.Slice.slicePlaces ((sIx n 0 lo : Nat) : Int) ((sIx n n hi : Nat) : Int) 1)) _ _ s
 rw [places_gen]
 exact wpAny_pure h
theorem pick_gen (xs : Array Value) (i k : Nat) : ((List.range k).filterMap fun (m : Nat)=>xs[((i : Int) + (m : Int) * 1).toNat]?).toArray = ((xs.toList.drop i).take k).toArray:=by
 have e : (fun (m : Nat)=>xs[((i : Int) + (m : Int) * 1).toNat]?) = fun m=>xs[i + m]?:=by
  funext m
  have : ((i : Int) + (m : Int) * 1).toNat = i + m:=by lia
  rw [this]
 rw [e]
 have:=pick_run xs i k
 rw [List.filterMap_map] at this
 have e2 : ((fun x=>xs[x]?) ∘ fun x=>i + x) = fun m=>xs[i + m]?:=rfl
 rw [e2] at this
 rw [this]
theorem getItem_tuple_cut {t sl : Addr} {items : Array Value} {vl vu : Value} {lo hi : Option Int} {Q : Value->Shared->Prop} (ht : IsTup s.heap t items) (hs : s.heap.IsSliceOf sl vl vu .none) (pl : IsPart vl lo) (pu : IsPart vu hi)
  (hw : ¬ (sIx items.size 0 lo = 0/\sIx items.size items.size hi = items.size))
  (h : Q (.ref s.heap.objs.size) { s with heap:=s.heap.push { cls:=.type "tuple",data:=.seq ((items.toList.drop (sIx items.size 0 lo)).take (sIx items.size items.size hi - sIx items.size 0 lo)).toArray } })
  (hsz : items.size<=sizeLine) : wpAny (model prog w) A (getItem (.ref t) (.ref sl)) Q E s:=by
 have htake : sizeOk (.seq ((items.toList.drop (sIx items.size 0 lo)).take (sIx items.size items.size hi - sIx items.size 0 lo)).toArray):=by
  show ((items.toList.drop (sIx items.size 0 lo)).take (sIx items.size items.size hi - sIx items.size 0 lo)).toArray.size<=sizeLine
  rw [List.size_toArray,List.length_take,List.length_drop,Array.length_toList]
  lia
 have hj : sIx items.size items.size hi<=items.size:=sIx_le _ _ (Nat.le_refl _) hi
 obtain ⟨os,hos,hcs,hds⟩:=id hs
 have hTs : s.TypeIs (.ref sl) "slice":=⟨os,hos,hcs⟩
 unfold getItem
 try with_reducible refine wpAny_holding ?_
 first | refine wpAny_bind (wpAny_pure ?_) | skip
 refine wpAny_bind (wpAny_sequenceKey ht.typeIs (by decide) ?_)
 refine wpAny_bind (wpAny_callSpecial?_slot (name:=Str.ofString "__getitem__") ht.typeIs PyProof.Rows.slot_tuple_getitem
  (wpAny_call_entry PyProof.Rows.slot_tuple_getitem ht.typeIs entry_tuple_getitem ?_ (args_tuple_getitem _ _)))
 show wpAny _ _ (Builtin.Tuple.tupleItemsOf (.ref t) >>= _) _ _ s
 refine wpAny_bind (tupleItemsOf_ ht ?_)
 refine wpAny_bind (wpAny_typeOf hTs ?_)
 rw [if_pos (by decide)]
 refine wpAny_bind (sliceApplied_gen hs pl pu ?_)
 have hno : ¬ ((((sIx items.size 0 lo : Nat) : Int) == 0 && (1 : Int) == 1 && (sIx items.size items.size hi - sIx items.size 0 lo) == items.size) = true):=by
  intro q
  rw [Bool.and_eq_true,Bool.and_eq_true] at q
  have q1 : ((sIx items.size 0 lo : Nat) : Int) = 0:=eq_of_beq q.1.1
  have q2 : sIx items.size items.size hi - sIx items.size 0 lo = items.size:=eq_of_beq q.2
  exact hw ⟨by lia,by lia⟩
 show wpAny _ _ (if (((sIx items.size 0 lo : Nat) : Int) == 0 && (1 : Int) == 1 && (sIx items.size items.size hi - sIx items.size 0 lo) == items.size) = true then _ else _) _ _ s
 rw [if_neg hno,pick_gen]
 first
  | exact wpAny_bind (m:=Builtin.Tuple.tupleExact _) (wpAny_newObj_type (wpAny_pure ⟨_,rfl,wpAny_pure h⟩) htake)
  | exact wpAny_bind (m:=Builtin.Tuple.tupleExact _) (wpAny_newObj_type (wpAny_bind (wpAny_pure (wpAny_pure ⟨_,rfl,wpAny_pure h⟩))) htake)
  | exact wpAny_bind (wpAny_bind (m:=Builtin.Tuple.tupleExact _) (wpAny_newObj_type (wpAny_pure (wpAny_pure ⟨_,rfl,wpAny_pure h⟩)) htake))
  | exact wpAny_bind (wpAny_bind (m:=Builtin.Tuple.tupleExact _) (wpAny_newObj_type (wpAny_pure ⟨_,rfl,wpAny_pure h⟩) htake))
end
end HT
namespace L2
open PySem PySem.Spec PyProof.Rows
noncomputable abbrev TO:=St->Hp->(Option Int->Hp->Prop)->Prop
noncomputable def PO (X : Cx) (e : Option Expr) (t : TO) : Prop:=
 ∀ (pins : List (Addr × Obj)) (s : Shared) (σ : St) (H : Hp) (Q : Option Int->Hp->Prop),Inv X pins σ H s->t σ H Q->
  wpAny (model X.prog X.w) X.A (evalPart e X.env) (fun u s'=>∃ o H',Inv X pins σ H' s'/\IsPart u o/\Q o H') X.xe s
noncomputable def tNoPart : TO:=fun _ H Q=>Q none H
noncomputable def tPart (t : TE) : TO:=fun σ H Q=>t σ H fun x H1=>∃ i,x = .int i/\Q (some i) H1
section
variable {X : Cx} {e : Expr} {te : TE} {lo hi : Option Expr} {tl th : TO} {pos p2 : Pos}
theorem po_none : PO X none tNoPart:=by
 intro pins s σ H Q I h
 rw [evalPart_none]
 exact wpAny_pure ⟨none,H,I,.none,h⟩
theorem po_some (h : PE X e te) : PO X (some e) (tPart te):=by
 intro pins s σ H Q I hw
 rw [evalPart_some]
 refine thn (h pins s σ H _ I hw) fun u s1 ⟨x,H1,I1,r1,q1⟩=>?_
 obtain ⟨i,rfl,q⟩:=q1
 obtain ⟨t,rfl⟩:=r1
 exact ⟨some i,H1,I1,.int i t,q⟩
noncomputable def SlR (X : Cx) (r : V->Option Int->Option Int->Hp->VK->Prop) : Prop:=
 ∀ (pins : List (Addr × Obj)) (s : Shared) (σ : St) (H : Hp) (x : V) (v vl vu : Value) (lo hi : Option Int) (sl : Addr) (Q : VK),Inv X pins σ H s->RelV x v->s.heap.IsSliceOf sl vl vu .none->IsPart vl lo->IsPart vu hi->r x lo hi H Q->
  ∃ T id,typeLookup (.type T) "__getitem__" = pure (some (.builtin id))/\s.TypeIs v T/\wpAny (model X.prog X.w) X.A (getItem v (.ref sl)) (EP X pins σ Q) X.xe s
noncomputable def tSl (r : V->Option Int->Option Int->Hp->VK->Prop) (te : TE) (tl th : TO) : TE:=fun σ H Q=>te σ H fun x H1=>tl σ H1 fun l H2=>th σ H2 fun u H3=>r x l u H3 Q
theorem pe_slice {r : V->Option Int->Option Int->Hp->VK->Prop} (hr : SlR X r) (he : PE X e te) (hl : PO X lo tl) (hu : PO X hi th) : PE X (.Subscript e (.Slice lo hi none p2) pos) (tSl r te tl th):=by
 intro pins s σ H Q I h
 refine Subscript_ (thn (he pins s σ H _ I h) fun v s1 ⟨x,H1,I1,r1,q1⟩=>?_)
 refine wpAny_Slice (thn (hl pins s1 σ H1 _ I1 q1) fun vl s2 ⟨l,H2,I2,pl,q2⟩=>thn (hu pins s2 σ H2 _ I2 q2) fun vu s3 ⟨u,H3,I3,pu,q3⟩=>?_)
 rw [evalPart_none]
 refine wpAny_pure ?_
 have I4 : Inv X pins σ H3 { s3 with heap:=s3.heap.push { cls:=.type "slice",data:=.fields #[vl,vu,.none] } }:=I3.kept (t':=s3.toks) fun b ob q=>Heap.get?_push_of_some _ q
 obtain ⟨T,id,hT,ht,hg⟩:=hr pins { s3 with heap:=s3.heap.push { cls:=.type "slice",data:=.fields #[vl,vu,.none] } } σ H3 x v vl vu l u s3.heap.objs.size Q I4 r1 (Heap.IsSliceOf.new ..) pl pu q3
 show wpAny (model X.prog X.w) X.A (subscriptTail e (.Slice lo hi none p2) v (.ref s3.heap.objs.size)) (EP X pins σ Q) X.xe { s3 with heap:=s3.heap.push { cls:=.type "slice",data:=.fields #[vl,vu,.none] } }
 exact tail_any (ops:=[.ref s3.heap.objs.size,v]) ht hT hg (by with_unfolding_all rfl)
noncomputable def cutV (xs : List V) (lo hi : Option Int) : List V:=(xs.drop (HT.sIx xs.length 0 lo)).take (HT.sIx xs.length xs.length hi - HT.sIx xs.length 0 lo)
theorem cutV_length (xs : List V) (lo hi : Option Int) : (cutV xs lo hi).length<=xs.length:=by
 unfold cutV
 rw [List.length_take,List.length_drop]
 lia
noncomputable def rSlT (K : PySem.W.Frag) : V->Option Int->Option Int->Hp->VK->Prop:=fun x lo hi H Q=>∃ a xs,x = .ref a/\SqT K H a xs/\
 ¬ (HT.sIx xs.length 0 lo = 0/\HT.sIx xs.length xs.length hi = xs.length)/\∀ p,H p = none->Q (.ref p) (upd H p (.tup (cutV xs lo hi)))
theorem sl_tup : SlR X (rSlT X.K):=by
 intro pins s σ H x v vl vu lo hi sl Q I rx hs pl pu h
 obtain ⟨a,xs,rfl,hx,hw,q⟩:=h
 cases rx
 obtain ⟨its,r,ht,hz⟩:=I.tuple hx
 have hlen : its.toArray.size = xs.length:=by rw [List.size_toArray];exact r.length.symm
 refine ⟨"tuple",_,PyProof.Rows.slot_tuple_getitem.lookup,ht.typeIs,?_⟩
 refine HT.getItem_tuple_cut ht hs pl pu (by rw [hlen];exact hw) ?_ (by rw [hlen];exact hz)
 rw [hlen]
 refine ⟨.ref s.heap.objs.size,_,I.laid (t':=s.toks) (o:=.tup (cutV xs lo hi)) (fun b ob q=>Heap.get?_push_of_some _ q) (Nat.le_refl _) ?_,rfl,q _ (I.hok.fresh (Nat.le_refl _))⟩
 exact ⟨Nat.le_trans (cutV_length xs lo hi) hz,_,(r.drop (HT.sIx xs.length 0 lo)).take (HT.sIx xs.length xs.length hi - HT.sIx xs.length 0 lo),IsTup.new _ _⟩
noncomputable def rCatT (K : PySem.W.Frag) : R2:=fun x y H Q=>∃ a b xs ys,x = .ref a/\y = .ref b/\SqT K H a xs/\SqT K H b ys/\xs ≠ []/\xs.length + ys.length<=sizeLine/\
 (ys = []->Q (.ref a) H)/\(ys ≠ []->∀ p,H p = none->Q (.ref p) (upd H p (.tup (xs ++ ys))))
theorem Vals.nil_iff {xs : List V} {us : List Value} (r : Vals xs us) : us = [] ↔ xs = []:=by
 cases r with
 | nil=>simp
 | cons _ _=>simp
theorem op_catT : OpR X (binaryOp .Add) (rCatT X.K):=by
 intro pins s σ H x y v u Q I rx ry h
 obtain ⟨a,b,xs,ys,rfl,rfl,ha,hb,hx,hz,q1,q2⟩:=h
 cases rx
 cases ry
 obtain ⟨its,r1,p1,_⟩:=I.tuple ha
 obtain ⟨its2,r2,p2,_⟩:=I.tuple hb
 refine HT.cat_tup p1 p2 (fun z=>hx (r1.nil_iff.mp z)) (fun z=>⟨.ref a,H,I,rfl,q1 (r2.nil_iff.mp z)⟩) (fun z=>?_) (by rw [<- r1.length,<- r2.length];exact hz)
 refine ⟨.ref s.heap.objs.size,_,I.laid (t':=s.toks) (o:=.tup (xs ++ ys)) (fun b ob q=>Heap.get?_push_of_some _ q) (Nat.le_refl _) ?_,rfl,q2 (fun w=>z (r2.nil_iff.mpr w)) _ (I.hok.fresh (Nat.le_refl _))⟩
 exact ⟨by rw [List.length_append];exact hz,_,r1.append r2,IsTup.new _ _⟩
end
end L2
namespace L2
open PySem PySem.Spec PyProof.Rows
noncomputable def ixN (n : Nat) (i : Int) : Option Nat:=if 0<=i then (if i < n then some i.toNat else none) else if -(n : Int)<=i then some (i + n).toNat else none
noncomputable def atI {α : Type} (xs : List α) (i : Int) : Option α:=(ixN xs.length i).bind fun j=>xs[j]?
theorem ixN_seq {n : Nat} {i : Int} {j : Nat} (h : ixN n i = some j) : seqIndex? i n = some j/\j < n/\-(n : Int)<=i/\i < n:=by
 unfold ixN at h
 by_cases h0 : 0<=i
 ·rw [if_pos h0] at h
  by_cases h1 : i < n
  ·rw [if_pos h1] at h
   have e : i.toNat = j:=Option.some.inj h
   exact ⟨by rw [seqIndex_of h0 h1,e],by lia,by lia,h1⟩
  ·rw [if_neg h1] at h;cases h
 ·rw [if_neg h0] at h
  by_cases h1 : -(n : Int)<=i
  ·rw [if_pos h1] at h
   have e : (i + n).toNat = j:=Option.some.inj h
   exact ⟨by rw [seqIndex_neg (by lia) h1,e],by lia,h1,by lia⟩
  ·rw [if_neg h1] at h;cases h
theorem atI_get {α : Type} {xs : List α} {i : Int} {v : α} (h : atI xs i = some v) : ∃ j,seqIndex? i xs.length = some j/\xs[j]? = some v/\j < xs.length/\-(xs.length : Int)<=i/\i < xs.length:=by
 unfold atI at h
 cases e : ixN xs.length i with
 | none=>rw [e] at h;cases h
 | some j=>
  rw [e] at h
  obtain ⟨h1,h2,h3,h4⟩:=ixN_seq e
  exact ⟨j,h1,h,h2,h3,h4⟩
noncomputable def PlainIx (b : Expr) : Prop:=∀ o i,subscripted b false o i = operate [o,i] (getItem o i)
noncomputable def IxR (X : Cx) (r : R2) : Prop:=
 ∀ (value slice : Expr) (pins : List (Addr × Obj)) (s : Shared) (σ : St) (H : Hp) (x y : V) (v u : Value) (Q : VK),Inv X pins σ H s->RelV x v->RelV y u->r x y H Q->
  subscripted slice false v u = operate [v,u] (getItem v u)->wpAny (model X.prog X.w) X.A (subscriptTail value slice v u) (EP X pins σ Q) X.xe s
noncomputable def MtR (X : Cx) (id : String) (r : V->List V->Hp->VK->Prop) : Prop:=
 ∀ (pins : List (Addr × Obj)) (s : Shared) (σ : St) (H : Hp) (x : V) (xs : List V) (v : Value) (us : List Value) (Q : VK),Inv X pins σ H s->RelV x v->Vals xs us->r x xs H Q->
  wpAny (model X.prog X.w) X.A (call (.builtin id) (v :: us)) (EP X pins σ Q) X.xe s
section
variable {X : Cx} {a b : Expr} {ta tb : TE} {pos : Pos}
theorem pe_ix {r : R2} (hr : IxR X r) (ha : PE X a ta) (hb : PE X b tb) (hs : PlainIx b) : PE X (.Subscript a b pos) (tOp r ta tb):=by
 intro pins s σ H Q I h
 exact Subscript_ (binT ha hb I h fun v u s2 x y H2 I2 rx ry q=>hr a b pins s2 σ H2 x y v u Q I2 rx ry q (hs _ _))
noncomputable def rIxL (K : PySem.W.Frag) : R2:=fun x y H Q=>∃ p xs i v,x = .ref p/\y = .int i/\SqL K H p xs/\atI xs i = some v/\Q v H
noncomputable def rIxT (K : PySem.W.Frag) : R2:=fun x y H Q=>∃ p xs i v,x = .ref p/\y = .int i/\SqT K H p xs/\atI xs i = some v/\Q v H
noncomputable def rIxS : R2:=fun x y H Q=>∃ z i c,x = .str z/\y = .int i/\z.length<=sizeLine/\atI z.cps.toList i = some c/\Q (.str ⟨#[c]⟩) H
theorem ix_list : IxR X (rIxL X.K):=by
 intro value slice pins s σ H x y v u Q I rx ry h hs
 obtain ⟨p,xs,i,z,rfl,rfl,hq,he,q⟩:=h
 cases rx
 obtain ⟨t,rfl⟩:=ry
 obtain ⟨its,r,pl,hz⟩:=I.list hq
 obtain ⟨j,h1,h2,h3,h4,h5⟩:=atI_get he
 obtain ⟨w,ew,rw'⟩:=r.get h2
 have hl:=r.length
 have hn:=line63
 have fin : EP X pins σ Q w s:=⟨z,H,I,rw',q⟩
 by_cases h0 : 0<=i
 ·have hj : i.toNat = j:=by
   rw [seqIndex_of h0 h5] at h1
   exact Option.some.inj h1
  exact item_listR pl.isList h0 (by lia) (by rw [hj];simpa using ew) fin hs
 ·have hj : (i + (its.toArray.size : Int)).toNat = j:=by
   rw [seqIndex_neg (by lia) h4] at h1
   rw [List.size_toArray,<- hl]
   exact Option.some.inj h1
  exact subscriptTail_builtinR (x:=w) pl.isList.typeIs slot_list_getitem.lookup
   (wpAny_getItem_list_neg (Q:=fun r s'=>r = w/\EP X pins σ Q r s') pl.isList (by lia) (by rw [List.size_toArray] <;> lia) (by lia) (by rw [hj];simpa using ew) ⟨rfl,fin⟩) hs
theorem ix_tup : IxR X (rIxT X.K):=by
 intro value slice pins s σ H x y v u Q I rx ry h hs
 obtain ⟨p,xs,i,z,rfl,rfl,hq,he,q⟩:=h
 cases rx
 obtain ⟨t,rfl⟩:=ry
 obtain ⟨its,r,pl,hz⟩:=I.tuple hq
 obtain ⟨j,h1,h2,h3,h4,h5⟩:=atI_get he
 obtain ⟨w,ew,rw'⟩:=r.get h2
 have hl:=r.length
 have hn:=line63
 have fin : EP X pins σ Q w s:=⟨z,H,I,rw',q⟩
 exact subscriptTail_builtinR (x:=w) pl.typeIs slot_tuple_getitem.lookup
  (getItem_tuple (j:=j) (Q:=fun r s'=>r = w/\EP X pins σ Q r s') pl (by lia) (by lia) (by rw [List.size_toArray,<- hl];exact h1) (by simpa using ew) ⟨rfl,fin⟩) hs
theorem ix_str : IxR X rIxS:=by
 intro value slice pins s σ H x y v u Q I rx ry h hs
 obtain ⟨z,i,c,rfl,rfl,hz,he,q⟩:=h
 obtain ⟨t,rfl⟩:=rx
 obtain ⟨t',rfl⟩:=ry
 obtain ⟨j,h1,h2,h3,h4,h5⟩:=atI_get he
 have hl : z.cps.toList.length = z.length:=by simp [Str.length]
 rw [hl] at h1 h4 h5
 have hn:=line63
 exact tail_any (typeIs_str s z t) slot_str_getitem.lookup (getItem_str (c:=c) (by
  have e1 : decide (i < -(2 ^ 63 : Int)) = false:=decide_eq_false (by lia)
  have e2 : decide (i >= 2 ^ 63) = false:=decide_eq_false (by lia)
  rw [e1,e2,Bool.or_false]) (by rw [h1];simpa using h2) ⟨.str ⟨#[c]⟩,H,I.tok _,⟨_,rfl⟩,q⟩) hs
theorem slice_bounds (lo hi : Option Int) (n : Nat) : (sliceBounds lo hi none n).1 = ((HT.sIx n 0 lo : Nat) : Int)/\(sliceBounds lo hi none n).2.1 = ((HT.sIx n n hi : Nat) : Int)/\(sliceBounds lo hi none n).2.2 = 1:=by
 refine ⟨?_,?_,rfl⟩
 ·cases lo with
  | none=>simp [sliceBounds,HT.sIx]
  | some i=>
   simp only [sliceBounds,HT.sIx,Option.getD_none,show (1 : Int) > 0 by decide,if_true]
   by_cases h : i < 0
   ·simp only [h,if_true] <;> lia
   ·simp only [h,if_false] <;> lia
 ·cases hi with
  | none=>simp [sliceBounds,HT.sIx]
  | some i=>
   simp only [sliceBounds,HT.sIx,Option.getD_none,show (1 : Int) > 0 by decide,if_true]
   by_cases h : i < 0
   ·simp only [h,if_true] <;> lia
   ·simp only [h,if_false] <;> lia
theorem slicePick_cut (its : List Value) (lo hi : Option Int) : slicePick its.toArray lo hi none = ((its.drop (HT.sIx its.length 0 lo)).take (HT.sIx its.length its.length hi - HT.sIx its.length 0 lo)).toArray:=by
 obtain ⟨h1,h2,h3⟩:=slice_bounds lo hi its.toArray.size
 unfold slicePick
 rw [h1,h2,h3]
 simp only [sliceRange_one,pick_run,List.size_toArray] <;> rfl
noncomputable def rSlL (K : PySem.W.Frag) : V->Option Int->Option Int->Hp->VK->Prop:=fun x lo hi H Q=>∃ a xs,x = .ref a/\SqL K H a xs/\∀ p,H p = none->Q (.ref p) (upd H p (.lst (cutV xs lo hi)))
theorem sl_list : SlR X (rSlL X.K):=by
 intro pins s σ H x v vl vu lo hi sl Q I rx hs pl pu h
 obtain ⟨a,xs,rfl,hx,q⟩:=h
 cases rx
 obtain ⟨its,r,ht,hz⟩:=I.list hx
 have hlen:=r.length
 refine ⟨"list",_,slot_list_getitem.lookup,ht.isList.typeIs,?_⟩
 refine wpAny_getItem_list_slice ht.isList hs pl pu .none (by simp) ?_ (by rw [List.size_toArray] <;> lia)
 rw [slicePick_cut,<- hlen]
 refine ⟨.ref s.heap.objs.size,_,I.laid (t':=s.toks) (o:=.lst (cutV xs lo hi)) (fun b ob q=>Heap.get?_push_of_some _ q) (Nat.le_refl _) ?_,rfl,q _ (I.hok.fresh (Nat.le_refl _))⟩
 exact ⟨Nat.le_trans (cutV_length xs lo hi) hz,_,0,(r.drop (HT.sIx xs.length 0 lo)).take (HT.sIx xs.length xs.length hi - HT.sIx xs.length 0 lo),Heap.get?_push_size _ rfl⟩
theorem call_len_seq : CallR X (.builtin "len") (fun xs H Q=>∃ p ys,xs = [.ref p]/\(SqL X.K H p ys\/SqT X.K H p ys)/\Q (.int ys.length) H):=by
 intro pins s σ H xs us Q I r h
 obtain ⟨p,ys,rfl,hq,q⟩:=h
 obtain ⟨u,rfl,rx⟩:=vals1 r
 cases rx
 have hn:=line63
 rcases hq with hq | hq
 ·obtain ⟨its,r',pl,hz⟩:=I.list hq
  have hlen:=r'.length
  exact Calls.call_len_list pl.isList (by simp only [List.size_toArray] <;> lia) ⟨.int ys.length,H,I.tok _,⟨s.toks + 1,by rw [List.size_toArray,hlen]⟩,q⟩
 ·obtain ⟨its,r',pl,hz⟩:=I.tuple hq
  have hlen:=r'.length
  exact len_tuple pl (by simp only [List.size_toArray] <;> lia) ⟨.int ys.length,H,I.tok _,⟨s.toks + 1,by rw [List.size_toArray,hlen]⟩,q⟩
theorem call_len_str : CallR X (.builtin "len") (fun xs H Q=>∃ z,xs = [.str z]/\z.length<=sizeLine/\Q (.int z.length) H):=by
 intro pins s σ H xs us Q I r h
 obtain ⟨z,rfl,hz,q⟩:=h
 obtain ⟨u,rfl,t,rfl⟩:=vals1 r
 have hn:=line63
 exact len_str (by lia) ⟨.int z.length,H,I.tok _,⟨_,rfl⟩,q⟩
theorem call_tuple_of : CallR X (.type "tuple") (fun xs H Q=>∃ p ys,xs = [.ref p]/\((SqL X.K H p ys/\∀ l,H l = none->Q (.ref l) (upd H l (.tup ys)))\/(SqT X.K H p ys/\Q (.ref p) H))):=by
 intro pins s σ H xs us Q I r h
 obtain ⟨p,ys,rfl,h⟩:=h
 obtain ⟨u,rfl,rx⟩:=vals1 r
 cases rx
 rcases h with ⟨hq,q⟩ | ⟨hq,q⟩
 ·obtain ⟨its,r',pl,hz⟩:=I.list hq
  have hlen:=r'.length
  refine call_tuple_list pl.isList (fun h' kp=>?_) (by simp only [List.size_toArray] <;> lia)
  have I1 : Inv X pins σ H { s with heap:=h' }:=I.kept (t':=s.toks) kp
  have I2 : Inv X pins σ (upd H h'.objs.size (.tup ys)) { s with heap:=h'.push { cls:=.type "tuple",data:=.seq its.toArray } }:=
   I1.laid (t':=s.toks) (fun b o e=>Heap.get?_push_of_some _ e) (Nat.le_refl _) (show ObjOk X.prog X.w _ _ _ (.tup ys) from ⟨hz,its,r',IsTup.new _ _⟩)
  exact ⟨.ref h'.objs.size,_,I2,rfl,q _ (I1.hok.fresh (Nat.le_refl _))⟩
 ·obtain ⟨its,r',pl,hz⟩:=I.tuple hq
  exact call_tuple_same pl ⟨.ref p,H,I,rfl,q⟩
noncomputable def tyV (K : PySem.W.Frag) (T : String) (x : V) (H : Hp) : Prop:=match x with
 | .str _=>T = "str"
 | .int _=>T = "int"
 | .ref p=>(T = "list"/\∃ xs,SqL K H p xs)\/(T = "tuple"/\∃ o,K.lookup p = some o/\o.cls = .type "tuple"/\o.dict = none)\/
   (T = "dict"/\((∃ kvs,H p = some (.dK kvs))\/∃ kvs,H p = some (.dT kvs)))\/(T = "set"/\∃ S n,H p = some (.set S n))
 | _=>False
theorem tyV_is {pins : List (Addr × Obj)} {σ : St} {H : Hp} {s : Shared} {T : String} {x : V} {v : Value} (I : Inv X pins σ H s) (r : RelV x v) (ty : tyV X.K T x H) :
  s.TypeIs v T/\∀ a,v = .ref a->∃ ob,s.heap.get? a = some ob/\ob.dict = none:=by
 cases x with
 | str z=>
  obtain ⟨t,rfl⟩:=r
  cases (show T = "str" from ty)
  exact ⟨typeIs_str s z t,fun _ e=>nomatch e⟩
 | int i=>
  obtain ⟨t,rfl⟩:=r
  cases (show T = "int" from ty)
  exact ⟨typeIs_int s i t,fun _ e=>nomatch e⟩
 | ref p=>
  cases r
  rcases ty with ⟨rfl,xs,hq⟩ | ⟨rfl,o,hk,hc,hd⟩ | ⟨rfl,hk⟩ | ⟨rfl,S,n,hk⟩
  ·obtain ⟨its,_,pl,_⟩:=I.list hq
   refine ⟨pl.isList.typeIs,fun a e=>?_⟩
   cases e
   obtain ⟨o,n,e,c,hd,_⟩:=pl
   exact ⟨o,e,hd⟩
  ·refine ⟨⟨o,I.kIn p o hk,hc⟩,fun a e=>?_⟩
   cases e
   exact ⟨o,I.kIn _ o hk,hd⟩
  ·have z : ∃ o,s.heap.get? p = some o/\o.ExactDict:=by
    rcases hk with ⟨kvs,hk⟩ | ⟨kvs,hk⟩
    ·obtain ⟨_,_,_,_,o,_,_,e,ex,_⟩:=I.hok p _ hk
     exact ⟨o,e,ex⟩
    ·obtain ⟨_,_,_,_,o,_,_,e,ex,_⟩:=I.hok p _ hk
     exact ⟨o,e,ex⟩
   obtain ⟨o,e,ex⟩:=z
   refine ⟨⟨o,e,ex.1⟩,fun a e2=>?_⟩
   cases e2
   exact ⟨o,e,ex.2.1⟩
  ·obtain ⟨o,_,_,_,e,ex,_⟩:=I.hok p _ hk
   refine ⟨⟨o,e,ex.1⟩,fun a e2=>?_⟩
   cases e2
   exact ⟨o,e,ex.2.1⟩
 | _=>exact False.elim ty
noncomputable def tBM0 (K : PySem.W.Frag) (T : String) (r : V->List V->Hp->VK->Prop) (to : TE) : TE:=fun σ H Q=>to σ H fun x H1=>tyV K T x H1/\r x [] H1 Q
noncomputable def tBM (K : PySem.W.Frag) (T : String) (r : V->List V->Hp->VK->Prop) (to : TE) (t : TA) : TE:=fun σ H Q=>to σ H fun x H1=>tyV K T x H1/\t σ H1 fun xs H2=>r x xs H2 Q
variable {o e : Expr} {es : List Expr} {to : TE} {t : TA} {name : Str} {apos cpos : Pos} {T id : String} {r : V->List V->Hp->VK->Prop}
theorem pe_bm0 (pa : PlainAttrs T) (slot : Slot T name id) (hty : typeOf (.builtin id) = pure (.type "method_descriptor")) (hm : MtR X id r) (ho : PE X o to)
  (hbase : attributeBase o name X.env (eval o X.env) = eval o X.env:=by rfl) (hline : (apos.endLine == cpos.line) = true:=by rfl) : PE X (.Call (.Attribute o name apos) [] [] cpos) (tBM0 X.K T r to):=by
 intro pins s σ H Q I h
 refine wpAny_Call_method0_late hbase hline (thn (ho pins s σ H _ I h) fun v s1 ⟨x,H1,I1,r1,ty,q1⟩=>?_)
 obtain ⟨h1,h2⟩:=tyV_is I1 r1 ty
 exact ⟨T,id,pa,slot,hty,h1,h2,Calls.callWith_builtin rfl (PySem.evalArgs_none (hm pins s1 σ H1 x [] v [] Q I1 r1 .nil q1))⟩
theorem pe_bm (pa : PlainAttrs T) (slot : Slot T name id) (hty : typeOf (.builtin id) = pure (.type "method_descriptor")) (hm : MtR X id r) (ho : PE X o to) (ha : PA X (e :: es) t)
  (hbase : attributeBase o name X.env (eval o X.env) = eval o X.env:=by rfl)
  (hfew : ((backTo cpos (starEach (e :: es) X.env)).all (fun x=>!x.1) && (backToKw cpos (keywordEach [] X.env)).all (fun x=>x.1.isSome)
   && decide ((e :: es).length + ([] : List Keyword).length + (if ([] : List Keyword).isEmpty then 0 else 1) < 30)) = true:=by rfl)
  (hline : (apos.endLine == cpos.line) = true:=by rfl) (hs : starEach (e :: es) X.env = (false,eval e X.env) :: starEach es X.env:=by rfl) (hplain : (backTo cpos (starEach es X.env)).any (·.1) = false:=by rfl) :
  PE X (.Call (.Attribute o name apos) (e :: es) [] cpos) (tBM X.K T r to t):=by
 intro pins s σ H Q I h
 refine wpAny_Call_method_late hbase hfew hline rfl (thn (ho pins s σ H _ I h) fun v s1 ⟨x,H1,I1,r1,ty,q1⟩=>?_)
 obtain ⟨h1,h2⟩:=tyV_is I1 r1 ty
 refine ⟨T,id,pa,slot,hty,h1,h2,?_⟩
 have hA:=ha cpos pins s1 σ H1 _ I1 q1
 rw [hs] at hA ⊢
 refine Calls.callWith_builtin (by show (false || (backTo cpos (starEach es X.env)).any (·.1)) = false;rw [hplain] <;> rfl) (Calls.evalArgs_plain ?_)
 exact thn hA fun us s2 ⟨vs,H2,I2,r2,q2⟩=>hm pins s2 σ H2 x vs v us Q I2 r1 r2 q2
end
end L2
namespace L2
open PySem PySem.Spec PyProof.Rows
noncomputable def MtM (X : Cx) (id : String) (r : V->List V->Hp->VK->Prop) : Prop:=
 ∀ (pins : List (Addr × Obj)) (s : Shared) (σ : St) (H : Hp) (x : V) (xs : List V) (v : Value) (us : List Value) (Q : VK),Inv X pins σ H s->RelV x v->Vals xs us->r x xs H Q->
  wpAny (model X.prog X.w) X.A (call (.builtin id) (v :: us)) (EP X pins σ Q) X.xe s
theorem Vals.one : ∀ {x : V} {us : List Value},Vals [x] us->∃ u,us = [u]/\RelV x u
 | _,_,.cons r .nil=>⟨_,rfl,r⟩
theorem Vals.eraseIdx : ∀ {xs : List V} {us : List Value} (i : Nat),Vals xs us->Vals (xs.eraseIdx i) (us.eraseIdx i)
 | _,_,_,.nil=>.nil
 | _,_,0,.cons _ t=>t
 | _,_,i + 1,.cons r t=>.cons r (Vals.eraseIdx i t)
theorem Vals.reverse {xs : List V} {us : List Value} (h : Vals xs us) : Vals xs.reverse us.reverse:=by
 induction h with
 | nil=>exact .nil
 | cons r t ih=>rw [List.reverse_cons,List.reverse_cons];exact Vals.append ih (.cons r .nil)
theorem len_erase {α : Type} : ∀ (l : List α) (i : Nat),(l.eraseIdx i).length<=l.length
 | [],_=>Nat.le_refl _
 | _ :: _,0=>Nat.le_succ _
 | _ :: r,i + 1=>Nat.succ_le_succ (len_erase r i)
section
variable {X : Cx} {pins : List (Addr × Obj)} {σ : St} {H : Hp} {s : Shared} {l b : Addr} {xs ys zs : List V}
theorem Inv.lset {its its' : List Value} {n : Nat} {f : Array Value->Array Value} {t' : Nat} (I : Inv X pins σ H s) (hH : H l = some (.lst xs))
  (e : s.heap.get? l = some { cls:=.type "list",data:=.seq its.toArray n }) (hf : f its.toArray = its'.toArray) (hv : Vals ys its') (hz : ys.length<=sizeLine) :
  Inv X pins σ (upd H l (.lst ys)) { s with heap:=s.heap.update l (Obj.mapSeq f),toks:=t' }:=by
 have q:=PySem.IsL.update e f
 rw [hf] at q
 refine I.write (x:=l) (e:=l) (by rw [hH];exact trivial) (.inl rfl) (fun b' u hb hu=>(Heap.get?_update_other s.heap (Obj.mapSeq f) (Ne.symm hb)).trans hu) ⟨_,q⟩ ?_
 exact ⟨hz,its',_,hv,q⟩
theorem Inv.lnew {its : List Value} {t' : Nat} (I : Inv X pins σ H s) (hv : Vals ys its) (hz : ys.length<=sizeLine) :
  Inv X pins σ (upd H s.heap.objs.size (.lst ys)) { s with heap:=s.heap.push { cls:=.type "list",data:=.seq its.toArray },toks:=t' }:=
 I.laid (fun _ _ q=>Heap.get?_push_of_some _ q) (Nat.le_refl _) ⟨hz,its,0,hv,Heap.get?_push_size _ rfl⟩
theorem Inv.fresh (I : Inv X pins σ H s) : H s.heap.objs.size = none:=I.hok.fresh (Nat.le_refl _)
theorem Inv.lstM (I : Inv X pins σ H s) (hH : H l = some (.lst xs)) : xs.length<=sizeLine/\∃ (its : List Value) (n : Nat),Vals xs its/\xs.length = its.length/\s.heap.get? l = some { cls:=.type "list",data:=.seq its.toArray n }:=by
 obtain ⟨z,its,n,r,e⟩:=I.hok l _ hH
 exact ⟨z,its,n,r,r.length,e⟩
end
section
variable {X : Cx}
noncomputable def rAppend : V->List V->Hp->VK->Prop:=fun x vs H Q=>∃ l xs y,x = .ref l/\vs = [y]/\H l = some (.lst xs)/\xs.length < sizeLine/\Q .non (upd H l (.lst (xs ++ [y])))
theorem mt_append : MtM X "list.append" rAppend:=by
 intro pins s σ H x vs v us Q I rx rv h
 obtain ⟨l,xs,y,rfl,rfl,hH,hz,q⟩:=h
 cases rx
 obtain ⟨u,rfl,ru⟩:=rv.one
 obtain ⟨z,its,n,r,hl,e⟩:=I.lstM hH
 refine call_meets F.slot_list_append ⟨_,e,rfl⟩ F.entry_list_append (F.args_list_append_2 _ _) (PySem.list_append l its.toArray n u (by rw [List.size_toArray];lia)) ⟨e,?_⟩
 refine ⟨.non,_,I.lset (its':=its ++ [u]) hH e (by simp) (r.append (.cons ru .nil)) ?_,rfl,q⟩
 rw [List.length_append,List.length_singleton]
 lia
noncomputable def rPopAt : V->List V->Hp->VK->Prop:=fun x vs H Q=>∃ l xs i k y,x = .ref l/\vs = [.int i]/\H l = some (.lst xs)/\-(2 ^ 63)<=i/\i < 2 ^ 63/\seqIndex? i xs.length = some k/\xs[k]? = some y/\Q y (upd H l (.lst (xs.eraseIdx k)))
theorem mt_popAt : MtM X "list.pop" rPopAt:=by
 intro pins s σ H x vs v us Q I rx rv h
 obtain ⟨l,xs,i,k,y,rfl,rfl,hH,h1,h2,hk,hy,q⟩:=h
 cases rx
 obtain ⟨u,rfl,ru⟩:=rv.one
 obtain ⟨t,rfl⟩:=ru
 obtain ⟨z,its,n,r,hl,e⟩:=I.lstM hH
 obtain ⟨w,hw,rw'⟩:=r.get hy
 refine call_meets F.slot_list_pop ⟨_,e,rfl⟩ F.entry_list_pop (F.args_list_pop_2 _ _)
  (MeetsSeq.list_pop_at l its.toArray n i t k w (fitsIndex_both h1 h2) (by rw [List.size_toArray,<- hl];exact hk) (by rw [<- Array.getElem?_toList];exact hw) (by rw [List.size_toArray];lia)) ⟨e,?_⟩
 refine ⟨y,_,I.lset (its':=its.eraseIdx k) hH e ?_ (r.eraseIdx k) ?_,rw',q⟩
 ·show its.toArray.eraseIdxIfInBounds k = (its.eraseIdx k).toArray
  rw [List.eraseIdxIfInBounds_toArray]
 ·have:=len_erase xs k
  lia
end
section
variable {prog : Program} {w : World} {A : Around} {E : Value->Shared->Prop} {s : Shared}
end
section
variable {X : Cx}
end
end L2
namespace L2
open PySem PySem.Spec PyProof.Rows
section
variable {κ : Type} [DecidableEq κ]
noncomputable def valV (kvs : List (κ × V)) (k : κ) : Option V:=(kvs.find? fun kv=>decide (kv.1 = k)).map (·.2)
noncomputable def putK (kvs : List (κ × V)) (k : κ) (v : V) : List (κ × V):=
 if (kvs.any fun kv=>decide (kv.1 = k)) = true then kvs.map (fun kv=>if kv.1 = k then (kv.1,v) else kv) else kvs ++ [(k,v)]
theorem valV_pos {p : κ × V} {r : List (κ × V)} {k : κ} (e : p.1 = k) : valV (p :: r) k = some p.2:=by simp [valV,List.find?_cons,e]
theorem valV_neg {p : κ × V} {r : List (κ × V)} {k : κ} (e : ¬ p.1 = k) : valV (p :: r) k = valV r k:=by simp [valV,List.find?_cons,e]
theorem valV_any (k : κ) : ∀ kvs : List (κ × V),(kvs.any fun kv=>decide (kv.1 = k)) = (valV kvs k).isSome
 | []=>rfl
 | p :: r=>by
  rw [List.any_cons]
  by_cases e : p.1 = k
  ·simp only [valV_pos e,decide_eq_true e,Bool.true_or,Option.isSome_some]
  ·rw [valV_neg e,decide_eq_false e,Bool.false_or];exact valV_any k r
theorem length_putK (kvs : List (κ × V)) (k : κ) (v : V) : (putK kvs k v).length<=kvs.length + 1:=by
 unfold putK
 split
 ·rw [List.length_map];lia
 ·rw [List.length_append,List.length_cons,List.length_nil];lia
theorem putK_new {kvs : List (κ × V)} {k : κ} (v : V) (h : valV kvs k = none) : putK kvs k v = kvs ++ [(k,v)]:=by
 unfold putK
 rw [valV_any,h]
 exact if_neg (by decide)
theorem RelO.isSome_eq {o : Option V} {u : Option Value} (r : RelO o u) : o.isSome = u.isSome:=by
 cases o with
 | none=>cases u with
  | none=>rfl
  | some _=>exact (show False from r).elim
 | some _=>cases u with
  | none=>exact (show False from r).elim
  | some _=>rfl
theorem KV.val {kvs : List (κ × V)} {vs : List (κ × Value)} (r : KV kvs vs) (k : κ) : RelO (valV kvs k) (valueAt vs k):=by
 unfold KV at r
 induction r with
 | nil=>exact True.intro
 | @cons p q ps qs h t ih=>
  obtain ⟨h1,h2⟩:=h
  by_cases e : p.1 = k
  ·have e' : q.1 = k:=h1.symm.trans e
   have b : valueAt (q :: qs) k = some q.2:=by simp [valueAt,List.find?_cons,e']
   rw [valV_pos e,b];exact h2
  ·have e' : ¬ q.1 = k:=fun z=>e (h1.trans z)
   have b : valueAt (q :: qs) k = valueAt qs k:=by simp [valueAt,List.find?_cons,e']
   rw [valV_neg e,b];exact ih
theorem KV.any {kvs : List (κ × V)} {vs : List (κ × Value)} (r : KV kvs vs) (k : κ) : (kvs.any fun kv=>decide (kv.1 = k)) = vs.any fun kv=>decide (kv.1 = k):=by
 unfold KV at r
 induction r with
 | nil=>rfl
 | cons h t ih=>rw [List.any_cons,List.any_cons,ih,h.1]
theorem KV.repl {kvs : List (κ × V)} {vs : List (κ × Value)} (r : KV kvs vs) (k : κ) {y : V} {u : Value} (ry : RelV y u) :
  KV (kvs.map fun kv=>if kv.1 = k then (kv.1,y) else kv) (vs.map fun kv=>if kv.1 = k then (kv.1,u) else kv):=by
 unfold KV at r ⊢
 induction r with
 | nil=>exact .nil
 | @cons p q ps qs h t ih=>
  rw [List.map_cons,List.map_cons]
  refine .cons ?_ ih
  obtain ⟨h1,h2⟩:=h
  by_cases e : p.1 = k
  ·rw [if_pos e,if_pos (h1.symm.trans e)];exact ⟨h1,ry⟩
  ·rw [if_neg e,if_neg (fun z=>e (h1.trans z))];exact ⟨h1,h2⟩
theorem KV.put {kvs : List (κ × V)} {vs : List (κ × Value)} (r : KV kvs vs) (k : κ) {y : V} {u : Value} (ry : RelV y u) : KV (putK kvs k y) (stored vs k u):=by
 unfold putK stored
 rw [r.any k]
 by_cases e : (vs.any fun kv=>decide (kv.1 = k)) = true
 ·rw [if_pos e,if_pos e];exact r.repl k ry
 ·rw [if_neg e,if_neg e];exact Paired.snoc r ⟨rfl,ry⟩
theorem KV.length {kvs : List (κ × V)} {vs : List (κ × Value)} (r : KV kvs vs) : kvs.length = vs.length:=Paired.length r
end
theorem kV_is {P : Program} {w : World} {k : Key} {u : Value} (r : RelV (kV k) u) : (mixKind P w).is k u = true:=by
 cases k with
 | inl i=>obtain ⟨t,e⟩:=(show ∃ t,u = Value.int i t from r);subst e;exact mixKind_int P w i t
 | inr x=>obtain ⟨t,e⟩:=(show ∃ t,u = Value.str x t from r);subst e;exact mixKind_str P w x t
theorem items_are {P : Program} {w : World} : ∀ {ks : List Key} {us : List Value},Vals (ks.map kV) us->ItemsAre (mixKind P w) ks us
 | [],_,r=>by rw [List.map_nil] at r;cases r;exact .nil
 | k :: ks,_,r=>by
  rw [List.map_cons] at r
  cases r with
  | cons h t=>exact .cons (kV_is h) (items_are t)
noncomputable abbrev KT (H : Hp) : List (List Key × V)->List (List Key × Addr × Value)->Prop:=Paired fun p q=>p.1 = q.1/\H q.2.1 = some (.tup (p.1.map kV))/\RelV p.2 q.2.2
theorem KT.val {H : Hp} {kvs : List (List Key × V)} {xs : List (List Key × Addr × Value)} (r : KT H kvs xs) (k : List Key) : RelO (valV kvs k) ((atKey xs k).map (·.2)):=by
 induction r with
 | nil=>exact True.intro
 | @cons p q ps qs h t ih=>
  obtain ⟨h1,_,h2⟩:=h
  by_cases e : p.1 = k
  ·have e' : q.1 = k:=h1.symm.trans e
   have b : atKey (q :: qs) k = some q.2:=by simp [atKey,List.find?_cons,e']
   rw [valV_pos e,b];exact h2
  ·have e' : ¬ q.1 = k:=fun z=>e (h1.trans z)
   have b : atKey (q :: qs) k = atKey qs k:=by simp [atKey,List.find?_cons,e']
   rw [valV_neg e,b];exact ih
theorem KT.repl {H : Hp} {kvs : List (List Key × V)} {xs : List (List Key × Addr × Value)} (r : KT H kvs xs) (k : List Key) {y : V} {u : Value} (ry : RelV y u) :
  KT H (kvs.map fun kv=>if kv.1 = k then (kv.1,y) else kv) (xs.map (putAt k u)):=by
 induction r with
 | nil=>exact .nil
 | @cons p q ps qs h t ih=>
  rw [List.map_cons,List.map_cons]
  refine .cons ?_ ih
  obtain ⟨h1,h2,h3⟩:=h
  unfold putAt
  by_cases e : p.1 = k
  ·rw [if_pos e,if_pos (h1.symm.trans e)];exact ⟨h1,h2,ry⟩
  ·rw [if_neg e,if_neg (fun z=>e (h1.trans z))];exact ⟨h1,h2,h3⟩
theorem KT.put {H : Hp} {kvs : List (List Key × V)} {xs : List (List Key × Addr × Value)} (r : KT H kvs xs) (k : List Key) {b : Addr} {y : V} {u : Value} (hb : H b = some (.tup (k.map kV))) (ry : RelV y u) :
  KT H (putK kvs k y) (storedH xs k b u):=by
 have e : (kvs.any fun kv=>decide (kv.1 = k)) = (atKey xs k).isSome:=by
  rw [valV_any,(r.val k).isSome_eq,Option.isSome_map]
 unfold putK storedH
 rw [e]
 by_cases q : (atKey xs k).isSome = true
 ·rw [if_pos q,if_pos q];exact r.repl k ry
 ·rw [if_neg q,if_neg q];exact Paired.snoc r ⟨rfl,hb,ry⟩
theorem KT.keeps {H H' : Hp} {kvs : List (List Key × V)} {xs : List (List Key × Addr × Value)} (r : KT H kvs xs) (ht : ∀ b ys,H b = some (.tup ys)->H' b = some (.tup ys)) : KT H' kvs xs:=
 Paired.mapP r fun _ _ z=>⟨z.1,ht _ _ z.2.1,z.2.2⟩
section
variable {P : Program} {w : World} {H : Hp} {h : Heap} {a : Addr}
theorem rd_of {u : HO} (ok : HOk P w H h) (e : Rd H a u) : ObjOk P w H h a u:=e.ok ok
theorem dk_rd {kvs : List (Key × V)} (ok : HOk P w H h) (e : Rd H a (.dK kvs)) : kvs.length<=sizeLine/\(a == sysModules) = false/\∃ vs,KV kvs vs/\h.DictOf (mixKind P w) a vs:=
 show ObjOk P w H h a (.dK kvs) from rd_of ok e
theorem dk_of {kvs : List (Key × V)} (ok : HOk P w H h) (e : H a = some (.dK kvs)) : kvs.length<=sizeLine/\(a == sysModules) = false/\∃ vs,KV kvs vs/\h.DictOf (mixKind P w) a vs:=dk_rd ok (.inl e)
theorem key_of {ks : List Key} (ok : HOk P w H h) (e : H a = some (.tup (ks.map kV))) : (tupleKind (mixKind P w)).is h ks a:=by
 obtain ⟨_,its,r,o,h1,h2,n,h3⟩:=(show ObjOk P w H h a (.tup (ks.map kV)) from ok a _ e)
 exact ⟨o,its.toArray,n,h1,h2,h3,by simpa using items_are r⟩
theorem dt_rd {kvs : List (List Key × V)} (ok : HOk P w H h) (e : Rd H a (.dT kvs)) : kvs.length<=sizeLine/\(a == sysModules) = false/\
  ∃ xs,KT H kvs xs/\h.DictOfH (tupleKind (mixKind P w)) a xs:=by
 obtain ⟨z,y,xs,r,o,es,ep,h1,h2,h3,h4,h5⟩:=(show ObjOk P w H h a (.dT kvs) from rd_of ok e)
 refine ⟨z,y,xs,r,o,es,ep,h1,h2,h3,h4,fun x hx=>?_,h5⟩
 have all : ∀ {l : List (List Key × V)} {m : List (List Key × Addr × Value)},KT H l m->∀ x ∈ m,(tupleKind (mixKind P w)).is h x.1 x.2.1:=by
  intro l m q
  induction q with
  | nil=>intro x hx;exact nomatch hx
  | @cons p q ps qs hq t ih=>
   intro x hx
   rcases List.mem_cons.mp hx with e | hx
   ·subst e
    exact key_of ok (by rw [<- hq.1];exact hq.2.1)
   ·exact ih x hx
 exact all r x hx
theorem dt_of {kvs : List (List Key × V)} (ok : HOk P w H h) (e : H a = some (.dT kvs)) : kvs.length<=sizeLine/\(a == sysModules) = false/\
  ∃ xs,KT H kvs xs/\h.DictOfH (tupleKind (mixKind P w)) a xs:=dt_rd ok (.inl e)
end
noncomputable def DGet (H : Hp) (a : Addr) (y : V) (r : Option V) : Prop:=
 (∃ kvs k,Rd H a (.dK kvs)/\y = kV k/\r = valV kvs k)\/∃ kvs k b,Rd H a (.dT kvs)/\y = .ref b/\H b = some (.tup (k.map kV))/\r = valV kvs k
noncomputable def DPut (H : Hp) (a : Addr) (y v : V) (H' : Hp) : Prop:=
 (∃ kvs k,H a = some (.dK kvs)/\y = kV k/\kvs.length < sizeLine/\H' = upd H a (.dK (putK kvs k v)))\/
 ∃ kvs k b,H a = some (.dT kvs)/\y = .ref b/\H b = some (.tup (k.map kV))/\kvs.length < sizeLine/\H' = upd H a (.dT (putK kvs k v))
theorem DGet.k {H : Hp} {a : Addr} {kvs : List (Key × V)} {k : Key} (e : H a = some (.dK kvs)) : DGet H a (kV k) (valV kvs k):=.inl ⟨kvs,k,.inl e,rfl,rfl⟩
theorem DGet.t {H : Hp} {a b : Addr} {kvs : List (List Key × V)} {k : List Key} (e : H a = some (.dT kvs)) (eb : H b = some (.tup (k.map kV))) : DGet H a (.ref b) (valV kvs k):=.inr ⟨kvs,k,b,.inl e,rfl,eb,rfl⟩
theorem DPut.k {H : Hp} {a : Addr} {kvs : List (Key × V)} {k : Key} {v : V} (e : H a = some (.dK kvs)) (hl : kvs.length < sizeLine) : DPut H a (kV k) v (upd H a (.dK (putK kvs k v))):=.inl ⟨kvs,k,e,rfl,hl,rfl⟩
theorem DPut.t {H : Hp} {a b : Addr} {kvs : List (List Key × V)} {k : List Key} {v : V} (e : H a = some (.dT kvs)) (eb : H b = some (.tup (k.map kV))) (hl : kvs.length < sizeLine) :
  DPut H a (.ref b) v (upd H a (.dT (putK kvs k v))):=.inr ⟨kvs,k,b,e,rfl,eb,hl,rfl⟩
section
variable {X : Cx} {pins : List (Addr × Obj)} {σ : St} {H : Hp} {s : Shared} {a : Addr} {y v : V} {u r : Value} {o : Option V} {A : Around} {E : Value->Shared->Prop}
theorem Inv.big (I : Inv X pins σ H s) : sysModules < s.heap.objs.size:=by
 have h : mainGlobals < s.heap.objs.size:=(I.mod.glob.keeps I.bk).lt
 exact Nat.lt_trans (by decide) h
theorem d_getItem {Q : Value->Shared->Prop} (hu : A.units + 1 < cLine) (I : Inv X pins σ H s) (g : DGet H a y (some v)) (ry : RelV y u) (h : ∀ w' s',Inv X pins σ H s'->RelV v w'->Q w' s') :
  wpAny (model X.prog X.w) A (getItem (.ref a) u) Q E s:=by
 rcases g with ⟨kvs,k,e,ey,l⟩ | ⟨kvs,k,b,e,ey,eb,l⟩
 ·subst ey
  obtain ⟨z,hd,vs,rel,dd⟩:=dk_rd I.hok e
  obtain ⟨w',hw,rw'⟩:=RelO.some_of (v:=v) (o:=valueAt vs k) (by rw [l];exact rel.val k)
  exact wpAny_getItem_of (kV_is ry) dd.mapOf hw (h w' _ (I.tok _) rw')
 ·subst ey
  cases (show u = Value.ref b from ry)
  obtain ⟨z,hd,xs,rel,dd⟩:=dt_rd I.hok e
  obtain ⟨w',hw,rw'⟩:=RelO.some_of (v:=v) (o:=(atKey xs k).map (·.2)) (by rw [l];exact rel.val k)
  obtain ⟨p,hp,hp2⟩:=Option.map_eq_some_iff.mp hw
  refine wpAny_getItem_heap (tupleKind_room_in1 hu) (key_of I.hok eb) dd hp ?_
  rw [hp2]
  exact h w' _ (I.tok _) rw'
theorem d_in {Q : Value->Shared->Prop} (hu : A.units + 1 < cLine) (I : Inv X pins σ H s) (g : DGet H a y o) (ry : RelV y u) (h : ∀ s',Inv X pins σ H s'->Q (.bool o.isSome) s') :
  wpAny (model X.prog X.w) A (compareOp .In u (.ref a)) Q E s:=by
 rcases g with ⟨kvs,k,e,ey,l⟩ | ⟨kvs,k,b,e,ey,eb,l⟩
 ·subst ey
  obtain ⟨z,hd,vs,rel,dd⟩:=dk_rd I.hok e
  refine wpAny_in_of (kV_is ry) hd dd.mapOf ?_
  rw [<- (rel.val k).isSome_eq,<- l]
  exact h _ (I.tok _)
 ·subst ey
  cases (show u = Value.ref b from ry)
  obtain ⟨z,hd,xs,rel,dd⟩:=dt_rd I.hok e
  refine wpAny_in_heap (tupleKind_room_in1 hu) (key_of I.hok eb) hd dd ?_
  have q:=(rel.val k).isSome_eq
  rw [Option.isSome_map] at q
  rw [<- q,<- l]
  exact h _ (I.tok _)
theorem d_notIn {Q : Value->Shared->Prop} (hu : A.units + 1 < cLine) (I : Inv X pins σ H s) (g : DGet H a y o) (ry : RelV y u) (h : ∀ s',Inv X pins σ H s'->Q (.bool (!o.isSome)) s') :
  wpAny (model X.prog X.w) A (compareOp .NotIn u (.ref a)) Q E s:=by
 rcases g with ⟨kvs,k,e,ey,l⟩ | ⟨kvs,k,b,e,ey,eb,l⟩
 ·subst ey
  obtain ⟨z,hd,vs,rel,dd⟩:=dk_rd I.hok e
  refine wpAny_notIn_of (kV_is ry) hd dd.mapOf ?_
  rw [<- (rel.val k).isSome_eq,<- l]
  exact h _ (I.tok _)
 ·subst ey
  cases (show u = Value.ref b from ry)
  obtain ⟨z,hd,xs,rel,dd⟩:=dt_rd I.hok e
  refine wpAny_notIn_heap (tupleKind_room_in1 hu) (key_of I.hok eb) hd dd ?_
  have q:=(rel.val k).isSome_eq
  rw [Option.isSome_map] at q
  rw [<- q,<- l]
  exact h _ (I.tok _)
theorem d_write {h' : Heap} {t' : Nat} {ob : HO} (I : Inv X pins σ H s) (mu : Mut (H a)) (hs : Heap.SameBut a s.heap h') (he : ∃ q,h'.get? a = some q) (new : ObjOk X.prog X.w (upd H a ob) h' a ob) :
  Inv X pins σ (upd H a ob) { s with heap:=h',toks:=t' }:=
 I.write (x:=a) (e:=a) mu (.inl rfl) (fun b q hb z=>(hs.2 b hb).trans z) he new
theorem dk_new {P : Program} {w : World} {H' : Hp} {h' : Heap} {kvs : List (Key × V)} {vs : List (Key × Value)} (z : kvs.length<=sizeLine) (hd : (a == sysModules) = false) (rel : KV kvs vs) (dd : h'.DictOf (mixKind P w) a vs) :
  ObjOk P w H' h' a (.dK kvs):=⟨z,hd,vs,rel,dd⟩
theorem d_setItem {H' : Hp} {Q : Unit->Shared->Prop} (hu : A.units + 1 < cLine) (I : Inv X pins σ H s) (g : DPut H a y v H') (ry : RelV y u) (rv : RelV v r) (h : ∀ s',Inv X pins σ H' s'->Q () s') :
  wpAny (model X.prog X.w) A (setItem (.ref a) u r) Q E s:=by
 rcases g with ⟨kvs,k,e,ey,l,eH⟩ | ⟨kvs,k,b,e,ey,eb,l,eH⟩
 ·subst ey eH
  obtain ⟨z,hd,vs,rel,dd⟩:=dk_of I.hok e
  have hz : vs.length<=sizeLine:=by rw [<- rel.length];exact z
  have hl : (putK kvs k v).length<=sizeLine:=by have:=length_putK kvs k v;lia
  refine wpAny_setItem_pairs (hsz:=hz) (kV_is ry) dd fun h' dd' hs=>h _ ?_
  have he : ∃ q,h'.get? a = some q:=let ⟨q,_,_,hq,_⟩:=dd';⟨q,hq⟩
  exact d_write I (by rw [e];exact True.intro) hs he (dk_new hl hd (rel.put k rv) dd')
 ·subst ey eH
  cases (show u = Value.ref b from ry)
  obtain ⟨z,hd,xs,rel,dd⟩:=dt_of I.hok e
  have hz : xs.length<=sizeLine:=by rw [<- Paired.length rel];exact z
  have hl : (putK kvs k v).length<=sizeLine:=by have:=length_putK kvs k v;lia
  refine wpAny_setItem_heap (hsz:=hz) (tupleKind_room_in1 hu) (key_of I.hok eb) dd fun h' dd' hs=>h _ ?_
  obtain ⟨q,es,ep,hq,h2,h3,h4,_,h5⟩:=dd'
  refine d_write I (by rw [e];exact True.intro) hs ⟨q,hq⟩ ⟨hl,hd,_,(rel.put k eb rv).keeps fun c ys ec=>?_,q,es,ep,hq,h2,h3,h4,h5⟩
  rw [upd_ne (ne_of ec e (fun z=>nomatch z))]
  exact ec
end
section
variable {X : Cx} {pins : List (Addr × Obj)} {σ : St} {H : Hp} {s : Shared} {a : Addr} {kvs : List (Key × V)} {k : Key} {u : Value} {A : Around} {E : Value->Shared->Prop}
theorem d_clear {Q : Value->Shared->Prop} (I : Inv X pins σ H s) (e : H a = some (.dK kvs)) (h : ∀ s',Inv X pins σ (upd H a (.dK [])) s'->Q .none s') : wpAny (model X.prog X.w) A (call (.builtin "dict.clear") [.ref a]) Q E s:=by
 obtain ⟨z,hd,vs,rel,dd⟩:=dk_of I.hok e
 refine call_meetsIn PySem.F.slot_dict_clear dd.typeIs PySem.F.entry_dict_clear (PySem.F.args_dict_clear_1 _) (meets_dict_clear (mixKind X.prog X.w) a) ⟨vs,dd,by rw [<- rel.length];exact z,fun h' dd' hs=>h _ ?_⟩
 have he : ∃ q,h'.get? a = some q:=let ⟨q,_,_,hq,_⟩:=dd';⟨q,hq⟩
 exact d_write (t':=s.toks) I (by rw [e];exact True.intro) hs he (dk_new (Nat.zero_le _) hd .nil dd')
end
theorem dict_typeIs {X : Cx} {pins : List (Addr × Obj)} {σ : St} {H : Hp} {s : Shared} {a : Addr} {y : V} {o : Option V} (I : Inv X pins σ H s) (g : DGet H a y o) : s.TypeIs (.ref a) "dict":=by
 rcases g with ⟨kvs,k,e,_,_⟩ | ⟨kvs,k,b,e,_,_,_⟩
 ·obtain ⟨_,_,vs,_,dd⟩:=dk_rd I.hok e
  exact dd.typeIs
 ·obtain ⟨_,_,xs,_,dd⟩:=dt_rd I.hok e
  exact dd.typeIs
section
variable {X : Cx} {o i e value : Expr} {pos pos' tpos : Pos} {td ty tv : TE}
end
theorem dk_empty {P : Program} {w : World} {H : Hp} (h : Heap) (hb : sysModules < h.objs.size) : ObjOk P w H (h.push { cls:=.type "dict",data:=.dict #[] }) h.objs.size (.dK []):=
 ⟨Nat.zero_le _,beq_eq_false_iff_ne.mpr (Ne.symm (Nat.ne_of_lt hb)),[],.nil,Heap.DictOf.new h⟩
noncomputable def tDNewK : TE:=fun _ H Q=>∀ p,H p = none->Q (.ref p) (upd H p (.dK []))
section
variable {X : Cx} {pos : Pos}
theorem pe_dnewK : PE X (.Dict [] [] pos) tDNewK:=fun pins s σ H Q I h=>
 wpAny_Dict_empty ⟨.ref s.heap.objs.size,_,I.laid (a:=s.heap.objs.size) (o:=.dK []) (t':=s.toks) (fun _ _ q=>Heap.get?_push_of_some _ q) (Nat.le_refl _) (dk_empty s.heap I.big),rfl,h _ (I.hok.fresh (Nat.le_refl _))⟩
end
noncomputable def tPairs : List (TE × TE)->St->Hp->(List (V × V)->Hp->Prop)->Prop
 | [],_,H,Q=>Q [] H
 | (tk,tv) :: r,σ,H,Q=>tk σ H fun x H1=>tv σ H1 fun y H2=>tPairs r σ H2 fun ps H3=>Q ((x,y) :: ps) H3
noncomputable abbrev VV : List (V × V)->List (Value × Value)->Prop:=Paired fun p q=>RelV p.1 q.1/\RelV p.2 q.2
noncomputable def PPs (X : Cx) (pos : Pos) (keys : List (Option Expr)) (values : List Expr) (trs : List (TE × TE)) : Prop:=
 ∀ (pins : List (Addr × Obj)) (s : Shared) (σ : St) (H : Hp) (Q : List (V × V)->Hp->Prop),Inv X pins σ H s->tPairs trs σ H Q->
  wpAny (model X.prog X.w) X.A (evalPairs (pairTrees keys values X.env pos)) (fun vs s'=>∃ ps H',Inv X pins σ H' s'/\VV ps vs/\Q ps H') X.xe s
theorem pps_nil {X : Cx} {pos : Pos} : PPs X pos [] [] []:=fun pins s σ H Q I h=>pairTrees_nil_walk ⟨[],H,I,.nil,h⟩
theorem pps_cons {X : Cx} {pos : Pos} {k v : Expr} {ks : List (Option Expr)} {vs : List Expr} {tk tv : TE} {trs : List (TE × TE)} (hk : PE X k tk) (hv : PE X v tv) (hr : PPs X pos ks vs trs) :
  PPs X pos (some k :: ks) (v :: vs) ((tk,tv) :: trs):=fun pins s σ H Q I h=>
 pairTrees_cons_walk (thn (hk pins s σ H _ I h) fun u s1 ⟨x,H1,I1,rx,q1⟩=>thn (hv pins s1 σ H1 _ I1 q1) fun w2 s2 ⟨y,H2,I2,ry,q2⟩=>
  thn (hr pins s2 σ H2 _ I2 q2) fun ws s3 ⟨ps,H3,I3,rel,q3⟩=>⟨(x,y) :: ps,H3,I3,.cons ⟨rx,ry⟩ rel,q3⟩)
noncomputable def mergeK (kvs more : List (Key × V)) : List (Key × V):=more.foldl (fun acc kv=>putK acc kv.1 kv.2) kvs
theorem KV.merge : ∀ {more : List (Key × V)} {rs : List (Key × Value)} {kvs : List (Key × V)} {vs : List (Key × Value)},KV more rs->KV kvs vs->KV (mergeK kvs more) (merged vs rs):=by
 intro more rs kvs vs r
 unfold KV at r
 induction r generalizing kvs vs with
 | nil=>intro q;exact q
 | @cons p q ps qs h t ih=>
  intro r0
  have e : KV (putK kvs p.1 p.2) (stored vs q.1 q.2):=by
   have:=r0.put p.1 h.2
   rw [<- h.1];exact this
  exact ih e
theorem length_mergeK : ∀ (more kvs : List (Key × V)),(mergeK kvs more).length<=kvs.length + more.length
 | [],kvs=>by show kvs.length<=kvs.length + 0;lia
 | p :: r,kvs=>by
  have h1:=length_mergeK r (putK kvs p.1 p.2)
  have h2:=length_putK kvs p.1 p.2
  show (mergeK (putK kvs p.1 p.2) r).length<=_
  rw [List.length_cons];lia
theorem carries_of {P : Program} {w : World} : ∀ {kvs : List (Key × V)} {ws : List (Value × Value)},VV (kvs.map fun kv=>(kV kv.1,kv.2)) ws->∃ rs,Carries (mixKind P w) ws rs/\KV kvs rs
 | [],_,r=>by rw [List.map_nil] at r;cases r;exact ⟨[],True.intro,.nil⟩
 | p :: kvs,_,r=>by
  rw [List.map_cons] at r
  cases r with
  | @cons a b as bs h t=>
   obtain ⟨rs,c,q⟩:=carries_of (P:=P) (w:=w) t
   obtain ⟨b1,b2⟩:=b
   exact ⟨(p.1,b2) :: rs,⟨kV_is h.1,rfl,c⟩,.cons ⟨rfl,h.2⟩ q⟩
noncomputable def tDisp (trs : List (TE × TE)) : TE:=fun σ H Q=>∀ p,H p = none->tPairs trs σ (upd H p (.dK [])) fun ps H2=>H2 p = some (.dK [])/\∃ kvs : List (Key × V),ps = kvs.map (fun kv=>(kV kv.1,kv.2))/\kvs.length<=15/\Q (.ref p) (upd H2 p (.dK (mergeK [] kvs)))
theorem pe_disp {X : Cx} {pos : Pos} {keys : List (Option Expr)} {values : List Expr} {trs : List (TE × TE)} (h : PPs X pos keys values trs) (hall : keys.all (·.isSome) = true) (hl : keys.length = values.length) (h0 : keys ≠ [])
  (h15 : keys.length<=15) : PE X (.Dict keys values pos) (tDisp trs):=by
 intro pins s σ H Q I q
 have hn:=I.hok.fresh (Nat.le_refl s.heap.objs.size)
 have I1:=I.laid (a:=s.heap.objs.size) (o:=.dK []) (h':=s.heap.push { cls:=.type "dict",data:=.dict #[] }) (t':=s.toks) (fun _ _ q=>Heap.get?_push_of_some _ q) (Nat.le_refl _) (dk_empty s.heap I.big)
 refine wpAny_Dict_walk (knd:=mixKind X.prog X.w) hall hl h0 h15 (thn (h pins _ σ _ _ I1 (q _ hn)) fun ws s2 ⟨ps,H2,I2,rel,e,kvs,ep,lk,q2⟩=>?_)
 subst ep
 obtain ⟨rs,c,rk⟩:=carries_of (P:=X.prog) (w:=X.w) rel
 obtain ⟨z,hd,vs0,r0,dd⟩:=dk_of I2.hok e
 cases r0
 refine ⟨rs,c,dd,fun h' dd' hs=>⟨.ref s.heap.objs.size,_,?_,rfl,q2⟩⟩
 have hz : (mergeK [] kvs).length<=sizeLine:=by
  have h1:=length_mergeK kvs []
  rw [List.length_nil] at h1
  rw [sizeLine_eq];lia
 have he : ∃ q,h'.get? s.heap.objs.size = some q:=let ⟨q,_,_,hq,_⟩:=dd';⟨q,hq⟩
 exact d_write I2 (by rw [e];exact True.intro) hs he (dk_new hz hd (rk.merge .nil) dd')
section
variable {X : Cx} {pins : List (Addr × Obj)} {σ : St} {H : Hp} {s : Shared} {a : Addr} {y d : V} {u r : Value} {o : Option V} {A : Around} {E : Value->Shared->Prop}
end
section
variable {X : Cx} {o e f : Expr} {apos cpos : Pos} {td ty tx : TE}
end
section
variable {X : Cx} {pins : List (Addr × Obj)} {σ : St} {H : Hp} {s : Shared} {a : Addr} {kvs : List (Key × V)} {A : Around} {E : Value->Shared->Prop}
end
section
variable {X : Cx} {pins : List (Addr × Obj)} {σ : St} {H : Hp} {s : Shared} {a : Addr} {y : V} {u : Value} {A : Around} {E : Value->Shared->Prop}
end
end L2
namespace Att
open PySem PySem.W PySem.Calls PyProof.Rows
theorem ints_of_wellAll {P : Params} {h : Heap} : ∀ (ns : List Int) (vs : List Value),WellAll P h vs (ns.map WData.int)->IntsAre vs ns:=by
 intro ns
 induction ns with
 | nil=>
  intro vs w
  rw [List.map_nil] at w
  cases w
  exact .nil
 | cons n ns ih=>
  intro vs w
  rw [List.map_cons] at w
  cases w with
  | cons a b=>
   cases a
   exact .cons _ _ (ih _ b)
theorem script_of {l : OpenLaw} {n : Nat} (hn : l.most = some n) {P : Params} {h : Heap} {args : List WData} {vals : List Value}
  (hpre : l.row.toRowW.claim.pre args = true) (hwl : WellAll P h vals args) :
  ∃ a vs ns,vals = [Value.ref a]/\args = [WData.list (ns.map WData.int)]/\h.get? a = some { cls:=.type "list",data:=.seq vs.toArray }/\IntsAre vs ns/\ns.length<=n:=by
 have hsh : WShape.hasAll [] args [.list .int] = true:=(pre_splitW hpre).1
 have hc : l.pre.holds [] { args:=args } = true:=(pre_splitW hpre).2
 obtain ⟨d,r,rfl,h1,h2⟩:=hasAllW_cons hsh
 obtain rfl:=hasAllW_nil h2
 obtain ⟨xs,rfl,h3⟩:=hasW_list h1
 obtain ⟨ns,rfl⟩:=items_int h3
 have hlen : ns.length<=n:=by
  unfold OpenLaw.pre at hc
  have h4 : (WTm.not (.lt (.lit (.int (n : Int))) (.len (.arg 0)))).holds [] { args:=[.list (ns.map .int)] } = true:=by
   have h4:=(holds_andW hc).1
   rw [hn] at h4
   exact h4
  have h5:=condW_of h4 (w_not (w_lt w_lit (w_len_list (w_arg rfl))))
  rw [List.length_map] at h5
  refine Nat.le_of_not_lt fun q=>?_
  have q' : (n : Int) < ((ns.length : Nat) : Int):=by lia
  first
   | (rw [decide_eq_true q'] at h5;exact absurd h5 (by decide))
   | (simp at h5;lia)
 cases hwl with
 | cons w1 w2=>
  cases w2
  cases w1 with
  | list ho hall=>exact ⟨_,_,ns,rfl,rfl,ho,ints_of_wellAll ns _ hall,hlen⟩
theorem post_true (l : OpenLaw) (args : List WData) : l.row.toRowW.claim.post args (.bool true) args = true:=
 postW_of (r:=l.row.toRowW) (X:=(true == true))
  (show WShape.has [] (.bool true) .bool = true by first | rfl | decide | simp [WShape.has,WShape.arms,WShape.armsAll])
  (show (WTm.eq .res (.lit (.bool true))).value [] { args:=args,res:=some (.bool true),after:=args } = some (.bool (true == true)) from w_eq_bool (w_res rfl) w_lit) rfl
theorem attach_call {l : OpenLaw} {n : Nat} {q : Program} {loose : List Str} {XP : (Str->Option Value)->Heap->Prop} {YP : World->Heap->Prop} {d : DefRec}
  (hn : l.most = some n) (hdf : d.params.defaults = [])
  (call : ∀ (w : World) (s₀ s₁ : Shared) (mg mb : Str->Option Value) (fa : Addr) (o : Obj) (pm cd doc : Value) (a : Addr) (vs : List Value) (ns : List Int),
   Ground q loose [] XP w s₀ mg mb s₁.heap->YP w s₁.heap->
   s₁.heap.get? fa = some o->o.data = .func (docDef d.name d.params d.body d.scope pm cd doc)->s₁.heap.CodeRec cd d.name->mg d.name = some (.ref fa)->
   s₁.heap.get? a = some { cls:=.type "list",data:=.seq vs.toArray }->IntsAre vs ns->ns.length<=n->s₁.gens = #[]->
   codeAny (model l.prog w) callerA (.call (.ref fa) ⟨[.ref a],[]⟩) (fun r s'=>r = .ok (.ret (.bool true))/\OldK s₁.heap s'.heap/\s'.os = s₁.os/\AllBare s'.gens) s₁) :
  WalkO q loose XP YP l.row.toRowW d [] (fun f vs=>PySem.call f vs):=by
 intro w s₀ s₁ mg mb G Y fa o pm cd doc dV kV ho hd hcd hD hmg hg args vals as hpre hlay hrd hwl hlo
 obtain rfl : dV = .none:=Dflts.none hD hdf
 obtain rfl : kV = .none:=Dflts.noKw hD
 obtain ⟨a,vs,ns,rfl,rfl,hobj,hints,hlen⟩:=script_of hn hpre hwl
 refine enter_call (codeAny_mono (call w s₀ s₁ mg mb fa o pm cd doc a vs ns G Y ho (fd_plain hd) hcd hmg hobj hints hlen hg) fun r s' hq=>?_)
 obtain ⟨rfl,h2,h3,h4⟩:=hq
 exact ⟨.inl ⟨.bool true,.bool true,[],rfl,fun _=>rfl,.bool true,post_true l _,fun _=>⟨List.Pairwise.nil,fun _ hm=>(nomatch hm)⟩⟩,h2,h3,h4⟩
section
variable {prog : Program} {w : World} {A : Around} {E : Value->Shared->Prop} {s : Shared} {K : Frag}
end
end Att
namespace L2
open PySem PySem.Spec PyProof.Rows
theorem vals_ints : ∀ {vs : List Value} {ns : List Int},IntsAre vs ns->Vals (ns.map V.int) vs
 | _,_,.nil=>.nil
 | _,_,.cons n t h=>.cons ⟨t,rfl⟩ (vals_ints h)
noncomputable def Only (H : Hp) : Prop:=∀ b,H b = none\/∃ o xs,H b = some (.frz o (.lst xs))
theorem law_call {P : Program} {w : World} {K : PySem.W.Frag} {mg mb : Str->Option Value} {CX : CXT} {k : Nat} {fa a : Addr} {fd : FuncData} {x : Str} {sp : Sp} {s₁ : Shared} {vs : List Value} {ns : List Int}
  (KX : K.In s₁.heap) (hns : s₁.heap.Ns mainGlobals mg) (hb : s₁.heap.Ns builtinsNs mb) (hbb : ∀ x : Str,x ≠ "__name__"->mb x = bootBuiltins x) (hlim : s₁.heap.NoLimit) (hg : s₁.gens = #[])
  (ha : s₁.heap.get? a = some { cls:=.type "list",data:=.seq vs.toArray }) (hi : IntsAre vs ns) (hl : ns.length<=sizeLine) (hr : Room k callerA)
  (F : ∀ base : Heap,K.In base->base.Ns mainGlobals mg->FnOk P w K mg base CX k fa fd [x] sp) (hbind : ∀ (s : Shared) (u : Value),BindsTo s fd ⟨[u],[]⟩ [(x,u)])
  (hsp : ∀ H : Hp,Only H->SqL K H a (ns.map V.int)->sp [.ref a] H (fun v _=>v = .bl true) fun _ _ _=>False)
  (hCX : ∀ H e s',CX [] H s₁ (fun _ _ _=>False) e s'->False) :
  codeAny (model P w) callerA (.call (.ref fa) ⟨[.ref a],[]⟩) (fun r s'=>r = .ok (.ret (.bool true))/\OldK s₁.heap s'.heap/\s'.os = s₁.os/\AllBare s'.gens) s₁:=by
 have rv:=vals_ints hi
 have lenV:=hi.length
 -- from an abstract heap in which nothing but the script may be tracked
 have core : ∀ H : Hp,Only H->SqL K H a (ns.map V.int)->HOk P w H s₁.heap->(∀ b,H b ≠ none->b = a)->(H a ≠ none->K.lookup a = none)->
   codeAny (model P w) callerA (.call (.ref fa) ⟨[.ref a],[]⟩) (fun r s'=>r = .ok (.ret (.bool true))/\OldK s₁.heap s'.heap/\s'.os = s₁.os/\AllBare s'.gens) s₁:=by
  intro H hO hS hok hA hK
  have base_of : ∀ {b : Addr} {o : Obj},s₁.heap.get? b = some o->H b = none->(hidT s₁.heap H).get? b = some o:=fun e n=>hidT_get e n
  have noA : ∀ {b : Addr} {o : Obj} {es : Array DictEntry} {ep : Nat},s₁.heap.get? b = some o->o.data = .dict es ep->H b = none:=fun {b o es ep} e d=>by
   cases q : H b with
   | none=>rfl
   | some u=>
    have e' : b = a:=hA b (by rw [q];simp)
    subst e'
    rw [ha] at e;cases e
    have d' : Data.seq vs.toArray _ = Data.dict es ep:=d
    cases d'
  have nsK : ∀ {b : Addr} {m : Str->Option Value},s₁.heap.Ns b m->(hidT s₁.heap H).Ns b m:=fun {b m} ⟨o,es,ep,e,d,r⟩=>⟨o,es,ep,base_of e (noA e d),d,r⟩
  have hKb : K.In (hidT s₁.heap H):=fun b o e=>base_of (KX b o e) (by
   cases q : H b with
   | none=>rfl
   | some u=>
    have e' : b = a:=hA b (by rw [q];simp)
    subst e'
    rw [hK (by rw [q];simp)] at e;cases e)
  have hM : Mod K mg (hidT s₁.heap H):=⟨hKb,nsK hns,⟨mb,nsK hb,hbb⟩,let ⟨mc,h1,h2⟩:=hlim;⟨mc,nsK h1,h2⟩⟩
  have e0 : Env0 P w K mg (hidT s₁.heap H) callerA [] s₁ H:=⟨rfl,hM,fun b o e=>of_hidT e,Nat.le_of_eq (hidT_size _ _),trivial,fun b hb=>absurd (show b ∈ ([] : List Addr) from hb) (by simp),hok,.of_eq hg⟩
  refine codeAny_mono ((F _ hKb (nsK hns)).run callerA [] s₁ H ⟨[.ref a],[]⟩ [.ref a] [.ref a] _ _ hr e0 (hbind s₁ (.ref a)) (.cons rfl .nil) (hsp H hO hS)) fun r s' h=>?_
  cases r with
  | error e=>exact (hCX H e s' h).elim
  | ok fl=>
   cases fl with
   | next=>exact False.elim h
   | brk=>exact False.elim h
   | cont=>exact False.elim h
   | ret u=>
    obtain ⟨v,H',os,bare,un,hok',r',q⟩:=h
    have q' : v = .bl true:=q
    subst q'
    obtain rfl : u = Value.bool true:=r'
    refine ⟨rfl,OldK.of_keep fun b o e=>?_,os,bare⟩
    cases q : H b with
    | none=>exact un.keep b o e q (by intro z;exact absurd (show b ∈ ([] : List Addr) from z) (by simp)) (by simp)
    | some u=>
     rcases hO b with z | ⟨ob,xs,z⟩
     ·rw [q] at z;cases z
     ·have z2:=un.frzs b ob _ z
      obtain ⟨e1,_⟩:=hok b _ z
      obtain ⟨e2,_⟩:=hok' b _ z2
      rw [e] at e1;cases e1
      exact e2
 cases hk : K.lookup a with
 | some o=>
  -- the script is one of the module's own objects
  have e:=KX a o hk
  rw [ha] at e
  cases e
  refine core (fun _=>none) (fun _=>.inl rfl) (.inr ⟨_,vs.toArray,_,hk,rfl,rfl,rfl,by rw [List.size_toArray,lenV];exact hl,by simpa using rv⟩) (fun b u z=>by have z' : (none : Option HO) = some u:=z;cases z') (fun b z=>absurd rfl z) fun z=>absurd rfl z
 | none=>
  refine core (fun b=>if b = a then some (.frz { cls:=.type "list",data:=.seq vs.toArray } (.lst (ns.map V.int))) else none) (fun b=>?_) (.inl (.inr ⟨{ cls:=.type "list",data:=.seq vs.toArray },if_pos rfl⟩)) (fun b u z=>?_) (fun b z=>?_) fun _=>hk
  ·by_cases hb : b = a
   ·exact .inr ⟨_,_,if_pos hb⟩
   ·exact .inl (if_neg hb)
  ·by_cases hb : b = a
   ·have z':=(if_pos hb).symm.trans z
    cases z'
    subst hb
    exact ⟨ha,by rw [List.length_map];exact hl,vs,_,rv,ha⟩
   ·have z':=(if_neg hb).symm.trans z
    cases z'
  ·by_cases hb : b = a
   ·exact hb
   ·exact absurd (if_neg hb) z
end L2
namespace L2
open PySem PySem.Spec PyProof.Rows
theorem walk_of {l : PySem.W.OpenLaw} {n k : Nat} {q : Program} {loose : List Str} {XP : (Str->Option Value)->Heap->Prop} {YP : World->Heap->Prop} {d : DefRec} {K : Params->PySem.W.Frag} {CX : World->CXT} {sp : World->Sp} {x : Str}
  (hn : l.most = some n) (hn2 : n<=sizeLine) (hdf : d.params.defaults = []) (hr : Room k callerA)
  (hY : ∀ (w : World) (h : Heap),YP w h->(K w.params).In h)
  (F : ∀ (w : World) (mg : Str->Option Value) (fa : Addr) (h : Heap),(K w.params).In h->h.Ns mainGlobals mg->mg d.name = some (.ref fa)->
   ∃ fd : FuncData,(∀ (s : Shared) (u : Value),BindsTo s fd ⟨[u],[]⟩ [(x,u)])/\
    ∀ base : Heap,(K w.params).In base->base.Ns mainGlobals mg->FnOk l.prog w (K w.params) mg base (CX w) k fa fd [x] (sp w))
  (hsp : ∀ (w : World) (H : Hp) (a : Addr) (ns : List Int),ns.length<=n->Only H->SqL (K w.params) H a (ns.map V.int)->sp w [.ref a] H (fun v _=>v = .bl true) fun _ _ _=>False)
  (hCX : ∀ (w : World) (H : Hp) (s : Shared) (e : Value) (s' : Shared),CX w [] H s (fun _ _ _=>False) e s'->False) :
  PySem.W.WalkO q loose XP YP l.row.toRowW d [] (fun f vs=>PySem.call f vs):=by
 refine Att.attach_call hn hdf fun w s₀ s₁ mg mb fa o pm cd doc a vs ns G Y ho hd hcd hmg hobj hints hlen hg=>?_
 have KX:=hY w _ Y
 obtain ⟨fd,hb,hF⟩:=F w mg fa _ KX G.T.g hmg
 exact law_call KX G.T.g G.T.b G.T.builtins G.T.nolimit hg hobj hints (Nat.le_trans hlen hn2) hr hF hb (fun H hO hS=>hsp w H a ns hlen hO hS) fun H e s'=>hCX w H s₁ e s'
end L2
namespace L2
open PySem PySem.Spec PyProof.Rows
noncomputable def defArgs (s : Stmt) : Arguments:=match s with
 | .FunctionDef _ a _ _ _ _ _ _ _ _=>a
 | _=>{ posonlyargs:=[],args:=[],vararg:=none,kwonlyargs:=[],kw_defaults:=[],kwarg:=none,defaults:=[] }
noncomputable def defBody (s : Stmt) : List Stmt:=match s with
 | .FunctionDef _ _ b _ _ _ _ _ _ _=>b
 | _=>[]
noncomputable def defScope (s : Stmt) : Scope:=match s with
 | .FunctionDef _ _ _ _ _ _ sc _ _ _=>sc
 | _=>{ kind:=.function,names:=[],isGenerator:=false,isCoroutine:=false }
noncomputable abbrev CX0 : CXT:=fun _ _ _ _ _ _=>False
noncomputable abbrev E0 : XK:=fun _ _ _=>False
theorem pass0 {X : Cx} : Passes CX0 X E0:=fun _ _ _ _ _ _ _ h=>h.elim
structure Fun (K : PySem.W.Frag) (x qual : Str) (st : Stmt) (f : Addr) (fd : FuncData) : Prop where
 ex : ∃ (oc : Value) (od : Option Addr) (kV doc pm : Value) (an : Option Addr) (cdv ct : Value) (osl : Array (Option Value)),
  fd = PySem.W.fnOf x qual (defArgs st) (defBody st) (defScope st) .none kV doc pm an cdv ct/\K.lookup f = some ⟨oc,od,.func fd,osl⟩/\PySem.W.codeIn K cdv qual = true
 kp : PySem.W.keepIn K (.ref f) = true
section
variable {P : Program} {w : World} {K : PySem.W.Frag} {mg : Str->Option Value} {base : Heap}
theorem Fun.ok {x qual : Str} {st : Stmt} {f : Addr} {fd : FuncData} {N ps : List Str} {k : Nat} {sp : Sp} (F : Fun K x qual st f fd) (S : FnScope N ps (defScope st)) (len : ∀ vs H Q E,sp vs H Q E->vs.length = ps.length)
  (hbody : ∀ (cdv : Value) (A : Around) (outer : List Env) (s : Shared) (H : Hp) (vs : List V) (Q : VK) (E : XK),Room k (A.deeper (envOfC qual (defScope st) s.heap.objs.size f cdv))->sp vs H Q E->
   ∃ t,PSs (cxOf CX0 P w K mg base N qual (defScope st) f cdv A outer s H E).nox (defBody st) t/\t { nx:=fun _ H'=>Q .non H',rt:=Q } (start N vs) H) : FnOk P w K mg base CX0 (k + 1) f fd ps sp:=by
 obtain ⟨oc,od,kV,doc,pm,an,cdv,ct,osl,rfl,lk,hcd⟩:=F.ex
 refine fn_of lk hcd S len fun A outer s H vs Q E hr hsp=>?_
 obtain ⟨t,h,q⟩:=hbody cdv A outer s H vs Q E hr hsp
 exact ⟨t,h.nox,q⟩
theorem Fun.binds {x qual : Str} {st : Stmt} {f : Addr} {fd : FuncData} {ps : List Str} (F : Fun K x qual st f fd)
  (h : ∀ (kV doc pm : Value) (an : Option Addr) (cdv ct : Value) (us : List Value),us.length = ps.length->bindArgs (PySem.W.fnOf x qual (defArgs st) (defBody st) (defScope st) .none kV doc pm an cdv ct) ⟨us,[]⟩ = pure (ps.zip us)) : Binds K fd ps []:=by
 obtain ⟨oc,od,kV,doc,pm,an,cdv,ct,osl,rfl,lk,hcd⟩:=F.ex
 exact .all (h kV doc pm an cdv ct)
theorem fun_mk {x qual : Str} {st : Stmt} {f : Addr} {oc : Value} {od an : Option Addr} {osl : Array (Option Value)} {kV doc pm cdv ct : Value} (l : K.lookup f = some ⟨oc,od,.func (PySem.W.fnOf x qual (defArgs st) (defBody st) (defScope st) .none kV doc pm an cdv ct),osl⟩)
  (c : PySem.W.codeIn K cdv qual = true) (k : PySem.W.keepIn K (.ref f) = true) : Fun K x qual st f (PySem.W.fnOf x qual (defArgs st) (defBody st) (defScope st) .none kV doc pm an cdv ct):=⟨⟨oc,od,kV,doc,pm,an,cdv,ct,osl,rfl,l,c⟩,k⟩
end
section
variable {X : Cx}
end
noncomputable def Same (H H' : Hp) : Prop:=∀ b o,H b = some o->H' b = some o
theorem Same.refl (H : Hp) : Same H H:=fun _ _ h=>h
theorem Same.trans {H H1 H2 : Hp} (a : Same H H1) (b : Same H1 H2) : Same H H2:=fun c o h=>b c o (a c o h)
theorem Same.free {H H' : Hp} (e : Same H H') {l : Addr} (h : H' l = Option.none) : H l = Option.none:=by
 cases q : H l with
 | none=>rfl
 | some o=>
  rw [e l o q] at h
  cases h
section
variable {X : Cx}
end
section
variable {κ : Type} [DecidableEq κ]
theorem valV_not {kvs : List (κ × V)} {k : κ} (h : valV kvs k = none) : ¬ k ∈ kvs.map (·.1):=by
 intro m
 obtain ⟨p,hp,e⟩:=List.mem_map.mp m
 have q : (kvs.any fun kv=>decide (kv.1 = k)) = true:=List.any_eq_true.mpr ⟨p,hp,decide_eq_true e⟩
 rw [valV_any,h] at q
 exact absurd q (by simp)
theorem nd_snoc : ∀ {l : List κ} {k : κ},l.Nodup->¬ k ∈ l->(l ++ [k]).Nodup
 | [],k,_,_=>by simp
 | a :: r,k,h,hk=>by
  obtain ⟨h1,h2⟩:=List.nodup_cons.mp h
  show (a :: (r ++ [k])).Nodup
  refine List.nodup_cons.mpr ⟨fun m=>?_,nd_snoc h2 fun m=>hk (List.mem_cons.mpr (Or.inr m))⟩
  rcases List.mem_append.mp m with q | q
  ·exact h1 q
  ·exact hk (List.mem_cons.mpr (Or.inl (List.mem_singleton.mp q).symm))
theorem nd_putK {kvs : List (κ × V)} {k : κ} (v : V) (hn : (kvs.map (·.1)).Nodup) (h : valV kvs k = none) : ((putK kvs k v).map (·.1)).Nodup:=by
 rw [putK_new v h,List.map_append]
 exact nd_snoc hn (valV_not h)
end
end L2
end
section
namespace TS
open PySem PyProof.Rows
end TS
end
section
namespace TS
open PySem PyProof.Rows
section
variable {prog : Program} {w : World} {A : Around} {E : Value->Shared->Prop} {s : Shared}
end
end TS
end
section
namespace TS
open PySem PyProof.Rows
section
variable {prog : Program} {w : World} {A : Around} {E : Value->Shared->Prop} {s : Shared} {kd : SortKind} {U : Keyed->Prop} {blt : Keyed->Keyed->Bool}
end
section
variable (blt : Keyed->Keyed->Bool)
variable {blt}
variable {a b out : Array Keyed} {ia ib : Nat}
end
end TS
end
section
set_option maxHeartbeats 1000000
namespace TS
open PySem PyProof.Rows
section
variable {prog : Program} {w : World} {A : Around} {E : Value->Shared->Prop} {s : Shared} {kd : SortKind} {U : Keyed->Prop} {blt : Keyed->Keyed->Bool}
end
end TS
end
section
set_option maxHeartbeats 1000000
namespace TS
open PySem PyProof.Rows
section
variable {blt : Keyed->Keyed->Bool}
variable {a b out : Array Keyed} {na nb : Nat}
variable {U : Keyed->Prop}
end
section
variable {prog : Program} {w : World} {A : Around} {E : Value->Shared->Prop} {s : Shared} {kd : SortKind} {U : Keyed->Prop} {blt : Keyed->Keyed->Bool}
end
end TS
end
section
set_option maxHeartbeats 1000000
namespace TS
open PySem PyProof.Rows
section
variable {blt : Keyed->Keyed->Bool} {U : Keyed->Prop}
end
section
variable {prog : Program} {w : World} {A : Around} {E : Value->Shared->Prop} {s : Shared} {kd : SortKind} {U : Keyed->Prop} {blt : Keyed->Keyed->Bool}
end
end TS
end
section
set_option maxHeartbeats 1000000
namespace TS
open PySem PyProof.Rows
section
variable {blt : Keyed->Keyed->Bool} {U : Keyed->Prop}
end
section
variable {prog : Program} {w : World} {A : Around} {E : Value->Shared->Prop} {s : Shared} {kd : SortKind} {U : Keyed->Prop} {blt : Keyed->Keyed->Bool}
end
end TS
end
section
set_option maxHeartbeats 1000000
namespace TS
open PySem PyProof.Rows
section
variable {blt : Keyed->Keyed->Bool} {U : Keyed->Prop}
end
section
variable {prog : Program} {w : World} {A : Around} {E : Value->Shared->Prop} {s : Shared} {kd : SortKind} {U : Keyed->Prop} {blt : Keyed->Keyed->Bool}
end
section
variable {blt : Keyed->Keyed->Bool} {U : Keyed->Prop}
end
end TS
end
section
set_option maxHeartbeats 1000000
namespace TS
open PySem PyProof.Rows
section
variable {prog : Program} {w : World} {A : Around} {E : Value->Shared->Prop} {s : Shared} {kd : SortKind} {U : Keyed->Prop} {blt : Keyed->Keyed->Bool}
end
end TS
end
section
namespace Mi
open PySem
inductive D where
 | undef | non | bl (b : Bool) | int (i : Int) | str (x : Str)
 | tup (xs : List D) | lst (xs : List D) | dct (kvs : List (D × D)) | scr (xs : List D) | fdc (kvs : List (D × D))
 deriving Inhabited
mutual
noncomputable def D.pure : D->Bool
 | .tup xs=>D.pures xs
 | .lst _=>false
 | .dct _=>false
 | .undef=>false
 | .scr _=>false
 | .fdc _=>false
 | _=>true
noncomputable def D.pures : List D->Bool
 | []=>true
 | x :: xs=>x.pure && D.pures xs
end
mutual
noncomputable def eqD : D->D->Bool
 | .non,.non=>true
 | .bl a,.bl b=>a == b
 | .int a,.int b=>a == b
 | .bl a,.int b=>(if a then (1 : Int) else 0) == b
 | .int a,.bl b=>a == (if b then (1 : Int) else 0)
 | .str a,.str b=>a == b
 | .tup xs,.tup ys=>eqDs xs ys
 | .lst xs,.lst ys=>eqDs xs ys
 | _,_=>false
noncomputable def eqDs : List D->List D->Bool
 | [],[]=>true
 | x :: xs,y :: ys=>eqD x y && eqDs xs ys
 | _,_=>false
end
mutual
noncomputable def D.eqok : Nat->D->Bool
 | n + 1,.tup xs=>D.eqoks n xs
 | n + 1,.lst xs=>D.eqoks n xs
 | 0,.tup _=>false
 | 0,.lst _=>false
 | _,.dct _=>false
 | _,.undef=>false
 | _,.scr _=>false
 | _,.fdc _=>false
 | _,_=>true
noncomputable def D.eqoks : Nat->List D->Bool
 | _,[]=>true
 | n,x :: xs=>D.eqok n x && D.eqoks n xs
end
inductive Ordr where | lt | le | gt | ge
 deriving DecidableEq
noncomputable def Ordr.int : Ordr->Int->Int->Bool
 | .lt,a,b=>decide (a < b) | .le,a,b=>decide (a<=b) | .gt,a,b=>decide (b < a) | .ge,a,b=>decide (b<=a)
noncomputable def Ordr.nat : Ordr->Nat->Nat->Bool
 | .lt,a,b=>decide (a < b) | .le,a,b=>decide (a<=b) | .gt,a,b=>decide (b < a) | .ge,a,b=>decide (b<=a)
noncomputable def strLt (a b : Str) : Bool:=decide (a.cps.toList < b.cps.toList)
noncomputable def Ordr.str : Ordr->Str->Str->Bool
 | .lt,a,b=>strLt a b | .le,a,b=>!strLt b a | .gt,a,b=>strLt b a | .ge,a,b=>!strLt a b
mutual
noncomputable def ordD (o : Ordr) : D->D->Option Bool
 | .int a,.int b=>some (o.int a b)
 | .str a,.str b=>some (o.str a b)
 | .tup xs,.tup ys=>ordDs o xs ys
 | _,_=>none
noncomputable def ordDs (o : Ordr) : List D->List D->Option Bool
 | [],ys=>some (o.nat 0 ys.length)
 | x :: xs,[]=>some (o.nat (x :: xs).length 0)
 | x :: xs,y :: ys=>if eqD x y then ordDs o xs ys else ordD o x y
end
inductive Res (α : Type) where
 | ok (a : α) | err (c : Str) (as : List D) | bad
noncomputable def Res.bind {α β : Type} : Res α->(α->Res β)->Res β
 | .ok a,f=>f a
 | .err c as,_=>.err c as
 | .bad,_=>.bad
noncomputable instance : Monad Res where
 pure:=.ok
 bind:=Res.bind
@[simp] theorem Res.ok_bind {α β : Type} (a : α) (f : α->Res β) : ((Res.ok a) >>= f) = f a:=rfl
@[simp] theorem Res.err_bind {α β : Type} (c : Str) (as : List D) (f : α->Res β) : ((Res.err c as : Res α) >>= f) = .err c as:=rfl
@[simp] theorem Res.bad_bind {α β : Type} (f : α->Res β) : ((Res.bad : Res α) >>= f) = .bad:=rfl
@[simp] theorem Res.pure_eq {α : Type} (a : α) : (pure a : Res α) = .ok a:=rfl
theorem Res.bind_ok {α β : Type} {m : Res α} {f : α->Res β} {b : β} (h : (m >>= f) = .ok b) : ∃ a,m = .ok a/\f a = .ok b:=by
 cases m with
 | ok a=>exact ⟨a,rfl,h⟩
 | err c as=>cases h
 | bad=>cases h
noncomputable def Res.ofOpt {α : Type} : Option α->Res α
 | some a=>.ok a
 | none=>.bad
@[simp] theorem Res.ofOpt_some {α : Type} (a : α) : Res.ofOpt (some a) = .ok a:=rfl
theorem Res.ofOpt_ok {α : Type} {o : Option α} {a : α} (h : Res.ofOpt o = .ok a) : o = some a:=by
 cases o with
 | none=>cases h
 | some b=>cases h;rfl
noncomputable def lim : Nat:=1000000
inductive Bop where | add | sub | mul | fdiv | mod | pow
 deriving DecidableEq
inductive Cop where | eq | ne | ord (o : Ordr) | isin | notin | isN | notN
 deriving DecidableEq
noncomputable def smallB (i : Int) : Bool:=decide (-(2 ^ 64) < i) && decide (i < 2 ^ 64)
noncomputable def binD : Bop->D->D->Res D
 | .add,.int a,.int b=>.ok (.int (a + b))
 | .sub,.int a,.int b=>.ok (.int (a - b))
 | .mul,.int a,.int b=>if smallB a || smallB b then .ok (.int (a * b)) else .bad
 | .fdiv,.int a,.int b=>if decide (0 < b) && decide (b < 1073741824) then .ok (.int (a / b)) else .bad
 | .mod,.int a,.int b=>if decide (0 < b) then .ok (.int (a % b)) else .bad
 | .pow,.int a,.int b=>if decide (0<=b) && decide (b<=1000000) && decide (a.natAbs < 2 ^ 64) then .ok (.int (a ^ b.toNat)) else .bad
 | .add,.str a,.str b=>if decide (a.length + b.length<=lim) then .ok (.str (a ++ b)) else .bad
 | .add,.lst a,.lst b=>if decide (a.length + b.length<=lim) && D.pures a && D.pures b then .ok (.lst (a ++ b)) else .bad
 | _,_,_=>.bad
noncomputable def truD : D->Res Bool
 | .non=>.ok false
 | .bl b=>.ok b
 | .int i=>.ok (i != 0)
 | .str x=>if decide (x.length<=lim) then .ok ((x.length : Int) != 0) else .bad
 | .tup xs=>.ok (!xs.isEmpty)
 | .lst xs=>.ok (!xs.isEmpty)
 | .dct kvs=>.ok (!kvs.isEmpty)
 | .undef=>.bad
 | .fdc _=>.bad
 | .scr xs=>.ok (!xs.isEmpty)
noncomputable def flatKey : D->Bool
 | .int _=>true
 | .str _=>true
 | _=>false
noncomputable def keyOk : D->Bool
 | .int _=>true
 | .str _=>true
 | .tup xs=>xs.all flatKey
 | _=>false
noncomputable def isTup : D->Bool
 | .tup _=>true
 | _=>false
noncomputable def lookD : List (D × D)->D->Option D
 | [],_=>none
 | (k,v) :: r,q=>if eqD k q then some v else lookD r q
noncomputable def putD : List (D × D)->D->D->List (D × D)
 | [],q,w=>[(q,w)]
 | (k,v) :: r,q,w=>if eqD k q then (k,w) :: r else (k,v) :: putD r q w
noncomputable def fitK (kvs : List (D × D)) (k : D) : Bool:=keyOk k && kvs.all (fun p=>isTup p.1 == isTup k)
noncomputable def eqdepth : Nat:=12
noncomputable def cmpD : Cop->D->D->Res D
 | .eq,a,b=>if a.eqok eqdepth && b.eqok eqdepth then .ok (.bl (eqD a b)) else .bad
 | .ne,a,b=>if a.eqok eqdepth && b.eqok eqdepth then .ok (.bl (!eqD a b)) else .bad
 | .ord o,a,b=>if a.eqok eqdepth && b.eqok eqdepth then (match ordD o a b with | some k=>.ok (.bl k) | none=>.bad) else .bad
 | .isin,a,.tup ys=>if a.eqok eqdepth && D.eqoks eqdepth ys then .ok (.bl (ys.any fun y=>eqD y a)) else .bad
 | .isin,a,.lst ys=>if a.eqok eqdepth && D.eqoks eqdepth ys then .ok (.bl (ys.any fun y=>eqD y a)) else .bad
 | .isin,a,.dct kvs=>if fitK kvs a then .ok (.bl (lookD kvs a).isSome) else .bad
 | .notin,a,.tup ys=>if a.eqok eqdepth && D.eqoks eqdepth ys then .ok (.bl (!(ys.any fun y=>eqD y a))) else .bad
 | .notin,a,.lst ys=>if a.eqok eqdepth && D.eqoks eqdepth ys then .ok (.bl (!(ys.any fun y=>eqD y a))) else .bad
 | .notin,a,.dct kvs=>if fitK kvs a then .ok (.bl (!(lookD kvs a).isSome)) else .bad
 | .isN,.scr _,.non=>.bad
 | .notN,.scr _,.non=>.bad
 | .isN,.fdc _,.non=>.bad
 | .notN,.fdc _,.non=>.bad
 | .isN,.non,.non=>.ok (.bl true)
 | .isN,a,.non=>.ok (.bl false)
 | .notN,.non,.non=>.ok (.bl false)
 | .notN,a,.non=>.ok (.bl true)
 | _,_,_=>.bad
noncomputable def ixD (n : Nat) (i : Int) : Option Nat:=if 0<=i then (if i < n then some i.toNat else none) else if -(n : Int)<=i then some (i + n).toNat else none
noncomputable def getD (d i : D) : Res D:=
 match d,i with
 | .tup xs,.int i=>Res.ofOpt ((ixD xs.length i).bind fun j=>xs[j]?)
 | .lst xs,.int i=>Res.ofOpt ((ixD xs.length i).bind fun j=>xs[j]?)
 | .scr xs,.int i=>Res.ofOpt ((ixD xs.length i).bind fun j=>xs[j]?)
 | .str x,.int i=>if decide (x.length<=lim) then Res.ofOpt (((ixD x.cps.toList.length i).bind fun j=>x.cps.toList[j]?).map fun c=>D.str ⟨#[c]⟩) else .bad
 | .dct kvs,k=>if keyOk k then Res.ofOpt (lookD kvs k) else .bad
 | .fdc kvs,k=>if keyOk k then Res.ofOpt (lookD kvs k) else .bad
 | _,_=>.bad
noncomputable def sIxD (n d : Nat) : Option Int->Nat
 | none=>d
 | some v=>if v < 0 then (max (v + (n : Int)) 0).toNat else (min v (n : Int)).toNat
noncomputable def cutD {α : Type} (xs : List α) (lo hi : Option Int) : List α:=(xs.drop (sIxD xs.length 0 lo)).take (sIxD xs.length xs.length hi - sIxD xs.length 0 lo)
inductive Ty where | int | str | bool | list | tuple | dict
 deriving DecidableEq
noncomputable def isTy : Ty->D->Res Bool
 | _,.undef=>.bad
 | _,.scr _=>.bad
 | _,.fdc _=>.bad
 | .int,.int _=>.ok true
 | .int,.bl _=>.ok true
 | .bool,.bl _=>.ok true
 | .str,.str _=>.ok true
 | .tuple,.tup _=>.ok true
 | .list,.lst _=>.ok true
 | .dict,.dct _=>.ok true
 | _,_=>.ok false
noncomputable def bound62 (i : Int) : Bool:=decide (-(2 ^ 62)<=i) && decide (i < 2 ^ 62)
noncomputable def asB : D->Res Bool
 | .bl b=>.ok b
 | _=>.bad
noncomputable def asI : D->Res Int
 | .int i=>.ok i
 | _=>.bad
inductive Fl where
 | nx (ρ : List D) | rt (d : D) | bk (ρ : List D) | ct (ρ : List D)
noncomputable def endD : Fl->Res D
 | .rt d=>.ok d
 | .nx _=>.ok .non
 | _=>.bad
noncomputable abbrev FE:=List D->Res D
noncomputable abbrev FT:=List D->Res Bool
noncomputable abbrev FA:=List D->Res (List D)
noncomputable def bVar (i : Nat) : FE:=fun ρ=>match ρ.getD i .undef with | .undef=>.bad | d=>.ok d
noncomputable def bC (d : D) : FE:=fun _=>.ok d
noncomputable def b2 (f : D->D->Res D) (a b : FE) : FE:=fun ρ=>do let x <- a ρ;let y <- b ρ;f x y
noncomputable def b1 (f : D->Res D) (a : FE) : FE:=fun ρ=>do let x <- a ρ;f x
noncomputable def bTB (a : FE) : FT:=fun ρ=>do let x <- a ρ;asB x
noncomputable def bNot (a : FT) : FT:=fun ρ=>do let x <- a ρ;pure (!x)
noncomputable def bAnd (a b : FT) : FT:=fun ρ=>do let x <- a ρ;if x then b ρ else pure false
noncomputable def bOr (a b : FT) : FT:=fun ρ=>do let x <- a ρ;if x then pure true else b ρ
noncomputable def bNotV (a : FE) : FE:=fun ρ=>do let x <- a ρ;let k <- asB x;pure (.bl (!k))
noncomputable def bAndV (a b : FE) : FE:=fun ρ=>do let x <- a ρ;let k <- asB x;if k then b ρ else pure (.bl false)
noncomputable def bNil : FA:=fun _=>.ok []
noncomputable def bCons (a : FE) (b : FA) : FA:=fun ρ=>do let x <- a ρ;let xs <- b ρ;pure (x :: xs)
noncomputable def bTup (a : FA) : FE:=fun ρ=>do let xs <- a ρ;if decide (xs.length<=lim) then pure (.tup xs) else .bad
noncomputable def bLst (a : FA) : FE:=fun ρ=>do let xs <- a ρ;if decide (xs.length<=lim) then pure (.lst xs) else .bad
noncomputable def bCall (f : List D->Res D) (a : FA) : FE:=fun ρ=>do let xs <- a ρ;f xs
noncomputable def bSome (a : FE) : List D->Res (Option Int):=fun ρ=>do let x <- a ρ;let i <- asI x;pure (some i)
noncomputable def bNone : List D->Res (Option Int):=fun _=>.ok none
noncomputable def truN : D->Res Bool
 | .dct _=>.bad
 | .scr _=>.bad
 | .fdc _=>.bad
 | d=>truD d
noncomputable def bTr (a : FE) : FT:=fun ρ=>do let x <- a ρ;truN x
noncomputable def negD : D->Res D
 | .int i=>.ok (.int (-i))
 | _=>.bad
noncomputable def slcD : D->Option Int->Option Int->Res D
 | .lst xs,lo,hi=>if D.pures xs then .ok (.lst (cutD xs lo hi)) else .bad
 | .scr xs,lo,hi=>if D.pures xs then .ok (.lst (cutD xs lo hi)) else .bad
 | .tup xs,lo,hi=>if !D.pures xs || decide (sIxD xs.length 0 lo = 0/\sIxD xs.length xs.length hi = xs.length) then .bad else .ok (.tup (cutD xs lo hi))
 | _,_,_=>.bad
noncomputable def bestD (o : Ordr) : List D->Res D
 | []=>.bad
 | x :: xs=>if ((x :: xs).all fun a=>a.eqok eqdepth && (x :: xs).all fun b=>(ordD o a b).isSome) then .ok (xs.foldl (fun m y=>if (ordD o y m).getD false then y else m) x) else .bad
noncomputable def btD (o : Ordr) (ds : List D) (i j : Nat) : Bool:=(ordD o (ds.getD i .non) (ds.getD j .non)).getD false
noncomputable def minmax (o : Ordr) : List D->Res D
 | [.lst xs]=>bestD o xs
 | [.tup xs]=>bestD o xs
 | [a,b]=>bestD o [a,b]
 | _=>.bad
noncomputable def lenD : List D->Res D
 | [.tup xs]=>.ok (.int xs.length)
 | [.lst xs]=>.ok (.int xs.length)
 | [.scr xs]=>.ok (.int xs.length)
 | [.str x]=>if decide (x.length<=lim) then .ok (.int x.length) else .bad
 | _=>.bad
noncomputable def keysD (kvs : List (D × D)) : List D:=kvs.map (·.1)
noncomputable def tupleD : List D->Res D
 | [.tup xs]=>.ok (.tup xs)
 | [.lst xs]=>.ok (.tup xs)
 | _=>.bad
noncomputable def Ty.nm : Ty->String
 | .int => "int" | .str => "str" | .bool => "bool" | .list => "list" | .tuple => "tuple" | .dict => "dict"
noncomputable def isTyD (t : Ty) (d : D) : Res D:=do let k <- isTy t d;pure (.bl k)
noncomputable def argN (n : Nat) (f : List D->Res D) : List D->Res D:=fun ds=>if decide (ds.length = n) then f ds else .bad
noncomputable abbrev FI:=List D->Res (List D × Bool)
noncomputable def itemsD : D->Res (List D)
 | .lst xs=>.ok xs
 | .tup xs=>.ok xs
 | _=>.bad
noncomputable def rng1D : List D->Res (List D × Bool)
 | [.int n]=>if bound62 n then .ok ((List.range n.toNat).map fun (k : Nat)=>D.int (0 + (k : Int)),true) else .bad
 | _=>.bad
noncomputable def rng2D : List D->Res (List D × Bool)
 | [.int a,.int b]=>if bound62 a && bound62 b then .ok ((List.range (b - a).toNat).map fun (k : Nat)=>D.int (a + (k : Int)),true) else .bad
 | _=>.bad
noncomputable def bThen (f : FA) (g : List D->Res (List D × Bool)) : FI:=fun ρ=>do let xs <- f ρ;g xs
noncomputable def padD (n : Nat) (ρ : List D) : List D:=(List.range n).map fun i=>ρ.getD i .undef
noncomputable def oneT : D->Res (List D):=fun d=>.ok [d]
noncomputable def cstep (n : Nat) (t : D->Res (List D)) (c : FT) (f : FE) (k : Bool) (ρ : List D) (acc : List D) (x : D) : Res (List D):=do
 let bs <- t x
 let ok <- c (padD n ρ ++ bs)
 if ok then (do
  let y <- f (padD n ρ ++ bs)
  if k || y.pure then pure (acc ++ [y]) else .bad)
 else pure acc
noncomputable def cfold (g : List D->D->Res (List D)) : List D->List D->Res (List D)
 | acc,[]=>.ok acc
 | acc,x :: xs=>do let a <- g acc x;cfold g a xs
noncomputable def bComp (n : Nat) (it : FI) (t : D->Res (List D)) (c : FT) (f : FE) (k : Bool) : FE:=fun ρ=>do
 let xs <- it ρ
 if decide (xs.1.length<=lim) then (do
  let ys <- cfold (cstep n t c f k ρ) [] xs.1
  pure (.lst ys)) else .bad
noncomputable def bTrue : FT:=fun _=>.ok true
noncomputable abbrev FS:=List D->Res Fl
noncomputable def inner : D->Bool
 | .lst xs=>D.pures xs
 | .dct kvs=>D.pures (kvs.map (·.2))
 | _=>false
noncomputable def sNil : FS:=fun ρ=>.ok (.nx ρ)
noncomputable def sSeq (f g : FS) : FS:=fun ρ=>do
 let r <- f ρ
 match r with
 | .nx ρ'=>g ρ'
 | r=>.ok r
noncomputable def sSet (o : Bool) (i : Nat) (f : FE) (k : Bool) : FS:=fun ρ=>do
 let d <- f ρ
 if (if o then k && inner d else k || d.pure) then .ok (.nx (ρ.set i d)) else .bad
noncomputable def sIf (c : FT) (f g : FS) : FS:=fun ρ=>do
 let k <- c ρ
 if k then f ρ else g ρ
noncomputable def sRet (f : FE) (k : Bool) : FS:=fun ρ=>do
 let d <- f ρ
 if k || d.pure then .ok (.rt d) else .bad
noncomputable def sRetV (i : Nat) : FS:=fun ρ=>do
 let d <- bVar i ρ
 .ok (.rt d)
noncomputable def sApp (i : Nat) (f : FE) : FS:=fun ρ=>do
 let d <- f ρ
 match ρ.getD i .undef with
 | .lst xs=>if decide (xs.length < lim) && d.pure then .ok (.nx (ρ.set i (.lst (xs ++ [d])))) else .bad
 | _=>.bad
noncomputable def sPut (i : Nat) (f : FE) (g : FE) : FS:=fun ρ=>do
 let d <- g ρ
 let k <- f ρ
 match ρ.getD i .undef with
 | .dct kvs=>if decide (kvs.length < lim) && fitK kvs k && d.pure then .ok (.nx (ρ.set i (.dct (putD kvs k d)))) else .bad
 | _=>.bad
noncomputable def tg1 (i : Nat) : D->List D->Res (List D):=fun d ρ=>.ok (ρ.set i d)
noncomputable def setsD : List Nat->List D->List D->List D
 | i :: is,d :: ds,ρ=>setsD is ds (ρ.set i d)
 | _,_,ρ=>ρ
noncomputable def tgN (is : List Nat) : D->List D->Res (List D)
 | .tup ds,ρ=>if decide (ds.length = is.length) then .ok (setsD is ds ρ) else .bad
 | _,_=>.bad
noncomputable def forS (t : D->List D->Res (List D)) (body : FS) : List D->List D->Res Fl
 | [],ρ=>.ok (.nx ρ)
 | x :: xs,ρ=>do
  let ρ1 <- t x ρ
  let r <- body ρ1
  match r with
  | .nx ρ'=>forS t body xs ρ'
  | .ct ρ'=>forS t body xs ρ'
  | .bk ρ'=>.ok (.nx ρ')
  | .rt d=>.ok (.rt d)
noncomputable def sFor (it : FI) (t : D->List D->Res (List D)) (body : FS) : FS:=fun ρ=>do
 let xs <- it ρ
 if xs.2 then forS t body xs.1 ρ else .bad
noncomputable def fnS (n m : Nat) (f : FS) : List D->Res D:=fun ds=>do
 let r <- f (ds ++ List.replicate (m - n) .undef)
 endD r
end Mi
end
section
namespace Mi
open PySem
end Mi
end
section
set_option maxRecDepth 100000
namespace Mi
open PySem L2
class KFrag where
 K : PySem.W.Frag
variable [KFrag]
noncomputable def ScrAt (H : Hp) (a : Addr) (xs : List V) : Prop:=(∃ o,H a = some (.frz o (.lst xs)))\/
 ∃ (o : Obj) (its : Array Value) (n : Nat),KFrag.K.lookup a = some o/\o.cls = .type "list"/\o.dict = none/\o.data = .seq its n/\its.size<=sizeLine/\Vals xs its.toList
theorem ScrAt.sq {H : Hp} {a : Addr} {xs : List V} {K : PySem.W.Frag} (h : ScrAt H a xs) (hK : KFrag.K = K) : SqL K H a xs:=by
 subst hK
 rcases h with ⟨o,h⟩ | h
 ·exact .inl (.inr ⟨o,h⟩)
 ·exact .inr h
noncomputable def kD : Key->D
 | .inl i=>.int i
 | .inr x=>.str x
noncomputable def mutO : HO->Bool
 | .lst _=>true
 | .dK _=>true
 | .dT _=>true
 | _=>false
mutual
inductive Rep (P : Addr->Prop) (H : Hp) : V->D->Prop
 | non : Rep P H .non .non
 | bl (b : Bool) : Rep P H (.bl b) (.bl b)
 | int (i : Int) : Rep P H (.int i) (.int i)
 | str (x : Str) : Rep P H (.str x) (.str x)
 | tup {a : Addr} {xs : List V} {ds : List D} : H a = some (.tup xs)->Reps P H xs ds->Rep P H (.ref a) (.tup ds)
 | lst {a : Addr} {xs : List V} {ds : List D} : H a = some (.lst xs)->P a->Reps P H xs ds->Rep P H (.ref a) (.lst ds)
 | frz {a : Addr} {xs : List V} {ds : List D} : ScrAt H a xs->Reps P H xs ds->Rep P H (.ref a) (.scr ds)
 | dK {a : Addr} {kvs : List (Key × V)} {ds : List (D × D)} : H a = some (.dK kvs)->P a->RepK P H kvs ds->(kvs.map (·.1)).Nodup->Rep P H (.ref a) (.dct ds)
 | dT {a : Addr} {kvs : List (List Key × V)} {ds : List (D × D)} : H a = some (.dT kvs)->P a->RepT P H kvs ds->(kvs.map (·.1)).Nodup->Rep P H (.ref a) (.dct ds)
 | fdK {a : Addr} {o : Obj} {kvs : List (Key × V)} {ds : List (D × D)} : H a = some (.frz o (.dK kvs))->RepK P H kvs ds->(kvs.map (·.1)).Nodup->Rep P H (.ref a) (.fdc ds)
 | fdT {a : Addr} {o : Obj} {kvs : List (List Key × V)} {ds : List (D × D)} : H a = some (.frz o (.dT kvs))->RepT P H kvs ds->(kvs.map (·.1)).Nodup->Rep P H (.ref a) (.fdc ds)
inductive Reps (P : Addr->Prop) (H : Hp) : List V->List D->Prop
 | nil : Reps P H [] []
 | cons {v : V} {d : D} {vs : List V} {ds : List D} : Rep P H v d->Reps P H vs ds->Reps P H (v :: vs) (d :: ds)
inductive RepK (P : Addr->Prop) (H : Hp) : List (Key × V)->List (D × D)->Prop
 | nil : RepK P H [] []
 | cons {k : Key} {v : V} {d : D} {r : List (Key × V)} {ds : List (D × D)} : Rep P H v d->RepK P H r ds->RepK P H ((k,v) :: r) ((kD k,d) :: ds)
inductive RepT (P : Addr->Prop) (H : Hp) : List (List Key × V)->List (D × D)->Prop
 | nil : RepT P H [] []
 | cons {k : List Key} {v : V} {d : D} {r : List (List Key × V)} {ds : List (D × D)} : Rep P H v d->RepT P H r ds->RepT P H ((k,v) :: r) ((.tup (k.map kD),d) :: ds)
end
noncomputable def Keep (P : Addr->Prop) (H H' : Hp) : Prop:=∀ a o,H a = some o->(P a\/mutO o = false)->H' a = some o
theorem Keep.same {P : Addr->Prop} {H H' : Hp} (h : Same H H') : Keep P H H':=fun a o e _=>h a o e
mutual
theorem Rep.keep {P P' : Addr->Prop} {H H' : Hp} (k : Keep P H H') (m : ∀ a,P a->P' a) : ∀ {v : V} {d : D},Rep P H v d->Rep P' H' v d
 | _,_,.non=>.non
 | _,_,.bl b=>.bl b
 | _,_,.int i=>.int i
 | _,_,.str x=>.str x
 | _,_,.tup e r=>.tup (k _ _ e (.inr rfl)) (Reps.keep k m r)
 | _,_,.lst e p r=>.lst (k _ _ e (.inl p)) (m _ p) (Reps.keep k m r)
 | _,_,.frz e r=>.frz (e.imp (fun ⟨o,e⟩=>⟨o,k _ _ e (.inr rfl)⟩) id) (Reps.keep k m r)
 | _,_,.dK e p r n=>.dK (k _ _ e (.inl p)) (m _ p) (RepK.keep k m r) n
 | _,_,.dT e p r n=>.dT (k _ _ e (.inl p)) (m _ p) (RepT.keep k m r) n
 | _,_,.fdK e r n=>.fdK (k _ _ e (.inr rfl)) (RepK.keep k m r) n
 | _,_,.fdT e r n=>.fdT (k _ _ e (.inr rfl)) (RepT.keep k m r) n
theorem Reps.keep {P P' : Addr->Prop} {H H' : Hp} (k : Keep P H H') (m : ∀ a,P a->P' a) : ∀ {v : List V} {d : List D},Reps P H v d->Reps P' H' v d
 | _,_,.nil=>.nil
 | _,_,.cons r t=>.cons (Rep.keep k m r) (Reps.keep k m t)
theorem RepK.keep {P P' : Addr->Prop} {H H' : Hp} (k : Keep P H H') (m : ∀ a,P a->P' a) : ∀ {v : List (Key × V)} {d : List (D × D)},RepK P H v d->RepK P' H' v d
 | _,_,.nil=>.nil
 | _,_,.cons r t=>.cons (Rep.keep k m r) (RepK.keep k m t)
theorem RepT.keep {P P' : Addr->Prop} {H H' : Hp} (k : Keep P H H') (m : ∀ a,P a->P' a) : ∀ {v : List (List Key × V)} {d : List (D × D)},RepT P H v d->RepT P' H' v d
 | _,_,.nil=>.nil
 | _,_,.cons r t=>.cons (Rep.keep k m r) (RepT.keep k m t)
end
theorem Rep.mono {P P' : Addr->Prop} {H : Hp} {v : V} {d : D} (r : Rep P H v d) (m : ∀ a,P a->P' a) : Rep P' H v d:=r.keep (fun _ _ e _=>e) m
theorem Reps.mono {P P' : Addr->Prop} {H : Hp} {v : List V} {d : List D} (r : Reps P H v d) (m : ∀ a,P a->P' a) : Reps P' H v d:=r.keep (fun _ _ e _=>e) m
theorem Rep.same {P : Addr->Prop} {H H' : Hp} {v : V} {d : D} (r : Rep P H v d) (s : Same H H') : Rep P H' v d:=r.keep (.same s) fun _ h=>h
theorem Reps.same {P : Addr->Prop} {H H' : Hp} {v : List V} {d : List D} (r : Reps P H v d) (s : Same H H') : Reps P H' v d:=r.keep (.same s) fun _ h=>h
mutual
theorem Rep.ofPure {P P' : Addr->Prop} {H : Hp} : ∀ {v : V} {d : D},Rep P H v d->d.pure = true->Rep P' H v d
 | _,_,.non,_=>.non
 | _,_,.bl b,_=>.bl b
 | _,_,.int i,_=>.int i
 | _,_,.str x,_=>.str x
 | _,_,.tup e r,h=>.tup e (Reps.ofPure r (by rw [D.pure] at h;exact h))
 | _,_,.lst _ _ _,h=>by rw [D.pure] at h;cases h
 | _,_,.frz _ _,h=>by rw [D.pure] at h;cases h
 | _,_,.dK _ _ _ _,h=>by rw [D.pure] at h;cases h
 | _,_,.dT _ _ _ _,h=>by rw [D.pure] at h;cases h
 | _,_,.fdK _ _ _,h=>by rw [D.pure] at h;cases h
 | _,_,.fdT _ _ _,h=>by rw [D.pure] at h;cases h
theorem Reps.ofPure {P P' : Addr->Prop} {H : Hp} : ∀ {v : List V} {d : List D},Reps P H v d->D.pures d = true->Reps P' H v d
 | _,_,.nil,_=>.nil
 | _,_,.cons r t,h=>by
  rw [D.pures,Bool.and_eq_true] at h
  exact .cons (Rep.ofPure r h.1) (Reps.ofPure t h.2)
end
theorem Reps.length {P : Addr->Prop} {H : Hp} : ∀ {v : List V} {d : List D},Reps P H v d->v.length = d.length
 | _,_,.nil=>rfl
 | _,_,.cons _ t=>by rw [List.length_cons,List.length_cons,Reps.length t]
theorem Reps.get {P : Addr->Prop} {H : Hp} : ∀ {vs : List V} {ds : List D} {i : Nat} {d : D},Reps P H vs ds->ds[i]? = some d->∃ v,vs[i]? = some v/\Rep P H v d
 | _,_,_,_,.nil,e=>by simp at e
 | _,_,0,_,.cons r _,e=>by simp at e;subst e;exact ⟨_,rfl,r⟩
 | _,_,i + 1,d,.cons _ t,e=>by
  obtain ⟨v,h1,h2⟩:=Reps.get (i:=i) (d:=d) t (by simpa using e)
  exact ⟨v,by simpa using h1,h2⟩
theorem Reps.at {P : Addr->Prop} {H : Hp} : ∀ {vs : List V} {ds : List D} {i : Nat} {v : V},Reps P H vs ds->vs[i]? = some v->∃ d,ds[i]? = some d/\Rep P H v d
 | _,_,_,_,.nil,e=>by simp at e
 | _,_,0,_,.cons r _,e=>by simp at e;subst e;exact ⟨_,rfl,r⟩
 | _,_,i + 1,d,.cons _ t,e=>by
  obtain ⟨v,h1,h2⟩:=Reps.at (i:=i) (v:=d) t (by simpa using e)
  exact ⟨v,by simpa using h1,h2⟩
theorem Reps.append {P : Addr->Prop} {H : Hp} : ∀ {vs ws : List V} {ds es : List D},Reps P H vs ds->Reps P H ws es->Reps P H (vs ++ ws) (ds ++ es)
 | _,_,_,_,.nil,s=>s
 | _,_,_,_,.cons r t,s=>.cons r (Reps.append t s)
theorem Reps.take {P : Addr->Prop} {H : Hp} : ∀ {vs : List V} {ds : List D} (n : Nat),Reps P H vs ds->Reps P H (vs.take n) (ds.take n)
 | _,_,0,_=>.nil
 | _,_,_ + 1,.nil=>.nil
 | _,_,n + 1,.cons r t=>.cons r (Reps.take n t)
theorem Reps.drop {P : Addr->Prop} {H : Hp} : ∀ {vs : List V} {ds : List D} (n : Nat),Reps P H vs ds->Reps P H (vs.drop n) (ds.drop n)
 | _,_,0,r=>r
 | _,_,_ + 1,.nil=>.nil
 | _,_,n + 1,.cons _ t=>Reps.drop n t
theorem Reps.snoc {P : Addr->Prop} {H : Hp} {vs : List V} {ds : List D} {v : V} {d : D} (t : Reps P H vs ds) (r : Rep P H v d) : Reps P H (vs ++ [v]) (ds ++ [d]):=t.append (.cons r .nil)
theorem Rep.undef {P : Addr->Prop} {H : Hp} {v : V} : ¬ Rep P H v .undef:=fun h=>by cases h
noncomputable abbrev All : Addr->Prop:=fun _=>True
noncomputable abbrev New (H : Hp) : Addr->Prop:=fun a=>H a = none
theorem Rep.all {P : Addr->Prop} {H : Hp} {v : V} {d : D} (r : Rep P H v d) : Rep All H v d:=r.mono fun _ _=>trivial
theorem Reps.all {P : Addr->Prop} {H : Hp} {v : List V} {d : List D} (r : Reps P H v d) : Reps All H v d:=r.mono fun _ _=>trivial
theorem Same.new {H H' : Hp} (s : Same H H') : ∀ a,New H' a->New H a:=fun a h=>s.free h
theorem Same.upd {H : Hp} {a : Addr} {o : HO} (h : H a = none) : Same H (upd H a o):=fun b u e=>by rw [upd_ne (ne_of_none e h)];exact e
noncomputable def ER (H : Hp) (σ : St) (ρ : List D) : Prop:=∀ i,ρ.getD i .undef ≠ .undef->∃ v,σ[i]? = some (some v)/\Rep All H v (ρ.getD i .undef)
theorem ER.same {H H' : Hp} {σ : St} {ρ : List D} (e : ER H σ ρ) (s : Same H H') : ER H' σ ρ:=fun i h=>by
 obtain ⟨v,h1,h2⟩:=e i h
 exact ⟨v,h1,h2.same s⟩
section
variable (cf : Nat->List D->Res D) (ff : Nat->Bool)
end
theorem PE.imp {X : Cx} {e : PySem.Expr} {t t' : TE} (h : PE X e t) (i : ∀ σ H Q,t' σ H Q->t σ H Q) : PE X e t':=fun pins s σ H Q I q=>h pins s σ H Q I (i σ H Q q)
theorem PT.imp {X : Cx} {e : PySem.Expr} {t t' : TT} (h : PT X e t) (i : ∀ σ H Q,t' σ H Q->t σ H Q) : PT X e t':=fun pins s σ H Q I q=>h pins s σ H Q I (i σ H Q q)
theorem PA.imp {X : Cx} {e : List PySem.Expr} {t t' : TA} (h : PA X e t) (i : ∀ σ H Q,t' σ H Q->t σ H Q) : PA X e t':=fun pos pins s σ H Q I q=>h pos pins s σ H Q I (i σ H Q q)
end Mi
end
section
set_option maxRecDepth 100000
namespace L2
open PySem PySem.Spec PyProof.Rows
noncomputable def hideN (own : List Str) (x : Str) : Str:=if own.contains x then x ++ (" " : Str) else x
noncomputable def clF (env : Env) : List (Str × NameKind)->List (Str × Addr)->List (Str × Addr)
 | [],acc=>acc
 | (n,k) :: r,acc=>clF env r (if k == .free then (n,(env.cells.lookup n).getD 0) :: acc else acc)
theorem closure_eq {env : Env} : ∀ (names : List (Str × NameKind)) (acc : List (Str × Addr)),(∀ y ∈ names,y.2 = .free->∃ c,env.cells.lookup y.1 = some c)->
  (forIn names acc fun x cs=>(match x with
   | (name,kind)=>if (kind == .free) = true then cellOf env name >>= fun c=>pure (ForInStep.yield ((name,c) :: cs)) else pure (ForInStep.yield cs) : Sem (ForInStep (List (Str × Addr))))) = (pure (clF env names acc) : Sem _)
 | [],acc,_=>by rw [List.forIn_nil];rfl
 | (n,k) :: r,acc,h=>by
  rw [List.forIn_cons]
  by_cases hk : (k == .free) = true
  ·have hk' : k = .free:=by simpa using hk
   obtain ⟨c,e⟩:=h (n,k) (List.mem_cons_self ..) hk'
   have e' : cellOf env n = pure c:=by
    unfold cellOf
    have e2 : env.cells.lookup n = some c:=e
    rw [e2]
   dsimp only
   rw [if_pos hk,e',pure_bind,pure_bind]
   dsimp only
   rw [closure_eq r _ fun y hy=>h y (List.mem_cons_of_mem _ hy)]
   have e2 : env.cells.lookup n = some c:=e
   simp only [clF,hk,if_true,e2,Option.getD_some]
  ·dsimp only
   rw [if_neg hk,pure_bind]
   dsimp only
   rw [closure_eq r _ fun y hy=>h y (List.mem_cons_of_mem _ hy)]
   simp only [clF,hk,Bool.false_eq_true,if_false]
theorem closure_of {env : Env} {scope : Scope} (h : ∀ y ∈ scope.names,y.2 = .free->∃ c,env.cells.lookup y.1 = some c) : closureFor scope env = pure (clF env scope.names []):=by
 unfold closureFor
 have:=closure_eq (env:=env) scope.names [] h
 simp only [bind_pure] at *
 exact this
theorem clF_sub {env : Env} : ∀ {names : List (Str × NameKind)} {acc : List (Str × Addr)} {x : Str} {c : Addr},(∀ y ∈ names,y.2 = .free->∃ c,env.cells.lookup y.1 = some c)->(∀ x c,acc.lookup x = some c->env.cells.lookup x = some c)->
  (clF env names acc).lookup x = some c->env.cells.lookup x = some c
 | [],acc,x,c,_,h,e=>h x c e
 | (n,k) :: r,acc,x,c,q,h,e=>by
  unfold clF at e
  refine clF_sub (fun y hy=>q y (List.mem_cons_of_mem _ hy)) (fun y d hy=>?_) e
  by_cases hk : (k == .free) = true
  ·rw [if_pos hk,List.lookup_cons] at hy
   obtain ⟨c',e'⟩:=q (n,k) (List.mem_cons_self ..) (by simpa using hk)
   have e2 : env.cells.lookup n = some c':=e'
   cases hyn : y == n with
   | true=>
    rw [hyn] at hy
    have : y = n:=by simpa using hyn
    subst this
    rw [e2] at hy
    simp only [Option.getD_some] at hy
    rw [e2];exact hy
   | false=>rw [hyn] at hy;exact h y d hy
  ·rw [if_neg hk] at hy
   exact h y d hy
theorem clF_acc {env : Env} : ∀ {names : List (Str × NameKind)} {acc : List (Str × Addr)} {x : Str},(∃ c,acc.lookup x = some c)->∃ c,(clF env names acc).lookup x = some c
 | [],_,_,h=>h
 | (n,k) :: r,acc,x,⟨c,h⟩=>by
  unfold clF
  refine clF_acc ?_
  by_cases hk : (k == .free) = true
  ·rw [if_pos hk,List.lookup_cons]
   cases x == n with
   | true=>exact ⟨_,rfl⟩
   | false=>exact ⟨c,h⟩
  ·rw [if_neg hk];exact ⟨c,h⟩
theorem clF_has {env : Env} : ∀ {names : List (Str × NameKind)} {acc : List (Str × Addr)} {x : Str},(x,NameKind.free) ∈ names->∃ c,(clF env names acc).lookup x = some c
 | (n,k) :: r,acc,x,h=>by
  unfold clF
  rcases List.mem_cons.mp h with e | h
  ·cases e
   refine clF_acc ?_
   rw [if_pos (by decide),List.lookup_cons]
   simp
  ·exact clF_has h
structure CompSc (N : List Str) (sc scope : Scope) (own : List Str) : Prop where
 kind : scope.kind = .function
 nocell : ∀ y ∈ scope.names,y.2 ≠ .cell
 names : ∀ y ∈ scope.names,y.2 = .local->scope.names.lookup y.1 = some .local
 free : ∀ y ∈ scope.names,y.2 = .free->sc.names.lookup y.1 = some .cell\/sc.names.lookup y.1 = some .free
 ownl : ∀ x ∈ own,scope.names.lookup x = some .local
 hid : ∀ x ∈ own,scope.names.lookup (x ++ (" " : Str)) = none
 loc : ∀ y ∈ scope.names,y.2 = .local->y.1 ∈ own\/y.1 ∉ N
structure CompCx (X X' : Cx) (scope : Scope) (own : List Str) : Prop where
 prog : X'.prog = X.prog
 w : X'.w = X.w
 K : X'.K = X.K
 mg : X'.mg = X.mg
 base : X'.base = X.base
 A : X'.A = X.A
 N : X'.N = X.N.map (hideN own) ++ own
 scope : X'.env.scope = relabel scope X.env
 calm : X'.calm = X.calm
 xe : X'.xe = fun _ _=>False
noncomputable def cxComp (X : Cx) (scope : Scope) (cl : List (Str × Addr)) (C : Addr) (own : List Str) (s₂ : Shared) (H₂ : Hp) (fp : List Addr) : Cx:=
 { X with N:=X.N.map (hideN own) ++ own,s₀:=s₂,H₀:=H₂,env:=compEnvC scope cl C X.env,outer:=X.stack,stack:=X.stack,ex:=fp,fn:=fun _=>false,pn:=[],xe:=fun _ _=>False }
theorem cxComp_ok {X : Cx} {scope : Scope} {cl : List (Str × Addr)} {C : Addr} {own : List Str} {s₂ : Shared} {H₂ : Hp} {fp : List Addr} : CompCx X (cxComp X scope cl C own s₂ H₂ fp) scope own:=
 ⟨rfl,rfl,rfl,rfl,rfl,rfl,rfl,rfl,rfl,rfl⟩
noncomputable def Ext (σ σ2 : St) : Prop:=σ2.length = σ.length/\∀ (i : Nat) v,σ[i]? = some (some v)->σ2[i]? = some (some v)
noncomputable def tComp (wi : TI) (g : TG) (tc : TT) (te : TE) (m : Nat) : TE:=fun σ H Q=>wi σ H fun J H1=>∀ p,H1 p = none->
 ∃ W : Nat->Nat->List V->Hp->Prop,(∃ n,W 0 n [] (upd H1 p (.lst [])))/\∀ i n ys H,W i n ys H->H p = some (.lst ys)/\((J.stop i H/\Q (.ref p) H)\/(J.go i H/\ys.length < sizeLine/\
  ∀ x H2,J.yld i H x H2->g x (σ ++ List.replicate m none) H2 fun σ2 H3=>Ext (σ ++ List.replicate m none) σ2/\tc σ2 H3 fun b H4=>if b = true then te σ2 H4 fun y H5=>H5 p = some (.lst ys)/\∃ n',n' < n/\W (i + 1) n' (ys ++ [y]) (upd H5 p (.lst (ys ++ [y])))
   else ∃ n',n' < n/\W (i + 1) n' ys H4))
theorem Un.but {fs ex : List Addr} {H H1 : Hp} {h h1 h' : Heap} {C : Addr} (u : Un fs ex H H1 h h1) (sb : Heap.SameBut C h1 h') (hC : h.objs.size<=C) (hx : C ∉ ex) : Un fs ex H H1 h h':=by
 have ne : ∀ b o,h.get? b = some o->b ≠ C:=fun b o e=>Nat.ne_of_lt (Nat.lt_of_lt_of_le (Heap.lt_size e) hC)
 refine ⟨fun b o e n h1 h2=>sb.extBut b o (ne b o e) (u.keep b o e n h1 h2),fun b o e n h1 h2=>?_,u.free,fun b o e h2=>?_,u.tups,u.frzs,u.tbls⟩
 ·obtain ⟨sl,q⟩:=u.slot b o e n h1 h2
  exact ⟨sl,sb.extBut b _ (ne b o e) q⟩
 ·obtain ⟨o',q⟩:=u.there b o e h2
  exact ⟨o',sb.extBut b _ (ne b o e) q⟩
theorem HOk.but {P : Program} {w : World} {H : Hp} {h h' : Heap} {C : Addr} (ok : HOk P w H h) (sb : Heap.SameBut C h h') (hC : H C = none) : HOk P w H h':=fun a o e=>by
 refine (ok a o e).stay (fun b u hb q=>sb.extBut b u ?_ q) (fun _ q=>q) fun _ _ q=>q
 intro z
 subst z
 rcases hb with z | z
 ·subst z;rw [hC] at e;cases e
 ·rw [hC] at z;cases z
section
variable {X : Cx} {scope : Scope} {own : List Str}
theorem Inv.comp {pins : List (Addr × Obj)} {σ : St} {H2 : Hp} {s2 : Shared} {fp : List Addr} {h1 : Heap} {t1 : Nat} (I : Inv X pins σ H2 s2) (S : CompSc X.N X.env.scope scope own) (hf : ∀ b ∈ fp,FpOk X pins H2 b)
  (hfx : ∀ b ∈ fp,b < s2.heap.objs.size) (hns : h1.Ns (s2.heap.objs.size + 1) (fun _=>none))
  (hk : ∀ b o,s2.heap.get? b = some o->h1.get? b = some o) (hacc : h1.get? s2.heap.objs.size = some { cls:=.type "list",data:=.seq #[] }) :
  Inv (cxComp X scope (clF X.env scope.names []) (s2.heap.objs.size + 1) own s2 H2 fp) [] (σ ++ List.replicate own.length none) (upd H2 s2.heap.objs.size (.lst [])) { s2 with heap:=h1,toks:=t1 }:=by
 have hD : H2 s2.heap.objs.size = none:=I.hok.fresh (Nat.le_refl _)
 have hC : H2 (s2.heap.objs.size + 1) = none:=I.hok.fresh (Nat.le_succ _)
 have cells : ∀ y ∈ scope.names,y.2 = .free->∃ c,X.env.cells.lookup y.1 = some c:=fun y hy hk=>I.ok.has y.1 (S.free y hy hk)
 have sub : ∀ x c,(clF X.env scope.names []).lookup x = some c->X.env.cells.lookup x = some c:=fun x c e=>clF_sub cells (fun _ _ h=>by simp at h) e
 have relk : ∀ x,(relabel scope X.env).names.lookup x = some .cell\/(relabel scope X.env).names.lookup x = some .free->(x,NameKind.free) ∈ scope.names:=by
  intro x hx
  have go : ∀ (l : List (Str × NameKind)),(∀ y ∈ l,y.2 ≠ .cell)->((l.map fun (n,k)=>if (k == NameKind.free && X.env.scope.kind == .function && X.env.kindOf n == some .cell) then (n,NameKind.cell) else (n,k)).lookup x = some .cell\/(l.map fun (n,k)=>if (k == NameKind.free && X.env.scope.kind == .function && X.env.kindOf n == some .cell) then (n,NameKind.cell) else (n,k)).lookup x = some .free)->(x,NameKind.free) ∈ l:=by
   intro l
   induction l with
   | nil=>intro _ h;rcases h with h | h <;> simp at h
   | cons p l ih=>
    obtain ⟨n,k⟩:=p
    intro nc h
    rw [List.map_cons] at h
    dsimp only at h
    by_cases hc : (k == NameKind.free && X.env.scope.kind == .function && X.env.kindOf n == some .cell) = true
    ·rw [if_pos hc] at h
     rw [List.lookup_cons] at h
     cases e : x == n with
     | true=>
      have : x = n:=by simpa using e
      subst this
      simp only [Bool.and_eq_true] at hc
      have : k = .free:=by simpa using hc.1.1
      subst this
      exact List.mem_cons_self ..
     | false=>
      rw [e] at h
      exact List.mem_cons_of_mem _ (ih (fun y hy=>nc y (List.mem_cons_of_mem _ hy)) h)
    ·rw [if_neg hc] at h
     rw [List.lookup_cons] at h
     cases e : x == n with
     | true=>
      have : x = n:=by simpa using e
      subst this
      rw [e] at h
      dsimp only at h
      rcases h with h | h
      ·exact absurd (Option.some.inj h) (nc (x,k) (List.mem_cons_self ..))
      ·have:=Option.some.inj h
       subst this
       exact List.mem_cons_self ..
     | false=>
      rw [e] at h
      exact List.mem_cons_of_mem _ (ih (fun y hy=>nc y (List.mem_cons_of_mem _ hy)) h)
  exact go scope.names S.nocell hx
 have hne : s2.heap.objs.size ≠ s2.heap.objs.size + 1:=Nat.ne_of_lt (Nat.lt_succ_self _)
 have hlt : ∀ b o,s2.heap.get? b = some o->b < s2.heap.objs.size:=fun b o e=>Heap.lt_size e
 have hstk : ∀ b ∈ frs X.stack,b < s2.heap.objs.size:=fun b hb=>by
  obtain ⟨_,o,ho,_⟩:=I.stack.mem hb
  exact hlt b o ho
 refine ⟨⟨I.mod,?_,I.ok.glob,I.ok.blt,Nat.le_succ _,fun x y c e1 e2=>I.ok.inj x y c (sub x c e1) (sub y c e2),fun x hx=>?_,fun _ _ h=>(by cases h),I.ok.hd,I.ok.frames,.inl rfl,fun b hb=>?_,fun b o e=>I.bs b o e,?_,fun b o e hb=>?_,fun b hb hz=>?_,I.stack,I.stkFree⟩,
  rfl,I.bare,Un.laid hk (Nat.le_refl _) hD,?_,fun x c e=>?_,?_,fun x c e=>?_,fun p hp=>(by simp [cxComp] at hp),?_,?_⟩
 ·exact S.kind
 ·have hx' : (relabel scope X.env).names.lookup x = some .cell\/(relabel scope X.env).names.lookup x = some .free:=hx
  exact clF_has (relk x hx')
 ·refine ⟨Nat.ne_of_lt (Nat.lt_succ_of_lt (hfx b hb)),fun x c e z=>?_⟩
  exact (hf b hb).2.2.2.2.1 x c (sub x c e) z
 ·exact Nat.le_trans I.ok.bsz I.sz
 ·rcases (hf b hb).2.2.2.1 with z | z
  ·exact I.ok.noex b o e z
  ·exact absurd (Nat.lt_of_lt_of_le (Heap.lt_size e) (Nat.le_trans I.ok.bsz z)) (Nat.lt_irrefl _)
 ·rcases List.mem_cons.mp (I.stkSub b hz) with z' | z'
  ·exact (hf b hb).2.1 z'
  ·exact (hf b hb).2.2.1 z'
 ·refine ⟨_,hns,fun i x v e1 e2 e3=>?_⟩
  have hi : i < σ.length:=by
   rcases Nat.lt_or_ge i σ.length with h | h
   ·exact h
   ·rw [List.getElem?_append_right h,List.getElem?_replicate] at e2
    split at e2 <;> cases e2
  rw [List.getElem?_append_left hi] at e2
  have hiN : i < X.N.length:=by rw [<- I.len];exact hi
  have e1' : (X.N.map (hideN own))[i]? = some x:=by
   have : (X.N.map (hideN own) ++ own)[i]? = some x:=e1
   rwa [List.getElem?_append_left (by rw [List.length_map];exact hiN)] at this
  rw [List.getElem?_map] at e1'
  obtain ⟨y,hy,ey⟩:=Option.map_eq_some_iff.mp e1'
  have hyN : y ∈ X.N:=List.mem_of_getElem? hy
  have e3' : (relabel scope X.env).names.lookup x = some .local\/(relabel scope X.env).names.lookup x = some .cell\/(relabel scope X.env).names.lookup x = some .free:=e3
  have keys : ∀ z k,(relabel scope X.env).names.lookup z = some k->∃ k',scope.names.lookup z = some k'/\(k = .local->k' = .local):=by
   intro z k
   show (scope.names.map fun (n,k)=>if (k == NameKind.free && X.env.scope.kind == .function && X.env.kindOf n == some .cell) then (n,NameKind.cell) else (n,k)).lookup z = some k->_
   generalize scope.names = l
   induction l with
   | nil=>intro h;simp at h
   | cons p l ih=>
    obtain ⟨n,k0⟩:=p
    intro h
    rw [List.map_cons] at h
    dsimp only at h
    by_cases hc : (k0 == NameKind.free && X.env.scope.kind == .function && X.env.kindOf n == some .cell) = true
    ·rw [if_pos hc,List.lookup_cons] at h
     rw [List.lookup_cons]
     cases e : z == n with
     | true=>
      rw [e] at h
      dsimp only at h
      cases h
      exact ⟨k0,rfl,fun q=>by cases q⟩
     | false=>rw [e] at h;exact ih h
    ·rw [if_neg hc,List.lookup_cons] at h
     rw [List.lookup_cons]
     cases e : z == n with
     | true=>
      rw [e] at h
      dsimp only at h
      cases h
      exact ⟨_,rfl,fun q=>q⟩
     | false=>rw [e] at h;exact ih h
  by_cases hown : own.contains y = true
  ·exfalso
   have ex : x = y ++ (" " : Str):=by rw [<- ey];unfold hideN;rw [if_pos hown]
   have hn:=S.hid y (by simpa using hown)
   rw [<- ex] at hn
   rcases e3' with q | q | q
   all_goals
    obtain ⟨k',hk',_⟩:=keys _ _ q
    rw [hn] at hk'
    cases hk'
  ·have ex : x = y:=by rw [<- ey];unfold hideN;rw [if_neg hown]
   subst ex
   rcases e3' with q | q
   ·exfalso
    obtain ⟨k',hk',hl⟩:=keys _ _ q
    have:=hl rfl
    subst this
    rcases S.loc _ (PySem.mem_of_lookup hk') rfl with z | z
    ·exact hown (by simpa using z)
    ·exact z hyN
   ·have hfr:=relk x q
    have hv:=S.free _ hfr rfl
    obtain ⟨m,_,hl⟩:=I.loc
    obtain ⟨u,ru,lk⟩:=hl i x v hy e2 (.inr hv)
    refine ⟨u,ru,.inr ⟨q,?_⟩⟩
    rcases lk with ⟨z,_⟩ | ⟨_,c,hc,o,ho,hd⟩
    ·have z' : X.env.scope.names.lookup x = some .local:=z
     rcases hv with hv | hv <;> (rw [z'] at hv;cases hv)
    ·obtain ⟨c',hc'⟩:=clF_has (env:=X.env) (acc:=[]) hfr
     have:=sub x c' hc'
     rw [hc] at this
     cases this
     exact ⟨c,hc',o,hk c o ho,hd⟩
 ·obtain ⟨v,z⟩:=I.cell x c (sub x c e)
  obtain ⟨o,ho,hd⟩:=z
  exact ⟨v,o,hk c o ho,hd⟩
 ·show upd H2 _ _ (s2.heap.objs.size + 1) = none
  rw [upd_ne (Ne.symm hne)];exact hC
 ·obtain ⟨v,o,ho,_⟩:=I.cell x c (sub x c e)
  show upd H2 _ _ c = none
  rw [upd_ne (Nat.ne_of_lt (hlt c o ho))];exact I.freeC x c (sub x c e)
 ·exact I.hok.laid hk (Nat.le_refl _) ⟨Nat.zero_le _,[],0,.nil,hacc⟩
 ·show (σ ++ List.replicate own.length none).length = (X.N.map (hideN own) ++ own).length
  rw [List.length_append,List.length_append,List.length_replicate,List.length_map,I.len]
end
section
variable {X : Cx} {scope : Scope} {own : List Str}
theorem pe_comp0 {elt iter tg : Expr} {wi : TI} {g : TG} {te : TE} {pos : Pos} (S : CompSc X.N X.env.scope scope own) (hcalm : X.calm = true) (hi : PI X tg iter wi)
  (hg : ∀ X',CompCx X X' scope own->PG X' tg g) (he : ∀ X',CompCx X X' scope own->PE X' elt te)
  (hs : ∀ x,foldedSetIterable iter X.env x = pure x) : PE X (.ListComp elt [⟨tg,iter,[],0⟩] scope pos) (tComp wi g (fun _ H Q=>Q true H) te own.length):=by
 intro pins s σ H Q I h
 rw [eval_ListComp]
 have cells : ∀ y ∈ scope.names,y.2 = .free->∃ c,X.env.cells.lookup y.1 = some c:=fun y hy hk=>I.ok.has y.1 (S.free y hy hk)
 refine wpAny_comprehension_free (use:=none) rfl hs (closure_of cells) S.kind S.names (thn (hi pins s σ H _ I h) fun xv s1 h1=>thn h1 fun itv s2 h2=>?_)
 obtain ⟨it,fp,tn,J,H2,e,I2,T,st2,f2,hW⟩:=h2
 subst e
 have hD : H2 s2.heap.objs.size = none:=I2.hok.fresh (Nat.le_refl _)
 obtain ⟨W,⟨n0,w0⟩,turn⟩:=hW _ hD
 have hfx : ∀ b ∈ fp,b < s2.heap.objs.size:=fun b hb=>by
  obtain ⟨o,ho,_⟩:=T.obj 0 _ st2 b hb
  exact Heap.lt_size ho
 refine wpAny_newObj_type (wpAny_newFunctionEnv S.nocell (by intro y hy;simp at hy) (fun h₁ hns₁ hsb₁=>?_) S.kind)
 dsimp only at hns₁ hsb₁ ⊢
 have hC : (s2.heap.push { cls:=.type "list",dict:=none,data:=.seq ([] : List Value).toArray }).objs.size = s2.heap.objs.size + 1:=Heap.size_push ..
 have hne : s2.heap.objs.size ≠ s2.heap.objs.size + 1:=Nat.ne_of_lt (Nat.lt_succ_self _)
 rw [hC] at hns₁ hsb₁ ⊢
 have old : ∀ b o,s2.heap.get? b = some o->h₁.get? b = some o:=fun b o e=>hsb₁.extBut b o (Nat.ne_of_lt (Nat.lt_succ_of_lt (Heap.lt_size e))) (Heap.get?_push_of_some _ (Heap.get?_push_of_some _ e))
 have hacc : h₁.get? s2.heap.objs.size = some { cls:=.type "list",data:=.seq #[] }:=hsb₁.extBut _ _ hne (Heap.get?_push_of_some _ (Heap.get?_push_size _ rfl))
 have I4:=Inv.comp (t1:=s2.toks + ([] : List (Str × Value)).length) I2 S f2 hfx hns₁ old hacc
 generalize hX' : cxComp X scope (clF X.env scope.names []) (s2.heap.objs.size + 1) own s2 H2 fp = X' at I4
 have cc : CompCx X X' scope own:=by rw [<- hX'];exact cxComp_ok
 have eenv : X'.env = compEnvC scope (clF X.env scope.names []) (s2.heap.objs.size + 1) X.env:=by rw [<- hX'];rfl
 have eA : X'.A = X.A:=cc.A
 have ep : X'.prog = X.prog:=cc.prog
 have ew : X'.w = X.w:=cc.w
 have efs : X'.fs = frs X.stack:=by rw [<- hX'];rfl
 have eex : X'.ex = fp:=by rw [<- hX'];rfl
 have es0 : X'.s₀ = s2:=by rw [<- hX'];rfl
 have eH0 : X'.H₀ = H2:=by rw [<- hX'];rfl
 have epn : X'.pn = []:=by rw [<- hX'];rfl
 have eK : X'.K = X.K:=cc.K
 have exe:=cc.xe
 have ecalm : X'.calm = true:=cc.calm.trans hcalm
 -- the iterator's records within the block
 have fpok : ∀ {H' : Hp},(∀ b ∈ fp,H' b = none)->∀ b ∈ fp,FpOk X' [] H' b:=fun {H'} hn b hb=>by
  obtain ⟨_,f1,f3,_,f5,_⟩:=f2 b hb
  refine ⟨hn b hb,?_,?_,.inl (by rw [eex];exact hb),fun x c e=>?_,fun p hp=>by rw [epn] at hp;simp at hp⟩
  ·rw [eenv];exact Nat.ne_of_lt (Nat.lt_succ_of_lt (hfx b hb))
  ·rw [efs]
   intro z
   rcases List.mem_cons.mp (I2.stkSub b z) with z | z
   ·exact f1 z
   ·exact f3 z
  ·rw [eenv] at e
   exact f5 x c (clF_sub cells (fun _ _ h=>by simp at h) e)
 have st4 : tn 0 h₁:=T.keep _ _ _ st2 fun b _ o e=>old b o e
 have fr4 : ∀ b ∈ fp,(upd H2 s2.heap.objs.size (.lst [])) b = none:=fun b hb=>by rw [upd_ne (Nat.ne_of_lt (hfx b hb))];exact (f2 b hb).1
 have loop : ∀ s4 : Shared,s4 = { s2 with heap:=h₁,toks:=s2.toks + ([] : List (Str × Value)).length }->
   codeAny (model X.prog X.w) X.A (.compLoop (.ListComp elt [⟨tg,iter,[],0⟩] scope pos) 0 (.ref it) (.ref s2.heap.objs.size) X'.env)
    (compPost (model X.prog X.w) X.A X.xe none (EP X pins σ Q) (.ref s2.heap.objs.size) (s2.heap.objs.size + 1)) s4:=by
  rintro s4 rfl
  refine PySem.W.kcp_loop (fun n s'=>∃ i ys H',Inv X' [] (σ ++ List.replicate own.length none) H' s'/\tn i s'.heap/\(∀ b ∈ fp,H' b = none)/\W i n ys H') ?_ n0 ⟨0,[],_,I4,st4,fr4,w0⟩
  rintro n s5 ⟨i,ys,H5,I5,st5,fr5,w5⟩
  obtain ⟨hacc5,tr⟩:=turn i n ys H5 w5
  rcases tr with ⟨stop,q⟩ | ⟨go,hlen,step⟩
  ·have done:=T.done X' ep ew eK ecalm i [] s5 _ H5 (notedBy (model X.prog X.w) X.A X'.env fun e s'=>compPost (model X.prog X.w) X.A X.xe none (EP X pins σ Q) (.ref s2.heap.objs.size) (s2.heap.objs.size + 1) (.error e) s') I5 (fpok fr5) st5 stop
   rw [eA] at done
   refine thn done fun r s6 ⟨hr,I6⟩=>?_
   subst hr
   obtain ⟨m6,hn6,_⟩:=id I6.loc
   rw [eenv] at hn6
   refine ⟨m6,hn6,fun h' sb=>⟨.ref s2.heap.objs.size,H5,?_,rfl,q⟩⟩
   have u6 : Un (frs X.stack) fp H2 H5 s2.heap s6.heap:=by
    have:=I6.base
    rw [efs,eex,eH0,es0] at this
    exact this
   have hCn : H5 (s2.heap.objs.size + 1) = none:=by
    have:=I6.free
    rw [eenv] at this
    exact this
   have u7:=u6.but sb (Nat.le_succ _) (fun z=>absurd (hfx _ z) (Nat.not_lt.mpr (Nat.le_succ _)))
   have hok7 : HOk X.prog X.w H5 h':=by
    have:=I6.hok
    rw [ep,ew] at this
    exact this.but sb hCn
   have hos : s6.os = s2.os:=by have:=I6.os;rw [es0] at this;exact this
   obtain ⟨hh,gg,dd,tt,oo⟩:=s6
   obtain rfl : oo = s2.os:=hos
   have fin:=Inv.call (h':=h') (g':=gg) (d':=dd) (t':=tt) (ch:=fp) I2 u7 hok7 I6.bare fun b hb=>⟨(f2 b hb).2.2.2.1,(f2 b hb).2.1,(f2 b hb).2.2.2.2.1,(f2 b hb).2.2.2.2.2⟩
   exact fin
  ·have item:=T.item X' ep ew eK ecalm i [] s5 _ H5 (notedBy (model X.prog X.w) X.A X'.env fun e s'=>compPost (model X.prog X.w) X.A X.xe none (EP X pins σ Q) (.ref s2.heap.objs.size) (s2.heap.objs.size + 1) (.error e) s') I5 (fpok fr5) st5 go
   rw [eA] at item
   refine thn item fun r s6 ⟨u,hr,h6⟩=>?_
   subst hr
   refine thn h6 fun _ s7 ⟨x,H7,I7,r7,y7,st7,fr7⟩=>?_
   have I7':=I7.pinned (fpok fr7) (T.obj _ _ st7)
   have hg':=hg X' cc _ s7 _ H7 x u _ I7' r7 (step x H7 y7)
   rw [ep,ew,eA,exe] at hg'
   refine wpAny_mono hg' (fun _ s8 ⟨σ8,H8,I8,ext8,q8⟩=>?_) fun _ _ z=>False.elim z
   have back : ∀ {ys' : List V} {H9 : Hp} {s9 : Shared} {σ9 : St},Ext (σ ++ List.replicate own.length none) σ9->Inv X' ([] ++ pinsAt fp s7.heap) σ9 H9 s9->(∃ n',n' < n/\W (i + 1) n' ys' H9)->∃ m,m < n/\∃ i ys H',Inv X' [] (σ ++ List.replicate own.length none) H' s9/\tn i s9.heap/\(∀ b ∈ fp,H' b = none)/\W i m ys H':=by
    rintro ys' H9 s9 σ9 ex9 I9 ⟨n',hn',w9⟩
    refine ⟨n',hn',i + 1,ys',H9,(I9.weak ex9.1.symm ex9.2).unpinned,T.keep _ _ _ st7 fun b hb o e=>(I9.pin (b,o) (List.mem_append_right _ (List.mem_append_right _ (mem_pinsAt hb e)))).1,fun b hb=>?_,w9⟩
    obtain ⟨o,e,d⟩:=T.obj _ _ st7 b hb
    exact (I9.pin (b,o) (List.mem_append_right _ (List.mem_append_right _ (mem_pinsAt hb e)))).2.1
   simp only [if_true] at q8
   have he':=he X' cc _ s8 _ H8 _ I8 q8
   rw [ep,ew,eA,exe] at he'
   refine wpAny_mono he' (fun yv s10 ⟨y,H10,I10,r10,p10,q10⟩=>?_) fun _ _ z=>False.elim z
   have hm:=mt_append (X:=X') _ s10 σ8 H10 (.ref s2.heap.objs.size) [y] (.ref s2.heap.objs.size) [yv] (fun _ H11=>∃ n',n' < n/\W (i + 1) n' (ys ++ [y]) H11) I10 rfl (.cons r10 .nil) ⟨s2.heap.objs.size,ys,y,rfl,rfl,p10,hlen,q10⟩
   rw [ep,ew,eA,exe] at hm
   exact wpAny_mono hm (fun _ s11 ⟨_,H11,I11,_,q11⟩=>back ext8 I11 q11) fun _ _ z=>False.elim z
 have l4:=loop _ rfl
 rw [eenv] at l4
 exact codeAny_compStart_list l4 (T.self X.A 0 _ _ _ st4 l4)
end
end L2
end
section
set_option maxRecDepth 100000
namespace Mi
open PySem L2 PySem.SeqAt
variable [KFrag]
theorem fst_of {X : Cx} {pins : List (Addr × Obj)} {σ : St} {H : Hp} {s : Shared} {a : Addr} {xs : List V} (I : Inv X pins σ H s) (e : H a = some (.tup xs)) : ∃ its : List Value,Vals xs its/\s.heap.IsTuple a its.toArray:=by
 obtain ⟨_,its,r,p⟩ : xs.length<=sizeLine/\∃ its : List Value,Vals xs its/\PyProof.Rows.IsTup s.heap a its.toArray:=I.hok a _ e
 exact ⟨its,r,p⟩
theorem lst_of {X : Cx} {pins : List (Addr × Obj)} {σ : St} {H : Hp} {s : Shared} {a : Addr} {xs : List V} (I : Inv X pins σ H s) (e : SqL X.K H a xs) : ∃ its : List Value,Vals xs its/\s.heap.IsList a its.toArray:=by
 obtain ⟨its,r,p,_⟩:=I.list e
 exact ⟨its,r,p.isList⟩
theorem Rep.lstAt {P : Addr->Prop} {H : Hp} {K : PySem.W.Frag} {v : V} {ds : List D} (r : Rep P H v (.lst ds)) : ∃ a xs,v = .ref a/\SqL K H a xs/\Reps P H xs ds:=by
 cases r with
 | lst e p r=>exact ⟨_,_,rfl,.inl (.inl e),r⟩
theorem Rep.tupAt {P : Addr->Prop} {H : Hp} {v : V} {ds : List D} (r : Rep P H v (.tup ds)) : ∃ a xs,v = .ref a/\H a = some (.tup xs)/\Reps P H xs ds:=by
 cases r with
 | tup e r=>exact ⟨_,_,rfl,e,r⟩
mutual
theorem eqD_refl : ∀ (n : Nat) (d : D),d.eqok n = true->eqD d d = true
 | _,.non,_=>rfl
 | _,.bl b,_=>by simp [eqD]
 | _,.int i,_=>by simp [eqD]
 | _,.str x,_=>by simp [eqD]
 | n + 1,.tup xs,h=>by rw [D.eqok] at h;rw [eqD];exact eqDs_refl n xs h
 | n + 1,.lst xs,h=>by rw [D.eqok] at h;rw [eqD];exact eqDs_refl n xs h
 | 0,.tup xs,h=>by simp [D.eqok] at h
 | 0,.lst xs,h=>by simp [D.eqok] at h
 | n,.dct _,h=>by cases n <;> simp [D.eqok] at h
 | n,.undef,h=>by cases n <;> simp [D.eqok] at h
 | n,.scr _,h=>by cases n <;> simp [D.eqok] at h
 | n,.fdc _,h=>by cases n <;> simp [D.eqok] at h
theorem eqDs_refl : ∀ (n : Nat) (ds : List D),D.eqoks n ds = true->eqDs ds ds = true
 | _,[],_=>rfl
 | n,d :: ds,h=>by
  rw [D.eqoks,Bool.and_eq_true] at h
  rw [eqDs,eqD_refl n d h.1,eqDs_refl n ds h.2]
  rfl
end
mutual
theorem Rep.inj {P P' : Addr->Prop} {H : Hp} : ∀ (n : Nat) {v : V} {d e : D},d.eqok n = true->e.eqok n = true->Rep P H v d->Rep P' H v e->d = e
 | _,_,_,_,_,_,.non,.non=>rfl
 | _,_,_,_,_,_,.bl _,.bl _=>rfl
 | _,_,_,_,_,_,.int _,.int _=>rfl
 | _,_,_,_,_,_,.str _,.str _=>rfl
 | n + 1,_,.tup ds,_,h,h',.tup e1 r1,q=>by
  cases q with
  | tup e2 r2=>
   rw [e1] at e2;cases e2
   rw [D.eqok] at h h'
   rw [Reps.inj n h h' r1 r2]
  | lst e2 _ _=>rw [e1] at e2;cases e2
  | frz e2 _=>simp [D.eqok] at h'
  | fdK e2 _ _=>simp [D.eqok] at h'
  | fdT e2 _ _=>simp [D.eqok] at h'
  | dK e2 _ _ _=>rw [e1] at e2;cases e2
  | dT e2 _ _ _=>rw [e1] at e2;cases e2
 | n + 1,_,.lst ds,_,h,h',.lst e1 p r1,q=>by
  cases q with
  | tup e2 r2=>rw [e1] at e2;cases e2
  | lst e2 _ r2=>
   rw [e1] at e2;cases e2
   rw [D.eqok] at h h'
   rw [Reps.inj n h h' r1 r2]
  | frz e2 _=>simp [D.eqok] at h'
  | fdK e2 _ _=>simp [D.eqok] at h'
  | fdT e2 _ _=>simp [D.eqok] at h'
  | dK e2 _ _ _=>rw [e1] at e2;cases e2
  | dT e2 _ _ _=>rw [e1] at e2;cases e2
 | 0,_,.tup ds,_,h,_,_,_=>by simp [D.eqok] at h
 | 0,_,.lst ds,_,h,_,_,_=>by simp [D.eqok] at h
 | n,_,.dct _,_,h,_,_,_=>by cases n <;> simp [D.eqok] at h
 | n,_,.scr _,_,h,_,_,_=>by cases n <;> simp [D.eqok] at h
 | n,_,.fdc _,_,h,_,_,_=>by cases n <;> simp [D.eqok] at h
theorem Reps.inj {P P' : Addr->Prop} {H : Hp} : ∀ (n : Nat) {v : List V} {d e : List D},D.eqoks n d = true->D.eqoks n e = true->Reps P H v d->Reps P' H v e->d = e
 | _,_,_,_,_,_,.nil,.nil=>rfl
 | n,_,_,_,h,h',.cons r t,.cons r' t'=>by
  rw [D.eqoks,Bool.and_eq_true] at h h'
  rw [Rep.inj n h.1 h'.1 r r',Reps.inj n h.2 h'.2 t t']
end
theorem eqDs_range : ∀ (xs ys : List D),eqDs xs ys = ((List.range (min xs.length ys.length)).all (fun j=>eqD (xs.getD j .non) (ys.getD j .non)) && xs.length == ys.length)
 | [],[]=>by simp [eqDs]
 | [],y :: ys=>by simp [eqDs]
 | x :: xs,[]=>by simp [eqDs]
 | x :: xs,y :: ys=>by
  have e : min (x :: xs).length (y :: ys).length = min xs.length ys.length + 1:=by simp only [List.length_cons];lia
  rw [eqDs,eqDs_range xs ys,e,List.range_succ_eq_map,List.all_cons,List.all_map,Bool.and_assoc]
  congr 1
  simp [Function.comp_def]
theorem eqoks_get {n : Nat} : ∀ {ds : List D} {j : Nat},D.eqoks n ds = true->j < ds.length->(ds.getD j .non).eqok n = true
 | [],j,_,h=>by simp at h
 | d :: ds,0,h,_=>by rw [D.eqoks,Bool.and_eq_true] at h;exact h.1
 | d :: ds,j + 1,h,hj=>by
  rw [D.eqoks,Bool.and_eq_true] at h
  simpa using eqoks_get (ds:=ds) (j:=j) h.2 (by simpa using hj)
theorem Reps.getD {P : Addr->Prop} {H : Hp} {vs : List V} {ds : List D} {j : Nat} (r : Reps P H vs ds) (hj : j < ds.length) : ∃ v,vs[j]? = some v/\Rep P H v (ds.getD j .non):=by
 obtain ⟨v,h1,h2⟩:=r.get (i:=j) (d:=ds.getD j .non) (by simp [hj])
 exact ⟨v,h1,h2⟩
section
variable {X : Cx} {pins : List (Addr × Obj)} {σ : St} {H : Hp} {s : Shared}
theorem rep_eq (I : Inv X pins σ H s) : ∀ (n : Nat) (A : Around) {x y : V} {a b : D} {u v : Value},A.units + n < cLine->a.eqok n = true->b.eqok n = true->Rep All H x a->Rep All H y b->RelV x u->RelV y v->
  RcAt A s u v (eqD a b)/\RcNeAt A s u v (!eqD a b)/\EqAt A s u v (eqD a b):=by
 intro n
 induction n with
 | zero=>
  intro A x y a b u v hu ha hb rx ry ru rv
  cases rx with
  | non=>
   cases ru
   cases ry with
   | non=>cases rv;exact ⟨RcAt.none_none,RcNeAt.none_none,EqAt.same _⟩
   | bl _=>cases rv;exact ⟨RcAt.none_bool _,RcNeAt.none_bool _,EqAt.none_bool _⟩
   | int _=>obtain ⟨t,rfl⟩:=rv;exact ⟨RcAt.none_int _ _,RcNeAt.none_int _ _,EqAt.none_int _ _⟩
   | str _=>obtain ⟨t,rfl⟩:=rv;exact ⟨RcAt.none_str _ _,RcNeAt.none_str _ _,EqAt.none_str _ _⟩
   | _=>simp [D.eqok] at hb
  | bl _=>
   cases ru
   cases ry with
   | non=>cases rv;exact ⟨RcAt.bool_none _,RcNeAt.bool_none _,EqAt.bool_none _⟩
   | bl _=>cases rv;exact ⟨RcAt.bool_bool _ _,RcNeAt.bool_bool _ _,EqAt.bool_bool _ _⟩
   | int _=>obtain ⟨t,rfl⟩:=rv;exact ⟨RcAt.bool_int _ _ _,RcNeAt.bool_int _ _ _,EqAt.bool_int _ _ _⟩
   | str _=>obtain ⟨t,rfl⟩:=rv;exact ⟨RcAt.bool_str _ _ _,RcNeAt.bool_str _ _ _,EqAt.bool_str _ _ _⟩
   | _=>simp [D.eqok] at hb
  | int _=>
   obtain ⟨t,rfl⟩:=ru
   cases ry with
   | non=>cases rv;exact ⟨RcAt.int_none _ _,RcNeAt.int_none _ _,EqAt.int_none _ _⟩
   | bl _=>cases rv;exact ⟨RcAt.int_bool _ _ _,RcNeAt.int_bool _ _ _,EqAt.int_bool _ _ _⟩
   | int _=>obtain ⟨t',rfl⟩:=rv;exact ⟨RcAt.int_int _ _ _ _,RcNeAt.int_int _ _ _ _,EqAt.int_int _ _ _ _⟩
   | str _=>obtain ⟨t',rfl⟩:=rv;exact ⟨RcAt.int_str _ _ _ _,RcNeAt.int_str _ _ _ _,EqAt.int_str _ _ _ _⟩
   | _=>simp [D.eqok] at hb
  | str _=>
   obtain ⟨t,rfl⟩:=ru
   cases ry with
   | non=>cases rv;exact ⟨RcAt.str_none _ _,RcNeAt.str_none _ _,EqAt.str_none _ _⟩
   | bl _=>cases rv;exact ⟨RcAt.str_bool _ _ _,RcNeAt.str_bool _ _ _,EqAt.str_bool _ _ _⟩
   | int _=>obtain ⟨t',rfl⟩:=rv;exact ⟨RcAt.str_int _ _ _ _,RcNeAt.str_int _ _ _ _,EqAt.str_int _ _ _ _⟩
   | str _=>obtain ⟨t',rfl⟩:=rv;exact ⟨RcAt.str_str _ _ _ _,RcNeAt.str_str _ _ _ _,EqAt.str_str _ _ _ _⟩
   | _=>simp [D.eqok] at hb
  | _=>simp [D.eqok] at ha
 | succ n ih=>
  intro A x y a b u v hu ha hb rx ry ru rv
  have hu0 : A.units < cLine:=by lia
  have hu1 : A.in1.units + n < cLine:=by show A.units + 1 + n < cLine;lia
  cases a with
  | undef=>exact absurd rx Rep.undef
  | dct _=>simp [D.eqok] at ha
  | scr _=>simp [D.eqok] at ha
  | fdc _=>simp [D.eqok] at ha
  | non=>
   cases rx;cases ru
   cases b with
   | undef=>exact absurd ry Rep.undef
   | dct _=>simp [D.eqok] at hb
   | scr _=>simp [D.eqok] at hb
   | fdc _=>simp [D.eqok] at hb
   | non=>cases ry;cases rv;exact ⟨RcAt.none_none,RcNeAt.none_none,EqAt.same _⟩
   | bl _=>cases ry;cases rv;exact ⟨RcAt.none_bool _,RcNeAt.none_bool _,EqAt.none_bool _⟩
   | int _=>cases ry;obtain ⟨t2,rfl⟩:=rv;exact ⟨RcAt.none_int _ _,RcNeAt.none_int _ _,EqAt.none_int _ _⟩
   | str _=>cases ry;obtain ⟨t2,rfl⟩:=rv;exact ⟨RcAt.none_str _ _,RcNeAt.none_str _ _,EqAt.none_str _ _⟩
   | tup es=>
    obtain ⟨q,ys,rfl,e2,r2⟩:=ry.tupAt
    cases rv
    obtain ⟨its2,vr2,h2⟩:=fst_of I e2
    exact ⟨RcAt.none_tuple h2 hu0,RcNeAt.none_tuple h2 hu0,EqAt.none_tuple h2 hu0⟩
   | lst es=>
    obtain ⟨q,ys,rfl,e2,r2⟩:=ry.lstAt (K:=X.K)
    cases rv
    obtain ⟨its2,vr2,h2⟩:=lst_of I e2
    exact ⟨RcAt.none_list h2 hu0,RcNeAt.none_list h2 hu0,EqAt.none_list h2 hu0⟩
  | bl _=>
   cases rx;cases ru
   cases b with
   | undef=>exact absurd ry Rep.undef
   | dct _=>simp [D.eqok] at hb
   | scr _=>simp [D.eqok] at hb
   | fdc _=>simp [D.eqok] at hb
   | non=>cases ry;cases rv;exact ⟨RcAt.bool_none _,RcNeAt.bool_none _,EqAt.bool_none _⟩
   | bl _=>cases ry;cases rv;exact ⟨RcAt.bool_bool _ _,RcNeAt.bool_bool _ _,EqAt.bool_bool _ _⟩
   | int _=>cases ry;obtain ⟨t2,rfl⟩:=rv;exact ⟨RcAt.bool_int _ _ _,RcNeAt.bool_int _ _ _,EqAt.bool_int _ _ _⟩
   | str _=>cases ry;obtain ⟨t2,rfl⟩:=rv;exact ⟨RcAt.bool_str _ _ _,RcNeAt.bool_str _ _ _,EqAt.bool_str _ _ _⟩
   | tup es=>
    obtain ⟨q,ys,rfl,e2,r2⟩:=ry.tupAt
    cases rv
    obtain ⟨its2,vr2,h2⟩:=fst_of I e2
    exact ⟨RcAt.bool_tuple _ h2 hu0,RcNeAt.bool_tuple _ h2 hu0,EqAt.bool_tuple _ h2 hu0⟩
   | lst es=>
    obtain ⟨q,ys,rfl,e2,r2⟩:=ry.lstAt (K:=X.K)
    cases rv
    obtain ⟨its2,vr2,h2⟩:=lst_of I e2
    exact ⟨RcAt.bool_list _ h2 hu0,RcNeAt.bool_list _ h2 hu0,EqAt.bool_list _ h2 hu0⟩
  | int _=>
   cases rx;obtain ⟨t1,rfl⟩:=ru
   cases b with
   | undef=>exact absurd ry Rep.undef
   | dct _=>simp [D.eqok] at hb
   | scr _=>simp [D.eqok] at hb
   | fdc _=>simp [D.eqok] at hb
   | non=>cases ry;cases rv;exact ⟨RcAt.int_none _ _,RcNeAt.int_none _ _,EqAt.int_none _ _⟩
   | bl _=>cases ry;cases rv;exact ⟨RcAt.int_bool _ _ _,RcNeAt.int_bool _ _ _,EqAt.int_bool _ _ _⟩
   | int _=>cases ry;obtain ⟨t2,rfl⟩:=rv;exact ⟨RcAt.int_int _ _ _ _,RcNeAt.int_int _ _ _ _,EqAt.int_int _ _ _ _⟩
   | str _=>cases ry;obtain ⟨t2,rfl⟩:=rv;exact ⟨RcAt.int_str _ _ _ _,RcNeAt.int_str _ _ _ _,EqAt.int_str _ _ _ _⟩
   | tup es=>
    obtain ⟨q,ys,rfl,e2,r2⟩:=ry.tupAt
    cases rv
    obtain ⟨its2,vr2,h2⟩:=fst_of I e2
    exact ⟨RcAt.int_tuple _ _ h2 hu0,RcNeAt.int_tuple _ _ h2 hu0,EqAt.int_tuple _ _ h2 hu0⟩
   | lst es=>
    obtain ⟨q,ys,rfl,e2,r2⟩:=ry.lstAt (K:=X.K)
    cases rv
    obtain ⟨its2,vr2,h2⟩:=lst_of I e2
    exact ⟨RcAt.int_list _ _ h2 hu0,RcNeAt.int_list _ _ h2 hu0,EqAt.int_list _ _ h2 hu0⟩
  | str _=>
   cases rx;obtain ⟨t1,rfl⟩:=ru
   cases b with
   | undef=>exact absurd ry Rep.undef
   | dct _=>simp [D.eqok] at hb
   | scr _=>simp [D.eqok] at hb
   | fdc _=>simp [D.eqok] at hb
   | non=>cases ry;cases rv;exact ⟨RcAt.str_none _ _,RcNeAt.str_none _ _,EqAt.str_none _ _⟩
   | bl _=>cases ry;cases rv;exact ⟨RcAt.str_bool _ _ _,RcNeAt.str_bool _ _ _,EqAt.str_bool _ _ _⟩
   | int _=>cases ry;obtain ⟨t2,rfl⟩:=rv;exact ⟨RcAt.str_int _ _ _ _,RcNeAt.str_int _ _ _ _,EqAt.str_int _ _ _ _⟩
   | str _=>cases ry;obtain ⟨t2,rfl⟩:=rv;exact ⟨RcAt.str_str _ _ _ _,RcNeAt.str_str _ _ _ _,EqAt.str_str _ _ _ _⟩
   | tup es=>
    obtain ⟨q,ys,rfl,e2,r2⟩:=ry.tupAt
    cases rv
    obtain ⟨its2,vr2,h2⟩:=fst_of I e2
    exact ⟨RcAt.str_tuple _ _ h2 hu0,RcNeAt.str_tuple _ _ h2 hu0,EqAt.str_tuple _ _ h2 hu0⟩
   | lst es=>
    obtain ⟨q,ys,rfl,e2,r2⟩:=ry.lstAt (K:=X.K)
    cases rv
    obtain ⟨its2,vr2,h2⟩:=lst_of I e2
    exact ⟨RcAt.str_list _ _ h2 hu0,RcNeAt.str_list _ _ h2 hu0,EqAt.str_list _ _ h2 hu0⟩
  | tup ds=>
   obtain ⟨p,xs,rfl,e1,r1⟩:=rx.tupAt
   cases ru
   obtain ⟨its1,vr1,h1⟩:=fst_of I e1
   rw [D.eqok] at ha
   cases b with
   | undef=>exact absurd ry Rep.undef
   | dct _=>simp [D.eqok] at hb
   | scr _=>simp [D.eqok] at hb
   | fdc _=>simp [D.eqok] at hb
   | non=>cases ry;cases rv;exact ⟨RcAt.tuple_none h1 hu0,RcNeAt.tuple_none h1 hu0,EqAt.tuple_none h1 hu0⟩
   | bl _=>cases ry;cases rv;exact ⟨RcAt.tuple_bool _ h1 hu0,RcNeAt.tuple_bool _ h1 hu0,EqAt.tuple_bool _ h1 hu0⟩
   | int _=>cases ry;obtain ⟨t2,rfl⟩:=rv;exact ⟨RcAt.tuple_int _ _ h1 hu0,RcNeAt.tuple_int _ _ h1 hu0,EqAt.tuple_int _ _ h1 hu0⟩
   | str _=>cases ry;obtain ⟨t2,rfl⟩:=rv;exact ⟨RcAt.tuple_str _ _ h1 hu0,RcNeAt.tuple_str _ _ h1 hu0,EqAt.tuple_str _ _ h1 hu0⟩
   | tup es=>
    obtain ⟨q,ys,rfl,e2,r2⟩:=ry.tupAt
    cases rv
    obtain ⟨its2,vr2,h2⟩:=fst_of I e2
    rw [D.eqok] at hb
    have z1 : its1.toArray.size = ds.length:=by rw [List.size_toArray,<- vr1.length,r1.length]
    have z2 : its2.toArray.size = es.length:=by rw [List.size_toArray,<- vr2.length,r2.length]
    have he : ∀ j (g1 : j < its1.toArray.size) (g2 : j < its2.toArray.size),EqAt A.in1 s its1.toArray[j] its2.toArray[j] (eqD (ds.getD j .non) (es.getD j .non)):=fun j g1 g2=>by
     obtain ⟨v1,w1,rr1⟩:=r1.getD (j:=j) (by lia)
     obtain ⟨v2,w2,rr2⟩:=r2.getD (j:=j) (by lia)
     obtain ⟨u1,k1,l1⟩:=vr1.get w1
     obtain ⟨u2,k2,l2⟩:=vr2.get w2
     have m1 : its1.toArray[j] = u1:=by
      rw [List.getElem?_eq_getElem (by simpa using g1)] at k1
      simpa using Option.some.inj k1
     have m2 : its2.toArray[j] = u2:=by
      rw [List.getElem?_eq_getElem (by simpa using g2)] at k2
      simpa using Option.some.inj k2
     rw [m1,m2]
     exact (ih A.in1 hu1 (eqoks_get ha (by lia)) (eqoks_get hb (by lia)) rr1 rr2 l1 l2).2.2
    have ee : eqD (.tup ds) (.tup es) = ((List.range (min its1.toArray.size its2.toArray.size)).all (fun j=>eqD (ds.getD j .non) (es.getD j .non)) && its1.toArray.size == its2.toArray.size):=by
     rw [eqD,eqDs_range,z1,z2]
    have r0:=RcAt.tuples h1 h2 hu0 he
    have r0':=RcNeAt.tuples h1 h2 hu0 he
    rw [<- ee] at r0 r0'
    refine ⟨r0,r0',?_⟩
    by_cases hpq : p = q
    ·subst hpq
     have hab : (D.tup ds) = (.tup es):=Rep.inj (n + 1) (by rw [D.eqok];exact ha) (by rw [D.eqok];exact hb) rx ry
     rw [<- hab,eqD_refl (n + 1) _ (by rw [D.eqok];exact ha)]
     exact EqAt.same _
    ·exact EqAt.of_refs hpq r0
   | lst es=>
    obtain ⟨q,ys,rfl,e2,r2⟩:=ry.lstAt (K:=X.K)
    cases rv
    obtain ⟨its2,vr2,h2⟩:=lst_of I e2
    exact ⟨RcAt.tuple_list h1 h2 hu0,RcNeAt.tuple_list h1 h2 hu0,EqAt.tuple_list h1 h2 hu0⟩
  | lst ds=>
   obtain ⟨p,xs,rfl,e1,r1⟩:=rx.lstAt (K:=X.K)
   cases ru
   obtain ⟨its1,vr1,h1⟩:=lst_of I e1
   rw [D.eqok] at ha
   cases b with
   | undef=>exact absurd ry Rep.undef
   | dct _=>simp [D.eqok] at hb
   | scr _=>simp [D.eqok] at hb
   | fdc _=>simp [D.eqok] at hb
   | non=>cases ry;cases rv;exact ⟨RcAt.list_none h1 hu0,RcNeAt.list_none h1 hu0,EqAt.list_none h1 hu0⟩
   | bl _=>cases ry;cases rv;exact ⟨RcAt.list_bool _ h1 hu0,RcNeAt.list_bool _ h1 hu0,EqAt.list_bool _ h1 hu0⟩
   | int _=>cases ry;obtain ⟨t2,rfl⟩:=rv;exact ⟨RcAt.list_int _ _ h1 hu0,RcNeAt.list_int _ _ h1 hu0,EqAt.list_int _ _ h1 hu0⟩
   | str _=>cases ry;obtain ⟨t2,rfl⟩:=rv;exact ⟨RcAt.list_str _ _ h1 hu0,RcNeAt.list_str _ _ h1 hu0,EqAt.list_str _ _ h1 hu0⟩
   | tup es=>
    obtain ⟨q,ys,rfl,e2,r2⟩:=ry.tupAt
    cases rv
    obtain ⟨its2,vr2,h2⟩:=fst_of I e2
    exact ⟨RcAt.list_tuple h1 h2 hu0,RcNeAt.list_tuple h1 h2 hu0,EqAt.list_tuple h1 h2 hu0⟩
   | lst es=>
    obtain ⟨q,ys,rfl,e2,r2⟩:=ry.lstAt (K:=X.K)
    cases rv
    obtain ⟨its2,vr2,h2⟩:=lst_of I e2
    rw [D.eqok] at hb
    have z1 : its1.toArray.size = ds.length:=by rw [List.size_toArray,<- vr1.length,r1.length]
    have z2 : its2.toArray.size = es.length:=by rw [List.size_toArray,<- vr2.length,r2.length]
    have he : ∀ j (g1 : j < its1.toArray.size) (g2 : j < its2.toArray.size),EqAt A.in1 s its1.toArray[j] its2.toArray[j] (eqD (ds.getD j .non) (es.getD j .non)):=fun j g1 g2=>by
     obtain ⟨v1,w1,rr1⟩:=r1.getD (j:=j) (by lia)
     obtain ⟨v2,w2,rr2⟩:=r2.getD (j:=j) (by lia)
     obtain ⟨u1,k1,l1⟩:=vr1.get w1
     obtain ⟨u2,k2,l2⟩:=vr2.get w2
     have m1 : its1.toArray[j] = u1:=by
      rw [List.getElem?_eq_getElem (by simpa using g1)] at k1
      simpa using Option.some.inj k1
     have m2 : its2.toArray[j] = u2:=by
      rw [List.getElem?_eq_getElem (by simpa using g2)] at k2
      simpa using Option.some.inj k2
     rw [m1,m2]
     exact (ih A.in1 hu1 (eqoks_get ha (by lia)) (eqoks_get hb (by lia)) rr1 rr2 l1 l2).2.2
    have r00 : RcAt A s (.ref p) (.ref q) (eqD (.lst ds) (.lst es))/\RcNeAt A s (.ref p) (.ref q) (!eqD (.lst ds) (.lst es)):=by
     rw [eqD,eqDs_range]
     by_cases hz : ds.length = es.length
     ·have r0:=RcAt.lists h1 h2 (by lia) hu0 he
      have r0':=RcNeAt.lists h1 h2 (by lia) hu0 he
      rw [z1] at r0 r0'
      rw [show min ds.length es.length = ds.length by lia,show (ds.length == es.length) = true by simpa using hz,Bool.and_true]
      exact ⟨r0,r0'⟩
     ·have hz' : (its1.toArray.size != its2.toArray.size) = true:=by rw [z1,z2];simpa using hz
      rw [show (ds.length == es.length) = false by simpa using hz,Bool.and_false]
      exact ⟨RcAt.lists_lengths h1 h2 hz' hu0,RcNeAt.lists_lengths h1 h2 hz' hu0⟩
    obtain ⟨r0,r0'⟩:=r00
    refine ⟨r0,r0',?_⟩
    by_cases hpq : p = q
    ·subst hpq
     have hab : (D.lst ds) = (.lst es):=Rep.inj (n + 1) (by rw [D.eqok];exact ha) (by rw [D.eqok];exact hb) rx ry
     rw [<- hab,eqD_refl (n + 1) _ (by rw [D.eqok];exact ha)]
     exact EqAt.same _
    ·exact EqAt.of_refs hpq r0
end
end Mi
end
section
set_option maxRecDepth 100000
set_option maxHeartbeats 1000000
namespace Mi
open PySem L2 PySem.SeqAt
open PySem.AutoSeq1 (wpAny_loadPart')
open PySem.MeetsSeq PySem.MeetsSeq2 PySem.MeetsSeq3
variable [KFrag]
noncomputable def Ordr.op : Ordr->CmpOp
 | .lt=>.Lt | .le=>.LtE | .gt=>.Gt | .ge=>.GtE
noncomputable def RoAt (op : CmpOp) (A : Around) (s : Shared) (u v : Value) (b : Bool) : Prop:=
 ∀ (prog : Program) (w : World) (E : Value->Shared->Prop) (Q : Value->Shared->Prop),Q (.bool b) s->wpAny (model prog w) A (richCompare op u v) Q E s
noncomputable def C2 (o : Ordr) (A : Around) (s : Shared) (vs ws : List Value) (xs ys : List D) : Prop:=
 vs.length = xs.length/\ws.length = ys.length/\∀ (j : Nat) (v w : Value) (x y : D),vs[j]? = some v->ws[j]? = some w->xs[j]? = some x->ys[j]? = some y->
  EqAt A s v w (eqD x y)/\(eqD x y = false->∀ k,ordD o x y = some k->RoAt o.op A s v w k)
theorem C2.tail {o : Ordr} {A : Around} {s : Shared} {v w : Value} {vs ws : List Value} {x y : D} {xs ys : List D} (h : C2 o A s (v :: vs) (w :: ws) (x :: xs) (y :: ys)) : C2 o A s vs ws xs ys:=
 ⟨by simpa using h.1,by simpa using h.2.1,fun j a b c d e1 e2 e3 e4=>h.2.2 (j + 1) a b c d (by simpa using e1) (by simpa using e2) (by simpa using e3) (by simpa using e4)⟩
theorem tuple_ltAt (l b : Addr) (items items2 : Array Value) (n n2 : Nat) (dd dd2 : Option Addr) (sl sl2 : Array (Option Value)) (xs ys : List D) (res : Bool) (hr : ordDs .lt xs ys = some res) :
  Meets (Builtin.«tuple.__lt__» ⟨[.ref l,.ref b],[]⟩)
   (fun A R s=>s.heap.get? l = some { cls:=.type "tuple",dict:=dd,data:=.seq items n,slots:=sl }/\s.heap.get? b = some { cls:=.type "tuple",dict:=dd2,data:=.seq items2 n2,slots:=sl2 }/\
    C2 .lt A.in1 s items.toList items2.toList xs ys/\R (.ok (.ret (.bool res))) s):=
 .of_wp fun prog w A R s h=>by
  obtain ⟨hp,g,d,tk,os⟩:=s;obtain ⟨hl,hb,hC,h⟩:=h
  have f2:=AutoSeq1.sub_tuple_tuple
  have z1 : items.size = xs.length:=by rw [<- hC.1];simp
  have z2 : items2.size = ys.length:=by rw [<- hC.2.1];simp
  wp_walk using wpAny_loadPart' hl,wpAny_loadPart' hb,wpAny_forIn_list _ (fun rest b s'=>b.1 = none/\s' = ⟨hp,g,d,tk,os⟩/\∃ (vs ws : List Value) (xs' ys' : List D),rest = vs.zip ws/\
   C2 .lt A.in1 ⟨hp,g,d,tk,os⟩ vs ws xs' ys'/\xs'.length + items2.size = ys'.length + items.size/\ordDs .lt xs' ys' = some res) _
  case turn=>
   rintro ⟨y,x⟩ rest b s' ⟨hb',rfl,vs,ws,xs',ys',hz,hC',hlen,hR⟩
   cases vs with
   | nil=>rw [List.zip_nil_left] at hz;cases hz
   | cons v vs=>
    cases ws with
    | nil=>rw [List.zip_nil_right] at hz;cases hz
    | cons w' ws=>
     rw [List.zip_cons_cons] at hz
     injection hz with hyx hrest
     injection hyx with hy hx
     subst hy hx
     cases xs' with
     | nil=>exact absurd hC'.1 (by simp)
     | cons x0 xs'=>
      cases ys' with
      | nil=>exact absurd hC'.2.1 (by simp)
      | cons y0 ys'=>
       rw [ordDs] at hR
       simp only [List.length_cons] at hlen
       obtain ⟨he,hlt⟩:=hC'.2.2 0 _ _ _ _ rfl rfl rfl rfl
       refine wpAny_bind (he prog w _ _ ?_)
       cases e : eqD x0 y0 with
       | true=>
        rw [e] at hR
        simp only [if_true] at hR
        wp_walk
        exact ⟨rfl,rfl,_,_,_,_,hrest,hC'.tail,by lia,hR⟩
       | false=>
        rw [e] at hR
        simp only [Bool.false_eq_true,if_false] at hR
        have hri : ∀ (E : Value->Shared->Prop) (Q : Value->Shared->Prop),Q (.bool res) ⟨hp,g,d,tk,os⟩->wpAny (model prog w) A.in1 (richCompare .Lt _ _) Q E ⟨hp,g,d,tk,os⟩:=fun E Q q=>hlt e res hR prog w E Q q
        wp_walk using hri
        exact ⟨_,rfl,by simpa using h⟩
  case fin=>
   rintro ⟨b1,b2⟩ s' ⟨hb',rfl,vs,ws,xs',ys',hz,hC',hlen,hR⟩
   simp only at hb'
   subst hb'
   have hv : res = decide (items.size < items2.size):=by
    cases xs' with
    | nil=>
     rw [ordDs] at hR
     have:=Option.some.inj hR
     rw [<- this]
     simp only [List.length_nil] at hlen
     simp only [Ordr.nat]
     congr 1
     simp only [eq_iff_iff]
     lia
    | cons x0 xs'=>
     cases ys' with
     | nil=>
      rw [ordDs] at hR
      have:=Option.some.inj hR
      rw [<- this]
      simp only [List.length_nil,List.length_cons] at hlen
      simp only [Ordr.nat,List.length_cons]
      congr 1
      simp only [eq_iff_iff]
      lia
     | cons y0 ys'=>
      exfalso
      cases vs with
      | nil=>exact absurd hC'.1 (by simp)
      | cons v vs=>
       cases ws with
       | nil=>exact absurd hC'.2.1 (by simp)
       | cons w' ws=>rw [List.zip_cons_cons] at hz;cases hz
   rw [hv] at h
   wp_walk
   exact ⟨_,rfl,by simpa [Builtin.Tuple.tupleCompareSizes] using h⟩
  case h=>
   exact ⟨rfl,rfl,items.toList,items2.toList,xs,ys,rfl,hC,by lia,hr⟩
theorem RoAt.lt_tup {A : Around} {s : Shared} {l b : Addr} {items items2 : Array Value} {xs ys : List D} {res : Bool} (hl : s.heap.IsTuple l items) (hb : s.heap.IsTuple b items2) (hC : C2 .lt A.in1 s items.toList items2.toList xs ys) (hr : ordDs .lt xs ys = some res) (hu : A.units < cLine) :
  RoAt .Lt A s (.ref l) (.ref b) res:=fun prog w E Q h=>by
 obtain ⟨⟨cls,dd,data,sl⟩,ho,hc,n,hd⟩:=id hl
 obtain ⟨⟨cls2,dd2,data2,sl2⟩,ho2,hc2,n2,hd2⟩:=id hb
 simp only at hc hd hc2 hd2
 subst hc hd hc2 hd2
 exact richCompare_meets_room (op:=.Lt) ⟨_,ho,rfl⟩ ⟨_,ho2,rfl⟩ PySem.F.slot_tuple_lt PySem.F.entry_tuple_lt (PySem.F.args_tuple_lt_2 _ _) (tuple_ltAt l b items items2 n n2 dd dd2 sl sl2 xs ys res hr)
  ⟨ho,ho2,hC,show Value.bool res ≠ Value.notImplemented/\Q (.bool res) s from ⟨(fun x=>nomatch x),h⟩⟩ hu
theorem tuple_leAt (l b : Addr) (items items2 : Array Value) (n n2 : Nat) (dd dd2 : Option Addr) (sl sl2 : Array (Option Value)) (xs ys : List D) (res : Bool) (hr : ordDs .le xs ys = some res) :
  Meets (Builtin.«tuple.__le__» ⟨[.ref l,.ref b],[]⟩)
   (fun A R s=>s.heap.get? l = some { cls:=.type "tuple",dict:=dd,data:=.seq items n,slots:=sl }/\s.heap.get? b = some { cls:=.type "tuple",dict:=dd2,data:=.seq items2 n2,slots:=sl2 }/\
    C2 .le A.in1 s items.toList items2.toList xs ys/\R (.ok (.ret (.bool res))) s):=
 .of_wp fun prog w A R s h=>by
  obtain ⟨hp,g,d,tk,os⟩:=s;obtain ⟨hl,hb,hC,h⟩:=h
  have f2:=AutoSeq1.sub_tuple_tuple
  have z1 : items.size = xs.length:=by rw [<- hC.1];simp
  have z2 : items2.size = ys.length:=by rw [<- hC.2.1];simp
  wp_walk using wpAny_loadPart' hl,wpAny_loadPart' hb,wpAny_forIn_list _ (fun rest b s'=>b.1 = none/\s' = ⟨hp,g,d,tk,os⟩/\∃ (vs ws : List Value) (xs' ys' : List D),rest = vs.zip ws/\
   C2 .le A.in1 ⟨hp,g,d,tk,os⟩ vs ws xs' ys'/\xs'.length + items2.size = ys'.length + items.size/\ordDs .le xs' ys' = some res) _
  case turn=>
   rintro ⟨y,x⟩ rest b s' ⟨hb',rfl,vs,ws,xs',ys',hz,hC',hlen,hR⟩
   cases vs with
   | nil=>rw [List.zip_nil_left] at hz;cases hz
   | cons v vs=>
    cases ws with
    | nil=>rw [List.zip_nil_right] at hz;cases hz
    | cons w' ws=>
     rw [List.zip_cons_cons] at hz
     injection hz with hyx hrest
     injection hyx with hy hx
     subst hy hx
     cases xs' with
     | nil=>exact absurd hC'.1 (by simp)
     | cons x0 xs'=>
      cases ys' with
      | nil=>exact absurd hC'.2.1 (by simp)
      | cons y0 ys'=>
       rw [ordDs] at hR
       simp only [List.length_cons] at hlen
       obtain ⟨he,hlt⟩:=hC'.2.2 0 _ _ _ _ rfl rfl rfl rfl
       refine wpAny_bind (he prog w _ _ ?_)
       cases e : eqD x0 y0 with
       | true=>
        rw [e] at hR
        simp only [if_true] at hR
        wp_walk
        exact ⟨rfl,rfl,_,_,_,_,hrest,hC'.tail,by lia,hR⟩
       | false=>
        rw [e] at hR
        simp only [Bool.false_eq_true,if_false] at hR
        have hri : ∀ (E : Value->Shared->Prop) (Q : Value->Shared->Prop),Q (.bool res) ⟨hp,g,d,tk,os⟩->wpAny (model prog w) A.in1 (richCompare .LtE _ _) Q E ⟨hp,g,d,tk,os⟩:=fun E Q q=>hlt e res hR prog w E Q q
        wp_walk using hri
        exact ⟨_,rfl,by simpa using h⟩
  case fin=>
   rintro ⟨b1,b2⟩ s' ⟨hb',rfl,vs,ws,xs',ys',hz,hC',hlen,hR⟩
   simp only at hb'
   subst hb'
   have hv : res = decide (items.size<=items2.size):=by
    cases xs' with
    | nil=>
     rw [ordDs] at hR
     have:=Option.some.inj hR
     rw [<- this]
     simp only [List.length_nil] at hlen
     simp only [Ordr.nat]
     congr 1
     simp only [eq_iff_iff]
     lia
    | cons x0 xs'=>
     cases ys' with
     | nil=>
      rw [ordDs] at hR
      have:=Option.some.inj hR
      rw [<- this]
      simp only [List.length_nil,List.length_cons] at hlen
      simp only [Ordr.nat,List.length_cons]
      congr 1
      simp only [eq_iff_iff]
      lia
     | cons y0 ys'=>
      exfalso
      cases vs with
      | nil=>exact absurd hC'.1 (by simp)
      | cons v vs=>
       cases ws with
       | nil=>exact absurd hC'.2.1 (by simp)
       | cons w' ws=>rw [List.zip_cons_cons] at hz;cases hz
   rw [hv] at h
   wp_walk
   exact ⟨_,rfl,by simpa [Builtin.Tuple.tupleCompareSizes] using h⟩
  case h=>
   exact ⟨rfl,rfl,items.toList,items2.toList,xs,ys,rfl,hC,by lia,hr⟩
theorem RoAt.le_tup {A : Around} {s : Shared} {l b : Addr} {items items2 : Array Value} {xs ys : List D} {res : Bool} (hl : s.heap.IsTuple l items) (hb : s.heap.IsTuple b items2) (hC : C2 .le A.in1 s items.toList items2.toList xs ys) (hr : ordDs .le xs ys = some res) (hu : A.units < cLine) :
  RoAt .LtE A s (.ref l) (.ref b) res:=fun prog w E Q h=>by
 obtain ⟨⟨cls,dd,data,sl⟩,ho,hc,n,hd⟩:=id hl
 obtain ⟨⟨cls2,dd2,data2,sl2⟩,ho2,hc2,n2,hd2⟩:=id hb
 simp only at hc hd hc2 hd2
 subst hc hd hc2 hd2
 exact richCompare_meets_room (op:=.LtE) ⟨_,ho,rfl⟩ ⟨_,ho2,rfl⟩ PySem.F.slot_tuple_le PySem.F.entry_tuple_le (PySem.F.args_tuple_le_2 _ _) (tuple_leAt l b items items2 n n2 dd dd2 sl sl2 xs ys res hr)
  ⟨ho,ho2,hC,show Value.bool res ≠ Value.notImplemented/\Q (.bool res) s from ⟨(fun x=>nomatch x),h⟩⟩ hu
theorem tuple_gtAt (l b : Addr) (items items2 : Array Value) (n n2 : Nat) (dd dd2 : Option Addr) (sl sl2 : Array (Option Value)) (xs ys : List D) (res : Bool) (hr : ordDs .gt xs ys = some res) :
  Meets (Builtin.«tuple.__gt__» ⟨[.ref l,.ref b],[]⟩)
   (fun A R s=>s.heap.get? l = some { cls:=.type "tuple",dict:=dd,data:=.seq items n,slots:=sl }/\s.heap.get? b = some { cls:=.type "tuple",dict:=dd2,data:=.seq items2 n2,slots:=sl2 }/\
    C2 .gt A.in1 s items.toList items2.toList xs ys/\R (.ok (.ret (.bool res))) s):=
 .of_wp fun prog w A R s h=>by
  obtain ⟨hp,g,d,tk,os⟩:=s;obtain ⟨hl,hb,hC,h⟩:=h
  have f2:=AutoSeq1.sub_tuple_tuple
  have z1 : items.size = xs.length:=by rw [<- hC.1];simp
  have z2 : items2.size = ys.length:=by rw [<- hC.2.1];simp
  wp_walk using wpAny_loadPart' hl,wpAny_loadPart' hb,wpAny_forIn_list _ (fun rest b s'=>b.1 = none/\s' = ⟨hp,g,d,tk,os⟩/\∃ (vs ws : List Value) (xs' ys' : List D),rest = vs.zip ws/\
   C2 .gt A.in1 ⟨hp,g,d,tk,os⟩ vs ws xs' ys'/\xs'.length + items2.size = ys'.length + items.size/\ordDs .gt xs' ys' = some res) _
  case turn=>
   rintro ⟨y,x⟩ rest b s' ⟨hb',rfl,vs,ws,xs',ys',hz,hC',hlen,hR⟩
   cases vs with
   | nil=>rw [List.zip_nil_left] at hz;cases hz
   | cons v vs=>
    cases ws with
    | nil=>rw [List.zip_nil_right] at hz;cases hz
    | cons w' ws=>
     rw [List.zip_cons_cons] at hz
     injection hz with hyx hrest
     injection hyx with hy hx
     subst hy hx
     cases xs' with
     | nil=>exact absurd hC'.1 (by simp)
     | cons x0 xs'=>
      cases ys' with
      | nil=>exact absurd hC'.2.1 (by simp)
      | cons y0 ys'=>
       rw [ordDs] at hR
       simp only [List.length_cons] at hlen
       obtain ⟨he,hlt⟩:=hC'.2.2 0 _ _ _ _ rfl rfl rfl rfl
       refine wpAny_bind (he prog w _ _ ?_)
       cases e : eqD x0 y0 with
       | true=>
        rw [e] at hR
        simp only [if_true] at hR
        wp_walk
        exact ⟨rfl,rfl,_,_,_,_,hrest,hC'.tail,by lia,hR⟩
       | false=>
        rw [e] at hR
        simp only [Bool.false_eq_true,if_false] at hR
        have hri : ∀ (E : Value->Shared->Prop) (Q : Value->Shared->Prop),Q (.bool res) ⟨hp,g,d,tk,os⟩->wpAny (model prog w) A.in1 (richCompare .Gt _ _) Q E ⟨hp,g,d,tk,os⟩:=fun E Q q=>hlt e res hR prog w E Q q
        wp_walk using hri
        exact ⟨_,rfl,by simpa using h⟩
  case fin=>
   rintro ⟨b1,b2⟩ s' ⟨hb',rfl,vs,ws,xs',ys',hz,hC',hlen,hR⟩
   simp only at hb'
   subst hb'
   have hv : res = decide (items2.size < items.size):=by
    cases xs' with
    | nil=>
     rw [ordDs] at hR
     have:=Option.some.inj hR
     rw [<- this]
     simp only [List.length_nil] at hlen
     simp only [Ordr.nat]
     congr 1
     simp only [eq_iff_iff]
     lia
    | cons x0 xs'=>
     cases ys' with
     | nil=>
      rw [ordDs] at hR
      have:=Option.some.inj hR
      rw [<- this]
      simp only [List.length_nil,List.length_cons] at hlen
      simp only [Ordr.nat,List.length_cons]
      congr 1
      simp only [eq_iff_iff]
      lia
     | cons y0 ys'=>
      exfalso
      cases vs with
      | nil=>exact absurd hC'.1 (by simp)
      | cons v vs=>
       cases ws with
       | nil=>exact absurd hC'.2.1 (by simp)
       | cons w' ws=>rw [List.zip_cons_cons] at hz;cases hz
   rw [hv] at h
   wp_walk
   exact ⟨_,rfl,by simpa [Builtin.Tuple.tupleCompareSizes] using h⟩
  case h=>
   exact ⟨rfl,rfl,items.toList,items2.toList,xs,ys,rfl,hC,by lia,hr⟩
theorem RoAt.gt_tup {A : Around} {s : Shared} {l b : Addr} {items items2 : Array Value} {xs ys : List D} {res : Bool} (hl : s.heap.IsTuple l items) (hb : s.heap.IsTuple b items2) (hC : C2 .gt A.in1 s items.toList items2.toList xs ys) (hr : ordDs .gt xs ys = some res) (hu : A.units < cLine) :
  RoAt .Gt A s (.ref l) (.ref b) res:=fun prog w E Q h=>by
 obtain ⟨⟨cls,dd,data,sl⟩,ho,hc,n,hd⟩:=id hl
 obtain ⟨⟨cls2,dd2,data2,sl2⟩,ho2,hc2,n2,hd2⟩:=id hb
 simp only at hc hd hc2 hd2
 subst hc hd hc2 hd2
 exact richCompare_meets_room (op:=.Gt) ⟨_,ho,rfl⟩ ⟨_,ho2,rfl⟩ PySem.F.slot_tuple_gt PySem.F.entry_tuple_gt (PySem.F.args_tuple_gt_2 _ _) (tuple_gtAt l b items items2 n n2 dd dd2 sl sl2 xs ys res hr)
  ⟨ho,ho2,hC,show Value.bool res ≠ Value.notImplemented/\Q (.bool res) s from ⟨(fun x=>nomatch x),h⟩⟩ hu
theorem tuple_geAt (l b : Addr) (items items2 : Array Value) (n n2 : Nat) (dd dd2 : Option Addr) (sl sl2 : Array (Option Value)) (xs ys : List D) (res : Bool) (hr : ordDs .ge xs ys = some res) :
  Meets (Builtin.«tuple.__ge__» ⟨[.ref l,.ref b],[]⟩)
   (fun A R s=>s.heap.get? l = some { cls:=.type "tuple",dict:=dd,data:=.seq items n,slots:=sl }/\s.heap.get? b = some { cls:=.type "tuple",dict:=dd2,data:=.seq items2 n2,slots:=sl2 }/\
    C2 .ge A.in1 s items.toList items2.toList xs ys/\R (.ok (.ret (.bool res))) s):=
 .of_wp fun prog w A R s h=>by
  obtain ⟨hp,g,d,tk,os⟩:=s;obtain ⟨hl,hb,hC,h⟩:=h
  have f2:=AutoSeq1.sub_tuple_tuple
  have z1 : items.size = xs.length:=by rw [<- hC.1];simp
  have z2 : items2.size = ys.length:=by rw [<- hC.2.1];simp
  wp_walk using wpAny_loadPart' hl,wpAny_loadPart' hb,wpAny_forIn_list _ (fun rest b s'=>b.1 = none/\s' = ⟨hp,g,d,tk,os⟩/\∃ (vs ws : List Value) (xs' ys' : List D),rest = vs.zip ws/\
   C2 .ge A.in1 ⟨hp,g,d,tk,os⟩ vs ws xs' ys'/\xs'.length + items2.size = ys'.length + items.size/\ordDs .ge xs' ys' = some res) _
  case turn=>
   rintro ⟨y,x⟩ rest b s' ⟨hb',rfl,vs,ws,xs',ys',hz,hC',hlen,hR⟩
   cases vs with
   | nil=>rw [List.zip_nil_left] at hz;cases hz
   | cons v vs=>
    cases ws with
    | nil=>rw [List.zip_nil_right] at hz;cases hz
    | cons w' ws=>
     rw [List.zip_cons_cons] at hz
     injection hz with hyx hrest
     injection hyx with hy hx
     subst hy hx
     cases xs' with
     | nil=>exact absurd hC'.1 (by simp)
     | cons x0 xs'=>
      cases ys' with
      | nil=>exact absurd hC'.2.1 (by simp)
      | cons y0 ys'=>
       rw [ordDs] at hR
       simp only [List.length_cons] at hlen
       obtain ⟨he,hlt⟩:=hC'.2.2 0 _ _ _ _ rfl rfl rfl rfl
       refine wpAny_bind (he prog w _ _ ?_)
       cases e : eqD x0 y0 with
       | true=>
        rw [e] at hR
        simp only [if_true] at hR
        wp_walk
        exact ⟨rfl,rfl,_,_,_,_,hrest,hC'.tail,by lia,hR⟩
       | false=>
        rw [e] at hR
        simp only [Bool.false_eq_true,if_false] at hR
        have hri : ∀ (E : Value->Shared->Prop) (Q : Value->Shared->Prop),Q (.bool res) ⟨hp,g,d,tk,os⟩->wpAny (model prog w) A.in1 (richCompare .GtE _ _) Q E ⟨hp,g,d,tk,os⟩:=fun E Q q=>hlt e res hR prog w E Q q
        wp_walk using hri
        exact ⟨_,rfl,by simpa using h⟩
  case fin=>
   rintro ⟨b1,b2⟩ s' ⟨hb',rfl,vs,ws,xs',ys',hz,hC',hlen,hR⟩
   simp only at hb'
   subst hb'
   have hv : res = decide (items2.size<=items.size):=by
    cases xs' with
    | nil=>
     rw [ordDs] at hR
     have:=Option.some.inj hR
     rw [<- this]
     simp only [List.length_nil] at hlen
     simp only [Ordr.nat]
     congr 1
     simp only [eq_iff_iff]
     lia
    | cons x0 xs'=>
     cases ys' with
     | nil=>
      rw [ordDs] at hR
      have:=Option.some.inj hR
      rw [<- this]
      simp only [List.length_nil,List.length_cons] at hlen
      simp only [Ordr.nat,List.length_cons]
      congr 1
      simp only [eq_iff_iff]
      lia
     | cons y0 ys'=>
      exfalso
      cases vs with
      | nil=>exact absurd hC'.1 (by simp)
      | cons v vs=>
       cases ws with
       | nil=>exact absurd hC'.2.1 (by simp)
       | cons w' ws=>rw [List.zip_cons_cons] at hz;cases hz
   rw [hv] at h
   wp_walk
   exact ⟨_,rfl,by simpa [Builtin.Tuple.tupleCompareSizes] using h⟩
  case h=>
   exact ⟨rfl,rfl,items.toList,items2.toList,xs,ys,rfl,hC,by lia,hr⟩
theorem RoAt.ge_tup {A : Around} {s : Shared} {l b : Addr} {items items2 : Array Value} {xs ys : List D} {res : Bool} (hl : s.heap.IsTuple l items) (hb : s.heap.IsTuple b items2) (hC : C2 .ge A.in1 s items.toList items2.toList xs ys) (hr : ordDs .ge xs ys = some res) (hu : A.units < cLine) :
  RoAt .GtE A s (.ref l) (.ref b) res:=fun prog w E Q h=>by
 obtain ⟨⟨cls,dd,data,sl⟩,ho,hc,n,hd⟩:=id hl
 obtain ⟨⟨cls2,dd2,data2,sl2⟩,ho2,hc2,n2,hd2⟩:=id hb
 simp only at hc hd hc2 hd2
 subst hc hd hc2 hd2
 exact richCompare_meets_room (op:=.GtE) ⟨_,ho,rfl⟩ ⟨_,ho2,rfl⟩ PySem.F.slot_tuple_ge PySem.F.entry_tuple_ge (PySem.F.args_tuple_ge_2 _ _) (tuple_geAt l b items items2 n n2 dd dd2 sl sl2 xs ys res hr)
  ⟨ho,ho2,hC,show Value.bool res ≠ Value.notImplemented/\Q (.bool res) s from ⟨(fun x=>nomatch x),h⟩⟩ hu
section
variable {X : Cx} {pins : List (Addr × Obj)} {σ : St} {H : Hp} {s : Shared}
theorem rep_ord (I : Inv X pins σ H s) (o : Ordr) : ∀ (n : Nat) (A : Around) {x y : V} {a b : D} {u v : Value} {k : Bool},A.units + n < cLine->a.eqok n = true->b.eqok n = true->Rep All H x a->Rep All H y b->RelV x u->RelV y v->
  ordD o a b = some k->RoAt o.op A s u v k:=by
 intro n
 induction n with
 | zero=>
  intro A x y a b u v k hu ha hb rx ry ru rv hk
  cases a with
  | int i=>
   cases b with
   | int j=>
    cases rx;cases ry
    obtain ⟨t,rfl⟩:=ru
    obtain ⟨t',rfl⟩:=rv
    rw [ordD] at hk
    have:=Option.some.inj hk
    subst this
    cases o with
    | lt=>exact fun prog w E Q h=>(PyProof.Rows.lt_int h : wpAny (model prog w) A (compareOp .Lt (.int i t) (.int j t')) Q E s)
    | le=>exact fun prog w E Q h=>(PyProof.Rows.le_int h : wpAny (model prog w) A (compareOp .LtE (.int i t) (.int j t')) Q E s)
    | gt=>exact fun prog w E Q h=>(PyProof.Rows.gt_int h : wpAny (model prog w) A (compareOp .Gt (.int i t) (.int j t')) Q E s)
    | ge=>exact fun prog w E Q h=>(PyProof.Rows.ge_int h : wpAny (model prog w) A (compareOp .GtE (.int i t) (.int j t')) Q E s)
   | _=>simp [ordD] at hk
  | str i=>
   cases b with
   | str j=>
    cases rx;cases ry
    obtain ⟨t,rfl⟩:=ru
    obtain ⟨t',rfl⟩:=rv
    rw [ordD] at hk
    have:=Option.some.inj hk
    subst this
    cases o with
    | lt=>exact fun prog w E Q h=>(PyProof.Rows.lt_str h : wpAny (model prog w) A (compareOp .Lt (.str i t) (.str j t')) Q E s)
    | le=>exact fun prog w E Q h=>(PySem.P.le_str h : wpAny (model prog w) A (compareOp .LtE (.str i t) (.str j t')) Q E s)
    | gt=>exact fun prog w E Q h=>(PySem.P.gt_str h : wpAny (model prog w) A (compareOp .Gt (.str i t) (.str j t')) Q E s)
    | ge=>exact fun prog w E Q h=>(PySem.P.ge_str h : wpAny (model prog w) A (compareOp .GtE (.str i t) (.str j t')) Q E s)
   | _=>simp [ordD] at hk
  | tup _=>simp [D.eqok] at ha
  | _=>cases b <;> simp [ordD] at hk
 | succ n ih=>
  intro A x y a b u v k hu ha hb rx ry ru rv hk
  have hu0 : A.units < cLine:=by lia
  have hu1 : A.in1.units + n < cLine:=by show A.units + 1 + n < cLine;lia
  cases a with
  | int i=>
   cases b with
   | int j=>
    cases rx;cases ry
    obtain ⟨t,rfl⟩:=ru
    obtain ⟨t',rfl⟩:=rv
    rw [ordD] at hk
    have:=Option.some.inj hk
    subst this
    cases o with
    | lt=>exact fun prog w E Q h=>(PyProof.Rows.lt_int h : wpAny (model prog w) A (compareOp .Lt (.int i t) (.int j t')) Q E s)
    | le=>exact fun prog w E Q h=>(PyProof.Rows.le_int h : wpAny (model prog w) A (compareOp .LtE (.int i t) (.int j t')) Q E s)
    | gt=>exact fun prog w E Q h=>(PyProof.Rows.gt_int h : wpAny (model prog w) A (compareOp .Gt (.int i t) (.int j t')) Q E s)
    | ge=>exact fun prog w E Q h=>(PyProof.Rows.ge_int h : wpAny (model prog w) A (compareOp .GtE (.int i t) (.int j t')) Q E s)
   | _=>simp [ordD] at hk
  | str i=>
   cases b with
   | str j=>
    cases rx;cases ry
    obtain ⟨t,rfl⟩:=ru
    obtain ⟨t',rfl⟩:=rv
    rw [ordD] at hk
    have:=Option.some.inj hk
    subst this
    cases o with
    | lt=>exact fun prog w E Q h=>(PyProof.Rows.lt_str h : wpAny (model prog w) A (compareOp .Lt (.str i t) (.str j t')) Q E s)
    | le=>exact fun prog w E Q h=>(PySem.P.le_str h : wpAny (model prog w) A (compareOp .LtE (.str i t) (.str j t')) Q E s)
    | gt=>exact fun prog w E Q h=>(PySem.P.gt_str h : wpAny (model prog w) A (compareOp .Gt (.str i t) (.str j t')) Q E s)
    | ge=>exact fun prog w E Q h=>(PySem.P.ge_str h : wpAny (model prog w) A (compareOp .GtE (.str i t) (.str j t')) Q E s)
   | _=>simp [ordD] at hk
  | tup ds=>
   cases b with
   | tup es=>
    obtain ⟨p,xs,rfl,e1,r1⟩:=rx.tupAt
    cases ru
    obtain ⟨its1,vr1,h1⟩:=fst_of I e1
    obtain ⟨q,ys,rfl,e2,r2⟩:=ry.tupAt
    cases rv
    obtain ⟨its2,vr2,h2⟩:=fst_of I e2
    rw [D.eqok] at ha hb
    rw [ordD] at hk
    have hC : ∀ o',o' = o->C2 o' A.in1 s its1.toArray.toList its2.toArray.toList ds es:=by
     rintro o' rfl
     refine ⟨by rw [List.toList_toArray,<- vr1.length,r1.length],by rw [List.toList_toArray,<- vr2.length,r2.length],fun j v w x y a1 a2 a3 a4=>?_⟩
     rw [List.toList_toArray] at a1 a2
     obtain ⟨v1,w1,rr1⟩:=r1.get a3
     obtain ⟨v2,w2,rr2⟩:=r2.get a4
     obtain ⟨u1,k1,l1⟩:=vr1.get w1
     obtain ⟨u2,k2,l2⟩:=vr2.get w2
     rw [a1] at k1;cases k1
     rw [a2] at k2;cases k2
     have g1 : x.eqok n = true:=by
      have:=eqoks_get (j:=j) ha (List.getElem?_eq_some_iff.mp a3).1
      rwa [List.getD_eq_getElem?_getD,a3] at this
     have g2 : y.eqok n = true:=by
      have:=eqoks_get (j:=j) hb (List.getElem?_eq_some_iff.mp a4).1
      rwa [List.getD_eq_getElem?_getD,a4] at this
     exact ⟨(rep_eq I n A.in1 hu1 g1 g2 rr1 rr2 l1 l2).2.2,fun _ k hk=>ih A.in1 hu1 g1 g2 rr1 rr2 l1 l2 hk⟩
    cases o with
    | lt=>exact RoAt.lt_tup h1 h2 (hC .lt rfl) hk hu0
    | le=>exact RoAt.le_tup h1 h2 (hC .le rfl) hk hu0
    | gt=>exact RoAt.gt_tup h1 h2 (hC .gt rfl) hk hu0
    | ge=>exact RoAt.ge_tup h1 h2 (hC .ge rfl) hk hu0
   | _=>simp [ordD] at hk
  | _=>cases b <;> simp [ordD] at hk
end
end Mi
end
section
set_option maxRecDepth 100000
set_option maxHeartbeats 1000000
namespace TS
open PySem PyProof.Rows
end TS
end
section
set_option maxRecDepth 100000
set_option maxHeartbeats 1000000
namespace Mi
open PySem L2 PySem.SeqAt
open PyProof.Rows (Keyed lt' keyLt' oneLt' SortKind SortSt kindOf tuples' oneType' pairsOf wpS wpS_bind wpS_pure wpS_get wpS_lift keyKind')
variable [KFrag]
section
variable {X : Cx} {pins : List (Addr × Obj)} {σ : L2.St} {H : Hp} {s : Shared}
end
end Mi
end
section
set_option maxRecDepth 100000
namespace Mi
open PySem L2 PySem.SeqAt PySem.Spec PyProof.Rows
variable [KFrag]
noncomputable def kR (H : Hp) (d : D) (fr : Bool) (Q : VK) : Prop:=∀ v H',Same H H'->Rep All H' v d->(fr = true->Rep (New H) H' v d)->Q v H'
noncomputable def gE (f : FE) (fr : Bool) : TE:=fun σ H Q=>∃ ρ d,ER H σ ρ/\f ρ = .ok d/\kR H d fr Q
noncomputable def gT (f : FT) : TT:=fun σ H Q=>∃ ρ b,ER H σ ρ/\f ρ = .ok b/\∀ H',Same H H'->Q b H'
noncomputable def gA (f : FA) (fr : Bool) : TA:=fun σ H Q=>∃ ρ ds,ER H σ ρ/\f ρ = .ok ds/\∀ vs H',Same H H'->Reps All H' vs ds->(fr = true->Reps (New H) H' vs ds)->Q vs H'
theorem kR.self {H : Hp} {d : D} {fr : Bool} {Q : VK} {v : V} (q : kR H d fr Q) (r : Rep All H v d) (r2 : fr = true->Rep (New H) H v d) : Q v H:=q v H (Same.refl H) r r2
theorem kR.imp {H H' : Hp} {d : D} {fr fr' : Bool} {Q : VK} (q : kR H d fr Q) (s : Same H H') (h : fr = true->fr' = true) : kR H' d fr' Q:=fun v H2 s2 r n=>q v H2 (s.trans s2) r fun hf=>(n (h hf)).mono (Same.new s)
theorem kR.int {H : Hp} {i : Int} {fr : Bool} {Q : VK} (q : kR H (.int i) fr Q) : Q (.int i) H:=q.self (.int i) fun _=>.int i
theorem kR.bl {H : Hp} {i : Bool} {fr : Bool} {Q : VK} (q : kR H (.bl i) fr Q) : Q (.bl i) H:=q.self (.bl i) fun _=>.bl i
theorem kR.str {H : Hp} {i : Str} {fr : Bool} {Q : VK} (q : kR H (.str i) fr Q) : Q (.str i) H:=q.self (.str i) fun _=>.str i
noncomputable def r2 (f : D->D->Res D) (fr : Bool) : R2:=fun x y H Q=>∃ a b d,Rep All H x a/\Rep All H y b/\f a b = .ok d/\kR H d fr Q
noncomputable def r1 (f : D->Res D) (fr : Bool) : V->Hp->VK->Prop:=fun x H Q=>∃ a d,Rep All H x a/\f a = .ok d/\kR H d fr Q
noncomputable def rs (f : List D->Res D) (fr : Bool) : List V->Hp->VK->Prop:=fun xs H Q=>∃ ds d,Reps All H xs ds/\f ds = .ok d/\kR H d fr Q
theorem bindE {α β : Type} {m : Res α} {f : α->Res β} {b : β} (h : (do let x <- m;f x) = .ok b) : ∃ a,m = .ok a/\f a = .ok b:=Res.bind_ok h
section
variable {X : Cx} {a b c e : Expr} {pos : Pos} {fa fb fc fe : FE} {ra rb rc re : Bool} {ga gb gc : FT}
theorem ER.var {H : Hp} {σ : L2.St} {ρ : List D} {i : Nat} {d : D} (E : ER H σ ρ) (h : bVar i ρ = .ok d) : ∃ v,σ[i]? = some (some v)/\Rep All H v d/\ρ.getD i .undef = d:=by
 have : ρ.getD i .undef = d/\d ≠ .undef:=by
  unfold bVar at h
  split at h
  ·cases h
  ·cases h
   refine ⟨rfl,fun z=>?_⟩
   rename_i q
   exact q z
 obtain ⟨e1,e2⟩:=this
 obtain ⟨v,h1,h2⟩:=E i (by rw [e1];exact e2)
 exact ⟨v,h1,by rw [e1] at h2;exact h2,e1⟩
theorem me_var {i : Nat} {x : Str} (hN : X.N[i]? = some x) (hv : Vis X.env.scope x) (hd : (x == ("__debug__" : Str)) = false:=by decide) (hcd : (x == ("__classdict__" : Str)) = false:=by decide) : PE X (.Name x pos) (gE (bVar i) false):=
 PE.imp (pe_var hN hv hd hcd) fun σ H Q ⟨ρ,d,E,h,q⟩=>by
  obtain ⟨v,h1,h2,_⟩:=E.var h
  exact ⟨v,h1,q.self h2 (fun z=>by cases z)⟩
theorem me_int {i j} : PE X (.Constant (.int i) j pos) (gE (bC (.int i)) true):=PE.imp pe_int fun σ H Q ⟨ρ,d,E,h,q⟩=>by cases h;exact q.int
theorem me_bl {i j} : PE X (.Constant (.bool i) j pos) (gE (bC (.bl i)) true):=PE.imp pe_bl fun σ H Q ⟨ρ,d,E,h,q⟩=>by cases h;exact q.bl
theorem me_str {i j} : PE X (.Constant (.str i) j pos) (gE (bC (.str i)) true):=PE.imp pe_str fun σ H Q ⟨ρ,d,E,h,q⟩=>by cases h;exact q.str
theorem two {f : D->D->Res D} {fr : Bool} {σ : L2.St} {H : Hp} {Q : VK} (h : gE (b2 f fa fb) fr σ H Q) : tOp (r2 f fr) (gE fa ra) (gE fb rb) σ H Q:=by
 obtain ⟨ρ,d,E,h,q⟩:=h
 obtain ⟨x,h1,h⟩:=bindE h
 obtain ⟨y,h2,h⟩:=bindE h
 refine ⟨ρ,x,E,h1,fun v H1 s1 rp1 _=>⟨ρ,y,E.same s1,h2,fun u H2 s2 rp2 _=>⟨x,y,d,rp1.same s2,rp2,h,q.imp (s1.trans s2) id⟩⟩⟩
theorem me_op {o : Operator} {f : D->D->Res D} {fr : Bool} (ho : OpR X (binaryOp o) (r2 f fr)) (ha : PE X a (gE fa ra)) (hb : PE X b (gE fb rb)) : PE X (.BinOp a o b pos) (gE (b2 f fa fb) fr):=PE.imp (pe_op ho ha hb) fun _ _ _=>two
theorem me_cmp {o : CmpOp} {f : D->D->Res D} {fr : Bool} (ho : OpR X (compareOp o) (r2 f fr)) (ha : PE X a (gE fa ra)) (hb : PE X b (gE fb rb)) (hm : behindInMarks o b = false) : PE X (.Compare a [o] [b] pos) (gE (b2 f fa fb) fr):=PE.imp (pe_cmpR ho ha hb hm) fun _ _ _=>two
theorem mt_cmp {o : CmpOp} {f : D->D->Res D} {fr : Bool} (ho : OpR X (compareOp o) (r2 f fr)) (ha : PE X a (gE fa ra)) (hb : PE X b (gE fb rb)) (hm : behindInMarks o b = false) : PT X (.Compare a [o] [b] pos) (gT (bTB (b2 f fa fb))):=
 PT.imp (pt_cmpR ho ha hb hm) fun σ H Q ⟨ρ,k,E,h,q⟩=>by
  obtain ⟨d,h1,h2⟩:=bindE h
  refine two ⟨ρ,d,E,h1,fun v H' s r _=>?_⟩
  cases d <;> simp only [asB] at h2 <;> cases h2
  cases r
  exact ⟨_,rfl,q H' s⟩
theorem me_un {o : UnaryOp} {f : D->Res D} {fr : Bool} (ho : UnR X (unaryOp o) (r1 f fr)) (ha : PE X a (gE fa ra)) : PE X (.UnaryOp o a pos) (gE (b1 f fa) fr):=
 PE.imp (pe_un ho ha) fun σ H Q ⟨ρ,d,E,h,q⟩=>by
  obtain ⟨x,h1,h⟩:=bindE h
  exact ⟨ρ,x,E,h1,fun v H1 s1 rp1 _=>⟨x,d,rp1,h,q.imp s1 id⟩⟩
theorem me_ix {f : D->D->Res D} {fr : Bool} (ho : IxR X (r2 f fr)) (ha : PE X a (gE fa ra)) (hb : PE X b (gE fb rb)) (hs : PlainIx b) : PE X (.Subscript a b pos) (gE (b2 f fa fb) fr):=PE.imp (pe_ix ho ha hb hs) fun _ _ _=>two
theorem truV {H : Hp} {v : V} {d : D} {k : Bool} (r : Rep All H v d) (h : truD d = .ok k) (hd : ∀ kvs,d ≠ .dct kvs) (hs : ∀ xs,d ≠ .scr xs) : TruV X.K v H k:=by
 cases r with
 | non=>cases h;rfl
 | bl b=>cases h;rfl
 | int i=>cases h;rfl
 | str x=>
  simp only [truD] at h
  split at h
  ·rename_i hl
   cases h
   exact ⟨Nat.le_trans (of_decide_eq_true hl) (by rw [sizeLine_eq];decide),rfl⟩
  ·cases h
 | tup e rr=>cases h;exact .inr (.inl ⟨_,.of e,by cases rr <;> rfl⟩)
 | lst e p rr=>cases h;exact .inl ⟨_,.of e,by cases rr <;> rfl⟩
 | frz e rr=>exact absurd rfl (hs _)
 | dK e p rr n=>exact absurd rfl (hd _)
 | dT e p rr n=>exact absurd rfl (hd _)
 | fdK e rr n=>cases h
 | fdT e rr n=>cases h
theorem mt_val (ha : PE X a (gE fa ra)) (he : ∀ whole,isTrue a X.env whole = (do let v <- whole;standAt a.pos;holding [v] (truthy v)):=by intro _;rfl) : PT X a (gT (bTr fa)):=
 PT.imp (pt_truth ha he) fun σ H Q ⟨ρ,k,E,h,q⟩=>by
  obtain ⟨d,h1,h2⟩:=bindE h
  refine ⟨ρ,d,E,h1,fun v H' s r _=>⟨k,truV r ?_ ?_ ?_,q H' s⟩⟩
  ·cases d <;> first | exact h2 | cases h2
  ·rintro kvs rfl;cases h2
  ·rintro kvs rfl;cases h2
theorem mt_not (ha : PT X a (gT ga)) : PT X (.UnaryOp .Not a pos) (gT (bNot ga)):=PT.imp (pt_not ha) fun σ H Q ⟨ρ,k,E,h,q⟩=>by
  obtain ⟨d,h1,h2⟩:=bindE h
  cases h2
  exact ⟨ρ,d,E,h1,fun H' s=>q H' s⟩
theorem me_one {op} (ha : PE X a (gE fa ra)) : PE X (.BoolOp op [a] pos) (gE fa ra):=pe_one ha
theorem asB_ok {d : D} {k : Bool} (h : asB d = .ok k) : d = .bl k:=by cases d <;> simp only [asB] at h <;> cases h;rfl
theorem asI_ok {d : D} {k : Int} (h : asI d = .ok k) : d = .int k:=by cases d <;> simp only [asI] at h <;> cases h;rfl
theorem me_not (ha : PE X a (gE fa ra)) : PE X (.UnaryOp .Not a pos) (gE (bNotV fa) true):=PE.imp (pe_not ha) fun σ H Q ⟨ρ,k,E,h,q⟩=>by
  obtain ⟨d,h1,h⟩:=bindE h
  obtain ⟨z,h2,h⟩:=bindE h
  cases h
  cases asB_ok h2
  exact ⟨ρ,_,E,h1,fun v H' s r _=>by cases r;exact ⟨_,rfl,(q.imp s id).bl⟩⟩
theorem me_and {rest : List Expr} (ha : PE X a (gE fa ra)) (hb : PE X (.BoolOp .And (b :: rest) pos) (gE fb rb)) : PE X (.BoolOp .And (a :: b :: rest) pos) (gE (bAndV fa fb) rb):=PE.imp (pe_and ha hb) fun σ H Q ⟨ρ,k,E,h,q⟩=>by
  obtain ⟨d,h1,h⟩:=bindE h
  obtain ⟨z,h2,h3⟩:=bindE h
  cases asB_ok h2
  refine ⟨ρ,_,E,h1,fun v H' s r _=>?_⟩
  cases r
  refine ⟨_,rfl,?_⟩
  cases z with
  | true=>rw [if_pos rfl];rw [if_pos rfl] at h3;exact ⟨ρ,k,E.same s,h3,q.imp s id⟩
  | false=>rw [if_neg (by simp)];rw [if_neg (by simp)] at h3;cases h3;exact (q.imp s id).bl
theorem ma_nil : PA X [] (gA bNil true):=PA.imp pa_nil fun σ H Q ⟨ρ,ds,E,h,q⟩=>by cases h;exact q [] H (Same.refl H) .nil fun _=>.nil
theorem ma_cons {es : List Expr} {f : FA} {r : Bool} (he : PE X e (gE fe re)) (hes : PA X es (gA f r)) (hs : starEach (e :: es) X.env = (false,eval e X.env) :: starEach es X.env:=by rfl) : PA X (e :: es) (gA (bCons fe f) (re && r)):=PA.imp (pa_cons he hes hs) fun σ H Q ⟨ρ,ds,E,h,q⟩=>by
  obtain ⟨x,h1,h⟩:=bindE h
  obtain ⟨xs,h2,h⟩:=bindE h
  cases h
  refine ⟨ρ,x,E,h1,fun v H1 s1 r1 n1=>⟨ρ,xs,E.same s1,h2,fun vs H2 s2 r2 n2=>q _ _ (s1.trans s2) (.cons (r1.same s2) r2) fun hf=>?_⟩⟩
  obtain ⟨f1,f2⟩:=(Bool.and_eq_true _ _ ▸ hf : re = true/\r = true)
  exact .cons ((n1 f1).same s2) ((n2 f2).mono (Same.new s1))
theorem me_tup {es : List Expr} {f : FA} {r : Bool} {x1} (h : PA X es (gA f r)) : PE X (.Tuple es x1 pos) (gE (bTup f) r):=PE.imp (pe_tup h) fun σ H Q ⟨ρ,d,E,h,q⟩=>by
  obtain ⟨xs,h1,h⟩:=bindE h
  split at h
  ·rename_i hl
   cases h
   refine ⟨ρ,xs,E,h1,fun vs H1 s1 r1 n1=>⟨?_,fun p hp=>?_⟩⟩
   ·rw [r1.length];exact Nat.le_trans (of_decide_eq_true hl) (by rw [sizeLine_eq];decide)
   ·have sp : Same H1 (upd H1 p (.tup vs)):=Same.upd hp
    exact q _ _ (s1.trans sp) (.tup upd_same (r1.same sp)) fun hf=>.tup upd_same ((n1 hf).same sp)
  ·cases h
theorem me_lst {es : List Expr} {f : FA} {r : Bool} (h : PA X es (gA f r)) : PE X (.List es pos) (gE (bLst f) r):=PE.imp (pe_lst h) fun σ H Q ⟨ρ,d,E,h,q⟩=>by
  obtain ⟨xs,h1,h⟩:=bindE h
  split at h
  ·rename_i hl
   cases h
   refine ⟨ρ,xs,E,h1,fun vs H1 s1 r1 n1=>⟨?_,fun p hp=>?_⟩⟩
   ·rw [r1.length];exact Nat.le_trans (of_decide_eq_true hl) (by rw [sizeLine_eq];decide)
   ·have sp : Same H1 (upd H1 p (.lst vs)):=Same.upd hp
    exact q _ _ (s1.trans sp) (.lst upd_same trivial (r1.same sp)) fun hf=>.lst upd_same (s1.free hp) ((n1 hf).same sp)
  ·cases h
theorem me_dnewK : PE X (.Dict [] [] pos) (gE (bC (.dct [])) true):=PE.imp pe_dnewK fun σ H Q ⟨ρ,d,E,h,q⟩=>by
  cases h
  exact fun p hp=>q _ _ (Same.upd hp) (.dK upd_same trivial .nil List.nodup_nil) fun _=>.dK upd_same hp .nil List.nodup_nil
end
end Mi
end
section
set_option maxRecDepth 100000
namespace Mi
open PySem L2 PySem.SeqAt PySem.Spec PyProof.Rows
variable [KFrag]
section
variable {X : Cx} {a b c e : Expr} {pos : Pos} {fa fb fc fe : FE} {ra rb rc re : Bool} {ga gb gc : FT}
theorem lim_line {n : Nat} (h : decide (n<=lim) = true) : n<=sizeLine:=Nat.le_trans (of_decide_eq_true h) (by rw [sizeLine_eq];decide)
theorem lim_lt {n : Nat} (h : decide (n < lim) = true) : n < sizeLine:=Nat.lt_of_lt_of_le (of_decide_eq_true h) (by rw [sizeLine_eq];decide)
theorem Rep.lstRd {P : Addr->Prop} {H : Hp} {v : V} {ds : List D} (r : Rep P H v (.lst ds)) : ∃ a xs,v = .ref a/\Rd H a (.lst xs)/\Reps P H xs ds:=by
 cases r with
 | lst e p rr=>exact ⟨_,_,rfl,.inl e,rr⟩
theorem PW.imp {X : Cx} {e : PySem.Expr} {t t' : TT} (h : PW X e t) (i : ∀ σ H Q,t' σ H Q->t σ H Q) : PW X e t':=fun wh pins s σ H Q I q=>h wh pins s σ H Q I (i σ H Q q)
theorem mw_and1 (ha : PT X a (gT ga)) : PW X (.BoolOp .And [a] pos) (gT ga):=pw_and1 ha
theorem mw_or1 (ha : PT X a (gT ga)) : PW X (.BoolOp .Or [a] pos) (gT ga):=pw_or1 ha
theorem mw_and {rest : List Expr} (ha : PT X a (gT ga)) (hb : PW X (.BoolOp .And (b :: rest) pos) (gT gb)) : PW X (.BoolOp .And (a :: b :: rest) pos) (gT (bAnd ga gb)):=PW.imp (pw_and ha hb) fun σ H Q ⟨ρ,k,E,h,q⟩=>by
 obtain ⟨z,h1,h3⟩:=bindE h
 refine ⟨ρ,z,E,h1,fun H' s=>?_⟩
 cases z with
 | true=>rw [if_pos rfl];rw [if_pos rfl] at h3;exact ⟨ρ,k,E.same s,h3,fun H2 s2=>q H2 (s.trans s2)⟩
 | false=>rw [if_neg (by simp)];rw [if_neg (by simp)] at h3;cases h3;exact q H' s
theorem mw_or {rest : List Expr} (ha : PT X a (gT ga)) (hb : PW X (.BoolOp .Or (b :: rest) pos) (gT gb)) : PW X (.BoolOp .Or (a :: b :: rest) pos) (gT (bOr ga gb)):=PW.imp (pw_or ha hb) fun σ H Q ⟨ρ,k,E,h,q⟩=>by
 obtain ⟨z,h1,h3⟩:=bindE h
 refine ⟨ρ,z,E,h1,fun H' s=>?_⟩
 cases z with
 | true=>rw [if_pos rfl];rw [if_pos rfl] at h3;cases h3;exact q H' s
 | false=>rw [if_neg (by simp)];rw [if_neg (by simp)] at h3;exact ⟨ρ,k,E.same s,h3,fun H2 s2=>q H2 (s.trans s2)⟩
theorem om_add : OpR X (binaryOp .Add) (r2 (binD .add) true):=by
 intro pins s σ H x y v u Q I rx ry h
 obtain ⟨a,b,d,p,q,e,k⟩:=h
 cases p with
 | int i=>
  cases q with
  | int j=>cases e;exact op_add pins s σ H _ _ v u Q I rx ry ⟨i,j,rfl,rfl,k.int⟩
  | _=>simp [binD] at e
 | str i=>
  cases q with
  | str j=>
   simp only [binD] at e
   split at e
   ·rename_i hl;cases e;exact op_add_str pins s σ H _ _ v u Q I rx ry ⟨i,j,rfl,rfl,lim_line hl,k.str⟩
   ·cases e
  | _=>simp [binD] at e
 | non=>simp [binD] at e
 | bl _=>simp [binD] at e
 | tup _ _=>simp [binD] at e
 | dK _ _ _ _=>simp [binD] at e
 | dT _ _ _ _=>simp [binD] at e
 | fdK _ _ _=>simp [binD] at e
 | fdT _ _ _=>simp [binD] at e
 | @lst a1 xs ds e1 p1 r1=>
  have hR : Rep All H (.ref a1) (.lst ds):=.lst e1 p1 r1
  cases b with
  | lst es=>
   simp only [binD] at e
   split at e
   ·rename_i hl
    cases e
    rw [Bool.and_eq_true,Bool.and_eq_true] at hl
    obtain ⟨⟨hl,hp1⟩,hp2⟩:=hl
    obtain ⟨l1,xs1,e1',rd1,rr1⟩:=hR.lstRd
    obtain ⟨l2,xs2,rfl,rd2,rr2⟩:=q.lstRd
    cases e1'
    cases rx
    cases ry
    obtain ⟨z,its,n,vr1,ee1⟩:=rd1.ok I.hok
    obtain ⟨z2,its2,n2,vr2,ee2⟩:=rd2.ok I.hok
    have hz : xs1.length + xs2.length<=sizeLine:=by rw [rr1.length,rr2.length];exact lim_line hl
    have t1:=vr1.length
    have t2:=vr2.length
    refine PySem.P.add_list ee1 ee2 ?_ (by rw [List.size_toArray,List.size_toArray];lia)
    have ea : its.toArray ++ its2.toArray = (its ++ its2).toArray:=by simp
    rw [ea]
    refine ⟨.ref _,_,I.lnew (t':=s.toks) (vr1.append vr2) (by rw [List.length_append];lia),rfl,?_⟩
    have sp : Same H (upd H s.heap.objs.size (.lst (xs1 ++ xs2))):=Same.upd I.fresh
    exact k _ _ sp (.lst upd_same trivial ((rr1.append rr2).same sp)) fun _=>.lst upd_same I.fresh (((rr1.ofPure hp1).append (rr2.ofPure hp2)).same sp)
   ·cases e
  | _=>simp [binD] at e
 | frz _ _=>simp [binD] at e
theorem om_ints {f : Value->Value->Sem Value} {C : Int->Int->Prop} {g : Int->Int->V} {op : D->D->Res D} (h : OpR X f (rI C g))
  (hi : ∀ i j d,op (.int i) (.int j) = .ok d->C i j/\∃ k,d = .int k/\g i j = .int k) (hn : ∀ a b d,op a b = .ok d->(∃ i,a = .int i)/\∃ j,b = .int j) : OpR X f (r2 op true):=by
 intro pins s σ H x y v u Q I rx ry ⟨a,b,d,p,q,e,k⟩
 obtain ⟨⟨i,rfl⟩,⟨j,rfl⟩⟩:=hn a b d e
 cases p
 cases q
 obtain ⟨hc,m,rfl,hm⟩:=hi i j d e
 exact h pins s σ H _ _ v u Q I rx ry ⟨i,j,rfl,rfl,hc,by rw [hm];exact k.int⟩
theorem om_sub : OpR X (binaryOp .Sub) (r2 (binD .sub) true):=by
 intro pins s σ H x y v u Q I rx ry ⟨a,b,d,p,q,e,k⟩
 cases a <;> cases b <;> simp [binD] at e
 cases p;cases q
 subst e
 exact op_sub pins s σ H _ _ v u Q I rx ry ⟨_,_,rfl,rfl,k.int⟩
theorem om_mul : OpR X (binaryOp .Mult) (r2 (binD .mul) true):=by
 refine om_ints op_mul (fun i j d e=>?_) fun a b d e=>?_
 ·simp only [binD] at e
  split at e
  ·rename_i hl
   cases e
   refine ⟨?_,_,rfl,rfl⟩
   simp only [smallB,Bool.or_eq_true,Bool.and_eq_true,decide_eq_true_eq] at hl
   exact hl
  ·cases e
 ·cases a <;> cases b <;> first | exact ⟨⟨_,rfl⟩,_,rfl⟩ | simp [binD] at e
theorem om_fdiv : OpR X (binaryOp .FloorDiv) (r2 (binD .fdiv) true):=by
 refine om_ints op_fdiv (fun i j d e=>?_) fun a b d e=>?_
 ·simp only [binD] at e
  split at e
  ·rename_i hl
   cases e
   refine ⟨?_,_,rfl,rfl⟩
   simp only [Bool.and_eq_true,decide_eq_true_eq] at hl
   exact hl
  ·cases e
 ·cases a <;> cases b <;> first | exact ⟨⟨_,rfl⟩,_,rfl⟩ | simp [binD] at e
theorem om_mod : OpR X (binaryOp .Mod) (r2 (binD .mod) true):=by
 refine om_ints op_mod (fun i j d e=>?_) fun a b d e=>?_
 ·simp only [binD] at e
  split at e
  ·rename_i hl
   cases e
   refine ⟨?_,_,rfl,rfl⟩
   simp only [Bool.and_eq_true,decide_eq_true_eq] at hl
   exact hl
  ·cases e
 ·cases a <;> cases b <;> first | exact ⟨⟨_,rfl⟩,_,rfl⟩ | simp [binD] at e
theorem om_neg : UnR X (unaryOp .USub) (r1 negD true):=by
 intro pins s σ H x v Q I rx ⟨a,d,p,e,k⟩
 cases a <;> simp [negD] at e
 subst e
 cases p
 exact un_neg pins s σ H _ v Q I rx ⟨_,rfl,k.int⟩
theorem om_eq (hu : X.A.units + 20 < cLine) : OpR X (compareOp .Eq) (r2 (cmpD .eq) true):=by
 intro pins s σ H x y v u Q I rx ry ⟨a,b,d,p,q,e,k⟩
 simp only [cmpD] at e
 split at e
 ·rename_i hl
  cases e
  rw [Bool.and_eq_true] at hl
  exact (rep_eq I eqdepth X.A (by have : eqdepth = 12:=rfl;lia) hl.1 hl.2 p q rx ry).1 X.prog X.w X.xe _ ⟨.bl _,H,I,rfl,k.bl⟩
 ·cases e
theorem om_ne (hu : X.A.units + 20 < cLine) : OpR X (compareOp .NotEq) (r2 (cmpD .ne) true):=by
 intro pins s σ H x y v u Q I rx ry ⟨a,b,d,p,q,e,k⟩
 simp only [cmpD] at e
 split at e
 ·rename_i hl
  cases e
  rw [Bool.and_eq_true] at hl
  exact (rep_eq I eqdepth X.A (by have : eqdepth = 12:=rfl;lia) hl.1 hl.2 p q rx ry).2.1 X.prog X.w X.xe _ ⟨.bl _,H,I,rfl,k.bl⟩
 ·cases e
theorem om_ord (o : Ordr) (hu : X.A.units + 20 < cLine) : OpR X (compareOp o.op) (r2 (cmpD (.ord o)) true):=by
 intro pins s σ H x y v u Q I rx ry ⟨a,b,d,p,q,e,k⟩
 simp only [cmpD] at e
 split at e
 ·rename_i hl
  rw [Bool.and_eq_true] at hl
  split at e
  ·rename_i m hm
   cases e
   have:=rep_ord I o eqdepth X.A (by have : eqdepth = 12:=rfl;lia) hl.1 hl.2 p q rx ry hm X.prog X.w X.xe _ (show EP X pins σ Q (.bool m) s from ⟨.bl _,H,I,rfl,k.bl⟩)
   cases o <;> exact this
  ·cases e
 ·cases e
theorem om_lt (hu : X.A.units + 20 < cLine) : OpR X (compareOp .Lt) (r2 (cmpD (.ord .lt)) true):=om_ord .lt hu
theorem om_gt (hu : X.A.units + 20 < cLine) : OpR X (compareOp .Gt) (r2 (cmpD (.ord .gt)) true):=om_ord .gt hu
theorem om_ge (hu : X.A.units + 20 < cLine) : OpR X (compareOp .GtE) (r2 (cmpD (.ord .ge)) true):=om_ord .ge hu
end
end Mi
end
section
set_option maxRecDepth 100000
namespace Mi
open PySem L2 PySem.SeqAt PySem.Spec PyProof.Rows
variable [KFrag]
theorem kD_eq (k q : Key) : eqD (kD k) (kD q) = decide (k = q):=by
 cases k <;> cases q <;> simp [kD,eqD,Bool.beq_eq_decide_eq]
theorem kDs_eq : ∀ (k q : List Key),eqDs (k.map kD) (q.map kD) = decide (k = q)
 | [],[]=>by simp [eqDs]
 | [],_ :: _=>by simp [eqDs]
 | _ :: _,[]=>by simp [eqDs]
 | a :: k,b :: q=>by
  rw [List.map_cons,List.map_cons,eqDs,kD_eq,kDs_eq k q]
  by_cases h : a = b <;> by_cases h' : k = q <;> simp [h,h']
theorem kT_eq (k q : List Key) : eqD (.tup (k.map kD)) (.tup (q.map kD)) = decide (k = q):=by rw [eqD,kDs_eq]
theorem lookK {P : Addr->Prop} {H : Hp} {k : Key} : ∀ {kvs : List (Key × V)} {ds : List (D × D)},RepK P H kvs ds->(∃ v d,valV kvs k = some v/\lookD ds (kD k) = some d/\Rep P H v d)\/(valV kvs k = none/\lookD ds (kD k) = none)
 | _,_,.nil=>.inr ⟨rfl,rfl⟩
 | _,_,.cons (k:=k') r t=>by
  by_cases h : k' = k
  ·subst h
   exact .inl ⟨_,_,valV_pos rfl,by rw [lookD,kD_eq,if_pos (by simp)],r⟩
  ·rw [lookD,kD_eq,if_neg (by simpa using h),valV_neg (p:=(k',_)) h]
   exact lookK t
theorem lookT {P : Addr->Prop} {H : Hp} {k : List Key} : ∀ {kvs : List (List Key × V)} {ds : List (D × D)},RepT P H kvs ds->(∃ v d,valV kvs k = some v/\lookD ds (.tup (k.map kD)) = some d/\Rep P H v d)\/(valV kvs k = none/\lookD ds (.tup (k.map kD)) = none)
 | _,_,.nil=>.inr ⟨rfl,rfl⟩
 | _,_,.cons (k:=k') r t=>by
  by_cases h : k' = k
  ·subst h
   exact .inl ⟨_,_,valV_pos rfl,by rw [lookD,kT_eq,if_pos (by simp)],r⟩
  ·rw [lookD,kT_eq,if_neg (by simpa using h),valV_neg (p:=(k',_)) h]
   exact lookT t
theorem flat_key {H : Hp} {v : V} {d : D} (h : flatKey d = true) (r : Rep All H v d) : ∃ k,v = kV k/\d = kD k:=by
 cases r <;> simp [flatKey] at h
 ·exact ⟨.inl _,rfl,rfl⟩
 ·exact ⟨.inr _,rfl,rfl⟩
theorem flat_keys {H : Hp} : ∀ {vs : List V} {ds : List D},ds.all flatKey = true->Reps All H vs ds->∃ ks : List Key,vs = ks.map kV/\ds = ks.map kD
 | _,_,_,.nil=>⟨[],rfl,rfl⟩
 | _,_,h,.cons r t=>by
  rw [List.all_cons,Bool.and_eq_true] at h
  obtain ⟨k,rfl,rfl⟩:=flat_key h.1 r
  obtain ⟨ks,rfl,rfl⟩:=flat_keys h.2 t
  exact ⟨k :: ks,rfl,rfl⟩
theorem key_cases {H : Hp} {y : V} {k : D} (h : keyOk k = true) (r : Rep All H y k) : (∃ q,y = kV q/\k = kD q)\/∃ (b : Addr) (ks : List Key),y = .ref b/\H b = some (.tup (ks.map kV))/\k = .tup (ks.map kD):=by
 cases k <;> simp [keyOk] at h
 ·exact .inl (flat_key rfl r)
 ·exact .inl (flat_key rfl r)
 ·obtain ⟨a,xs,rfl,e,rr⟩:=r.tupAt
  obtain ⟨ks,rfl,rfl⟩:=flat_keys (List.all_eq_true.mpr h) rr
  exact .inr ⟨a,ks,rfl,e,rfl⟩
theorem isTup_kD (k : Key) : isTup (kD k) = false:=by cases k <;> rfl
section
variable {X : Cx} {pins : List (Addr × Obj)} {σ : L2.St} {H : Hp} {s : Shared} {a : Addr}
theorem upd_back {o o' : HO} (e : H a = some o) : upd (upd H a o') a o = H:=by
 rw [upd_upd]
 funext b
 by_cases h : b = a
 ·subst h;rw [upd_same,e]
 ·rw [upd_ne h]
theorem Inv_emptyT (I : Inv X pins σ H s) (e : H a = some (.dK [])) : Inv X pins σ (upd H a (.dT [])) s:=by
 obtain ⟨z,hd,vs,rel,o,es,ep,h1,h2,h3,h4,h5,h6⟩:=dk_of I.hok e
 cases rel
 refine I.write (t':=s.toks) (x:=a) (e:=a) (h':=s.heap) (by rw [e];trivial) (.inl rfl) (fun _ _ _ q=>q) ⟨o,h1⟩ ?_
 refine ⟨Nat.zero_le _,hd,[],.nil,o,es,ep,h1,h2,h3,?_,List.nodup_nil⟩
 cases h5' : es.toList with
 | nil=>rfl
 | cons _ _=>rw [h5'] at h5;cases h5
theorem Inv_emptyK (I : Inv X pins σ H s) (e : H a = some (.dT [])) : Inv X pins σ (upd H a (.dK [])) s:=by
 obtain ⟨z,hd,vs,rel,o,es,ep,h1,h2,h3,h4,h5,h6⟩:=dt_of I.hok e
 cases rel
 refine I.write (t':=s.toks) (x:=a) (e:=a) (h':=s.heap) (by rw [e];trivial) (.inl rfl) (fun _ _ _ q=>q) ⟨o,h1⟩ ?_
 have h0 : es.toList = []:=h4
 refine ⟨Nat.zero_le _,hd,[],.nil,o,es,ep,h1,h2,h3,?_,?_,List.nodup_nil⟩
 ·intro x hx
  have : x ∈ es.toList:=by simpa using hx
  rw [h0] at this
  cases this
 ·rw [h0];exact .nil
theorem all_kD {P : Addr->Prop} : ∀ {kvs : List (Key × V)} {ds : List (D × D)},RepK P H kvs ds->∀ p ∈ ds,isTup p.1 = false
 | _,_,.nil,_,h=>by cases h
 | _,_,.cons r t,p,h=>by
  rcases List.mem_cons.mp h with rfl | h
  ·exact isTup_kD _
  ·exact all_kD t p h
theorem all_kT {P : Addr->Prop} : ∀ {kvs : List (List Key × V)} {ds : List (D × D)},RepT P H kvs ds->∀ p ∈ ds,isTup p.1 = true
 | _,_,.nil,_,h=>by cases h
 | _,_,.cons r t,p,h=>by
  rcases List.mem_cons.mp h with rfl | h
  ·rfl
  ·exact all_kT t p h
theorem dgetD {x y : V} {ds : List (D × D)} {k : D} (I : Inv X pins σ H s) (rd : Rep All H x (.dct ds)) (rk : Rep All H y k) (hk : fitK ds k = true) :
  ∃ H1 a o,x = .ref a/\Inv X pins σ H1 s/\(∀ s',Inv X pins σ H1 s'->Inv X pins σ H s')/\DGet H1 a y o/\((o = none/\lookD ds k = none)\/∃ v d,o = some v/\lookD ds k = some d/\Rep All H v d):=by
 unfold fitK at hk
 rw [Bool.and_eq_true] at hk
 obtain ⟨h1,h2⟩:=hk
 cases rd with
 | @dK a kvs ds e _ r n=>
  rcases key_cases h1 rk with ⟨q,rfl,rfl⟩ | ⟨b,ks,rfl,eb,rfl⟩
  ·refine ⟨H,a,_,rfl,I,fun _ h=>h,.k e,?_⟩
   rcases lookK (k:=q) r with ⟨v,d,g1,g2,g3⟩ | ⟨g1,g2⟩
   ·exact .inr ⟨v,d,g1,g2,g3⟩
   ·exact .inl ⟨g1,g2⟩
  ·cases r with
   | nil=>
    have e2:=upd_back (o':=.dT []) e
    refine ⟨upd H a (.dT []),a,none,rfl,Inv_emptyT I e,fun s' I'=>?_,.t (k:=ks) upd_same (by rw [upd_ne (ne_of eb e (by intro z;cases z))];exact eb),.inl ⟨rfl,rfl⟩⟩
    have:=Inv_emptyK I' upd_same
    rwa [e2] at this
   | cons r t=>
    rw [List.all_cons,isTup_kD] at h2
    simp [isTup] at h2
 | @dT a kvs ds e _ r n=>
  rcases key_cases h1 rk with ⟨q,rfl,rfl⟩ | ⟨b,ks,rfl,eb,rfl⟩
  ·cases r with
   | nil=>
    have e2:=upd_back (o':=.dK []) e
    refine ⟨upd H a (.dK []),a,none,rfl,Inv_emptyK I e,fun s' I'=>?_,.k (k:=q) upd_same,.inl ⟨rfl,rfl⟩⟩
    have:=Inv_emptyT I' upd_same
    rwa [e2] at this
   | cons r t=>
    rw [List.all_cons,isTup_kD] at h2
    simp [isTup] at h2
  ·refine ⟨H,a,_,rfl,I,fun _ h=>h,.t e eb,?_⟩
   rcases lookT (k:=ks) r with ⟨v,d,g1,g2,g3⟩ | ⟨g1,g2⟩
   ·exact .inr ⟨v,d,g1,g2,g3⟩
   ·exact .inl ⟨g1,g2⟩
theorem look_fit {x : V} {ds : List (D × D)} {k d : D} (rd : Rep All H x (.dct ds)) (hk : keyOk k = true) (h : lookD ds k = some d) : fitK ds k = true:=by
 have one : ∀ {ds : List (D × D)},lookD ds k = some d->∃ p ∈ ds,eqD p.1 k = true:=by
  intro ds
  induction ds with
  | nil=>intro h;cases h
  | cons p ds ih=>
   intro h
   obtain ⟨p1,p2⟩:=p
   rw [lookD] at h
   by_cases hq : eqD p1 k = true
   ·exact ⟨_,List.mem_cons_self ..,hq⟩
   ·rw [if_neg hq] at h
    obtain ⟨p,hp,e⟩:=ih h
    exact ⟨p,List.mem_cons_of_mem _ hp,e⟩
 obtain ⟨p,hp,he⟩:=one h
 unfold fitK
 rw [hk,Bool.true_and,List.all_eq_true]
 intro q hq
 have same : isTup p.1 = isTup k:=by
  obtain ⟨p1,p2⟩:=p
  cases p1 <;> cases k <;> simp [eqD,keyOk,isTup] at he hk ⊢
 cases rd with
 | dK e _ r n=>rw [all_kD r q hq,<- same,all_kD r p hp];rfl
 | dT e _ r n=>rw [all_kT r q hq,<- same,all_kT r p hp];rfl
end
section
variable {X : Cx} {a b c e : Expr} {pos : Pos} {fa fb fc fe : FE} {ra rb rc re : Bool} {ga gb gc : FT}
noncomputable def datQ (H : Hp) (u : Value) : D:=by
 classical
 exact if h : ∃ d,d.eqok eqdepth = true/\∃ v,RelV v u/\Rep All H v d then Classical.choose h else .non
theorem datQ_eq {H : Hp} {u : Value} {v : V} {d : D} (hq : d.eqok eqdepth = true) (rv : RelV v u) (r : Rep All H v d) : datQ H u = d:=by
 unfold datQ
 have h : ∃ d,d.eqok eqdepth = true/\∃ v,RelV v u/\Rep All H v d:=⟨d,hq,v,rv,r⟩
 rw [dif_pos h]
 obtain ⟨h2,v',rv',r'⟩:=Classical.choose_spec h
 have:=rv'.inj rv
 subst this
 exact Rep.inj eqdepth h2 hq r' r
theorem any_dat {H : Hp} {a : D} : ∀ {xs : List V} {ds : List D} {its : List Value},D.eqoks eqdepth ds = true->Reps All H xs ds->Vals xs its->(its.any fun u=>eqD (datQ H u) a) = ds.any fun y=>eqD y a
 | _,_,_,_,.nil,.nil=>rfl
 | _,_,_,h,.cons r t,.cons v vt=>by
  rw [D.eqoks,Bool.and_eq_true] at h
  rw [List.any_cons,List.any_cons,datQ_eq h.1 v r,any_dat h.2 t vt]
theorem mem_dat {pins : List (Addr × Obj)} {σ : L2.St} {H : Hp} {s : Shared} (I : Inv X pins σ H s) (hu : X.A.units + 20 < cLine) {a : D} {x : V} {v : Value} (ha : a.eqok eqdepth = true) (rx : Rep All H x a) (rv : RelV x v)
  {xs : List V} {ds : List D} {its : List Value} (h : D.eqoks eqdepth ds = true) (r : Reps All H xs ds) (vr : Vals xs its) (u : Value) (hm : u ∈ its) : EqAt X.A.in1 s u v (eqD (datQ H u) a):=by
 obtain ⟨j,hj,e⟩:=List.getElem_of_mem hm
 have hj' : j < ds.length:=by rw [<- r.length,vr.length];exact hj
 obtain ⟨w,h1,h2⟩:=r.get (i:=j) (d:=ds[j]) (by simp [hj'])
 obtain ⟨u',h3,h4⟩:=vr.get h1
 rw [List.getElem?_eq_getElem hj,e] at h3
 cases h3
 have hd : ds[j].eqok eqdepth = true:=by
  have:=eqoks_get (j:=j) h hj'
  rwa [List.getD_eq_getElem?_getD,List.getElem?_eq_getElem hj'] at this
 rw [datQ_eq hd h4 h2]
 exact (rep_eq I eqdepth X.A.in1 (by show X.A.units + 1 + 12 < cLine;lia) hd ha h2 rx h4 rv).2.2
theorem om_in (hu : X.A.units + 20 < cLine) : OpR X (compareOp .In) (r2 (cmpD .isin) true):=by
 intro pins s σ H x y v u Q I rx ry ⟨a,b,d,p,q,e,k⟩
 cases b with
 | tup ys=>
  simp only [cmpD] at e
  split at e
  ·rename_i hl
   cases e
   rw [Bool.and_eq_true] at hl
   obtain ⟨l,xs,rfl,ee,rr⟩:=q.tupAt
   cases ry
   obtain ⟨its,vr,pl⟩:=fst_of I ee
   refine in_tupleAt (fun u=>eqD (datQ H u) a) pl (fun w hw=>mem_dat I hu hl.1 p rx hl.2 rr vr w (by simpa using hw)) ⟨.bl _,H,I,rfl,?_⟩
   rw [show its.toArray.any (fun u=>eqD (datQ H u) a) = its.any (fun u=>eqD (datQ H u) a) by simp,any_dat hl.2 rr vr]
   exact k.bl
  ·cases e
 | lst ys=>
  simp only [cmpD] at e
  split at e
  ·rename_i hl
   cases e
   rw [Bool.and_eq_true] at hl
   obtain ⟨l,xs,rfl,ee,rr⟩:=q.lstAt (K:=X.K)
   cases ry
   obtain ⟨its,vr,pl⟩:=lst_of I ee
   refine in_listAt (fun u=>eqD (datQ H u) a) pl (fun w hw=>mem_dat I hu hl.1 p rx hl.2 rr vr w (by simpa using hw)) ⟨.bl _,H,I,rfl,?_⟩
   rw [show its.toArray.any (fun u=>eqD (datQ H u) a) = its.any (fun u=>eqD (datQ H u) a) by simp,any_dat hl.2 rr vr]
   exact k.bl
  ·cases e
 | dct kvs=>
  simp only [cmpD] at e
  split at e
  ·rename_i hl
   cases e
   obtain ⟨H1,a1,o,rfl,I1,bk,g,hc⟩:=dgetD I q p hl
   cases ry
   refine d_in (by lia) I1 g rx fun s' I'=>⟨.bl _,H,bk s' I',rfl,?_⟩
   rcases hc with ⟨rfl,h2⟩ | ⟨w,dd,rfl,h2,_⟩
   ·rw [h2] at k;exact k.bl
   ·rw [h2] at k;exact k.bl
  ·cases e
 | _=>simp [cmpD] at e
theorem om_notin (hu : X.A.units + 20 < cLine) : OpR X (compareOp .NotIn) (r2 (cmpD .notin) true):=by
 intro pins s σ H x y v u Q I rx ry ⟨a,b,d,p,q,e,k⟩
 cases b with
 | tup ys=>
  simp only [cmpD] at e
  split at e
  ·rename_i hl
   cases e
   rw [Bool.and_eq_true] at hl
   obtain ⟨l,xs,rfl,ee,rr⟩:=q.tupAt
   cases ry
   obtain ⟨its,vr,pl⟩:=fst_of I ee
   refine notIn_tupleAt (fun u=>eqD (datQ H u) a) pl (fun w hw=>mem_dat I hu hl.1 p rx hl.2 rr vr w (by simpa using hw)) ⟨.bl _,H,I,rfl,?_⟩
   rw [show its.toArray.any (fun u=>eqD (datQ H u) a) = its.any (fun u=>eqD (datQ H u) a) by simp,any_dat hl.2 rr vr]
   exact k.bl
  ·cases e
 | lst ys=>
  simp only [cmpD] at e
  split at e
  ·rename_i hl
   cases e
   rw [Bool.and_eq_true] at hl
   obtain ⟨l,xs,rfl,ee,rr⟩:=q.lstAt (K:=X.K)
   cases ry
   obtain ⟨its,vr,pl⟩:=lst_of I ee
   refine notIn_listAt (fun u=>eqD (datQ H u) a) pl (fun w hw=>mem_dat I hu hl.1 p rx hl.2 rr vr w (by simpa using hw)) ⟨.bl _,H,I,rfl,?_⟩
   rw [show its.toArray.any (fun u=>eqD (datQ H u) a) = its.any (fun u=>eqD (datQ H u) a) by simp,any_dat hl.2 rr vr]
   exact k.bl
  ·cases e
 | dct kvs=>
  simp only [cmpD] at e
  split at e
  ·rename_i hl
   cases e
   obtain ⟨H1,a1,o,rfl,I1,bk,g,hc⟩:=dgetD I q p hl
   cases ry
   refine d_notIn (by lia) I1 g rx fun s' I'=>⟨.bl _,H,bk s' I',rfl,?_⟩
   rcases hc with ⟨rfl,h2⟩ | ⟨w,dd,rfl,h2,_⟩
   ·rw [h2] at k;exact k.bl
   ·rw [h2] at k;exact k.bl
  ·cases e
 | _=>simp [cmpD] at e
theorem atI_of {α : Type} (xs : List α) (i : Int) : L2.atI xs i = (ixD xs.length i).bind fun j=>xs[j]?:=rfl
theorem Reps.atI {P : Addr->Prop} {H : Hp} {xs : List V} {ds : List D} {i : Int} {d : D} (r : Reps P H xs ds) (h : ((ixD ds.length i).bind fun j=>ds[j]?) = some d) : ∃ v,L2.atI xs i = some v/\Rep P H v d:=by
 rw [atI_of,r.length]
 cases hi : ixD ds.length i with
 | none=>rw [hi] at h;cases h
 | some j=>
  rw [hi] at h
  obtain ⟨v,h1,h2⟩:=r.get h
  exact ⟨v,h1,h2⟩
theorem tail_dict {X : Cx} {value slice : Expr} {pins : List (Addr × Obj)} {s : Shared} {σ : L2.St} {H : Hp} {a : Addr} {y v' : V} {u : Value} {Q : VK} (hu : X.A.units + 20 < cLine) (I : Inv X pins σ H s) (g : DGet H a y (some v')) (ry : RelV y u) {H' : Hp}
  (hs : subscripted slice false (.ref a) u = operate [.ref a,u] (getItem (.ref a) u)) (bk : ∀ s',Inv X pins σ H s'->Inv X pins σ H' s') (q : Q v' H') :
  wpAny (model X.prog X.w) X.A (subscriptTail value slice (.ref a) u) (EP X pins σ Q) X.xe s:=by
 have hT:=dict_typeIs I g
 unfold subscriptTail
 refine wpAny_bind ?_
 rw [getitemInPython_of_ne hT.not_modules]
 refine wpAny_bind (wpAny_specialOf hT PySem.F.slot_dict_getitem.lookup ?_)
 have fin : wpAny (model X.prog X.w) X.A (subscripted slice false (.ref a) u) (fun r s₃=>wpAny (model X.prog X.w) X.A (letTemporaryGo value (.ref a) r >>= fun _=>pure r) (EP X pins σ Q) X.xe s₃) X.xe s:=by
  rw [hs]
  exact wpAny_operating (d_getItem (by lia) I g ry fun w' s3 I3 rw'=>wpAny_bind (wpAny_letTemporaryGo (wpAny_pure ⟨v',H',bk s3 I3,rw',q⟩)))
 first
  | exact wpAny_pure (wpAny_bind fin)
  | exact wpAny_bind (wpAny_pure (wpAny_bind fin))
  | exact wpAny_bind fin
theorem look_tup {k d : D} : ∀ {ds : List (D × D)},keyOk k = true->lookD ds k = some d->∃ p ∈ ds,isTup p.1 = isTup k
 | [],_,h=>by cases h
 | (p1,p2) :: ds,hk,h=>by
  rw [lookD] at h
  by_cases hq : eqD p1 k = true
  ·refine ⟨_,List.mem_cons_self ..,?_⟩
   cases p1 <;> cases k <;> simp [eqD,keyOk,isTup] at hq hk ⊢
  ·rw [if_neg hq] at h
   obtain ⟨p,hp,e⟩:=look_tup hk h
   exact ⟨p,List.mem_cons_of_mem _ hp,e⟩
theorem dgetF {H : Hp} {x y : V} {ds : List (D × D)} {k d : D} (rd : Rep All H x (.fdc ds)) (rk : Rep All H y k) (hk : keyOk k = true) (h : lookD ds k = some d) : ∃ a v,x = .ref a/\DGet H a y (some v)/\Rep All H v d:=by
 obtain ⟨p,hp,et⟩:=look_tup hk h
 cases rd with
 | @fdK a o kvs ds e r n=>
  rcases key_cases hk rk with ⟨q,rfl,rfl⟩ | ⟨b,ks,rfl,eb,rfl⟩
  ·rcases lookK (k:=q) r with ⟨v,d',g1,g2,g3⟩ | ⟨g1,g2⟩
   ·rw [g2] at h
    cases h
    exact ⟨a,v,rfl,.inl ⟨kvs,q,.inr ⟨o,e⟩,rfl,g1.symm⟩,g3⟩
   ·rw [g2] at h;cases h
  ·rw [all_kD r p hp] at et
   cases et
 | @fdT a o kvs ds e r n=>
  rcases key_cases hk rk with ⟨q,rfl,rfl⟩ | ⟨b,ks,rfl,eb,rfl⟩
  ·rw [all_kT r p hp,isTup_kD] at et
   cases et
  ·rcases lookT (k:=ks) r with ⟨v,d',g1,g2,g3⟩ | ⟨g1,g2⟩
   ·rw [g2] at h
    cases h
    exact ⟨a,v,rfl,.inr ⟨kvs,ks,b,.inr ⟨o,e⟩,rfl,eb,g1.symm⟩,g3⟩
   ·rw [g2] at h;cases h
theorem om_ix (hK : KFrag.K = X.K) (hu : X.A.units + 20 < cLine) : IxR X (r2 getD false):=by
 intro value slice pins s σ H x y v u Q I rx ry ⟨a,b,d,p,q,e,k⟩ hs
 cases a with
 | tup ys=>
  cases b <;> simp only [getD] at e <;> (try (cases e;done))
  have e':=Res.ofOpt_ok e
  obtain ⟨l,xs,rfl,ee,rr⟩:=p.tupAt
  cases q
  obtain ⟨w,h1,h2⟩:=rr.atI e'
  exact ix_tup value slice pins s σ H _ _ v u Q I rx ry ⟨l,xs,_,w,rfl,rfl,.of ee,h1,k.self h2 fun z=>by cases z⟩ hs
 | lst ys=>
  cases b <;> simp only [getD] at e <;> (try (cases e;done))
  have e':=Res.ofOpt_ok e
  obtain ⟨l,xs,rfl,ee,rr⟩:=p.lstAt (K:=X.K)
  cases q
  obtain ⟨w,h1,h2⟩:=rr.atI e'
  exact ix_list value slice pins s σ H _ _ v u Q I rx ry ⟨l,xs,_,w,rfl,rfl,ee,h1,k.self h2 fun z=>by cases z⟩ hs
 | scr ys=>
  cases b <;> simp only [getD] at e <;> (try (cases e;done))
  have e':=Res.ofOpt_ok e
  cases p with
  | frz ee rr=>
   cases q
   obtain ⟨w,h1,h2⟩:=rr.atI e'
   exact ix_list value slice pins s σ H _ _ v u Q I rx ry ⟨_,_,_,w,rfl,rfl,ee.sq hK,h1,k.self h2 fun z=>by cases z⟩ hs
 | str z=>
  cases b <;> simp only [getD] at e <;> (try (cases e;done))
  split at e
  ·rename_i hl
   have e':=Res.ofOpt_ok e
   obtain ⟨cc,h1,h2⟩:=Option.map_eq_some_iff.mp e'
   subst h2
   cases p
   cases q
   exact ix_str value slice pins s σ H _ _ v u Q I rx ry ⟨z,_,cc,rfl,rfl,lim_line hl,h1,k.str⟩ hs
  ·cases e
 | dct kvs=>
  have e' : keyOk b = true/\lookD kvs b = some d:=by
   cases b <;> simp only [getD] at e <;> (split at e <;> first | (rename_i hl;exact ⟨hl,Res.ofOpt_ok e⟩) | cases e)
  obtain ⟨H1,a1,o,rfl,I1,bk,g,hc⟩:=dgetD I p q (look_fit p e'.1 e'.2)
  cases rx
  rcases hc with ⟨rfl,h2⟩ | ⟨w,dd,rfl,h2,h3⟩
  ·rw [h2] at e';cases e'.2
  ·rw [h2] at e'
   cases e'.2
   exact tail_dict hu I1 g ry hs bk (k.self h3 fun z=>by cases z)
 | fdc kvs=>
  have e' : keyOk b = true/\lookD kvs b = some d:=by
   cases b <;> simp only [getD] at e <;> (split at e <;> first | (rename_i hl;exact ⟨hl,Res.ofOpt_ok e⟩) | cases e)
  obtain ⟨a1,w,rfl,g,h3⟩:=dgetF p q e'.1 e'.2
  cases rx
  exact tail_dict hu I g ry hs (fun _ h=>h) (k.self h3 fun z=>by cases z)
 | _=>cases b <;> simp [getD] at e
noncomputable def gO (f : List D->Res (Option Int)) : TO:=fun σ H Q=>∃ ρ i,ER H σ ρ/\f ρ = .ok i/\∀ H',Same H H'->Q i H'
theorem PO.imp {X : Cx} {e : Option PySem.Expr} {t t' : TO} (h : PO X e t) (i : ∀ σ H Q,t' σ H Q->t σ H Q) : PO X e t':=fun pins s σ H Q I q=>h pins s σ H Q I (i σ H Q q)
theorem mo_none : PO X none (gO bNone):=PO.imp po_none fun σ H Q ⟨ρ,i,E,h,q⟩=>by cases h;exact q H (Same.refl H)
theorem mo_some (ha : PE X a (gE fa ra)) : PO X (some a) (gO (bSome fa)):=PO.imp (po_some ha) fun σ H Q ⟨ρ,i,E,h,q⟩=>by
 obtain ⟨x,h1,h⟩:=bindE h
 obtain ⟨j,h2,h⟩:=bindE h
 cases h
 have e:=asI_ok h2
 subst e
 exact ⟨ρ,_,E,h1,fun v H' s r _=>by cases r;exact ⟨j,rfl,q H' s⟩⟩
theorem sIx_eq (n d : Nat) (o : Option Int) : HT.sIx n d o = sIxD n d o:=by
 cases o with
 | none=>rfl
 | some v=>
  show (if v < 0 then (v + (n : Int)).toNat else min v.toNat n) = (if v < 0 then (max (v + (n : Int)) 0).toNat else (min v (n : Int)).toNat)
  split <;> lia
theorem Reps.cut {P : Addr->Prop} {H : Hp} {xs : List V} {ds : List D} (r : Reps P H xs ds) (lo hi : Option Int) : Reps P H (cutV xs lo hi) (cutD ds lo hi):=by
 unfold cutV cutD
 rw [r.length]
 simp only [sIx_eq]
 exact (r.drop _).take _
theorem pures_mem {ds : List D} : D.pures ds = true ↔ ∀ d ∈ ds,d.pure = true:=by
 induction ds with
 | nil=>simp [D.pures]
 | cons d ds ih=>rw [D.pures,Bool.and_eq_true,ih];simp
noncomputable def rSl : V->Option Int->Option Int->Hp->VK->Prop:=fun x lo hi H Q=>∃ a d,Rep All H x a/\slcD a lo hi = .ok d/\kR H d true Q
theorem om_sl (hK : KFrag.K = X.K) : SlR X rSl:=by
 intro pins s σ H x v vl vu lo hi sl Q I rx hs pl pu ⟨a,d,p,e,k⟩
 cases a <;> simp only [slcD] at e <;> (try (cases e;done))
 ·split at e
  ·cases e
  ·rename_i hw
   cases e
   obtain ⟨l,xs,rfl,ee,rr⟩:=p.tupAt
   refine sl_tup pins s σ H _ v vl vu lo hi sl Q I rx hs pl pu ⟨l,xs,rfl,.of ee,?_,fun p hp=>?_⟩
   ·simp only [sIx_eq,rr.length]
    simp only [Bool.not_eq_true',Bool.or_eq_true,not_or,Bool.not_eq_false',decide_eq_true_eq] at hw
    exact hw.2
   ·have sp : Same H (upd H p (.tup (cutV xs lo hi))):=Same.upd hp
    have hp2 : D.pures ‹List D› = true:=by
     simp only [Bool.or_eq_true,not_or,Bool.not_eq_true'] at hw
     simpa using hw.1
    exact k _ _ sp (.tup upd_same ((rr.cut lo hi).same sp)) fun z=>.tup upd_same (((rr.ofPure hp2).cut lo hi).same sp)
 ·split at e
  ·rename_i hl
   cases e
   obtain ⟨l,xs,rfl,ee,rr⟩:=p.lstAt (K:=X.K)
   refine sl_list pins s σ H _ v vl vu lo hi sl Q I rx hs pl pu ⟨l,xs,rfl,ee,fun p hp=>?_⟩
   have sp : Same H (upd H p (.lst (cutV xs lo hi))):=Same.upd hp
   exact k _ _ sp (.lst upd_same trivial ((rr.cut lo hi).same sp)) fun z=>.lst upd_same hp (((rr.ofPure hl).cut lo hi).same sp)
  ·cases e
 ·split at e
  ·rename_i hl
   cases e
   cases p with
   | @frz l xs ds ee rr=>
    refine sl_list pins s σ H _ v vl vu lo hi sl Q I rx hs pl pu ⟨l,xs,rfl,ee.sq hK,fun p hp=>?_⟩
    have sp : Same H (upd H p (.lst (cutV xs lo hi))):=Same.upd hp
    exact k _ _ sp (.lst upd_same trivial ((rr.cut lo hi).same sp)) fun z=>.lst upd_same hp (((rr.ofPure hl).cut lo hi).same sp)
  ·cases e
end
end Mi
end
section
set_option maxRecDepth 100000
namespace PySem.Mm
open PySem
noncomputable def wdL : Bool->String
 | false => "min.loop"
 | true => "max.loop"
noncomputable def wdO : Bool->CmpOp
 | false=>.Lt
 | true=>.Gt
section
variable {prog : Program} {w : World} {A : Around} {R : Result->Shared->Prop} {I S : Addr} {fp wr : List Addr} {n : Nat} {P : Nat->Value->Prop} {St : Nat->Heap->Prop} {bt : Nat->Nat->Bool} {Gd : Shared->Prop} {op : CmpOp}
structure Judge (prog : Program) (w : World) (A : Around) (op : CmpOp) (P : Nat->Value->Prop) (bt : Nat->Nat->Bool) (wr : List Addr) (top : Nat) (Gd : Shared->Prop) : Prop where
 keep : ∀ s h' tk,Gd s->(∀ b o,b ∉ wr->b < top->s.heap.get? b = some o->h'.get? b = some o)->Gd { s with heap:=h',toks:=tk }
 says : ∀ i j vi vj s Q E,Gd s->P i vi->P j vj->Q (.bool (bt i j)) s->wpAny (model prog w) A (richCompare op vi vj) Q E s
noncomputable def Best (P : Nat->Value->Prop) (bt : Nat->Nat->Bool) (n : Nat) : Nat->Array Value->Prop
 | 0,a=>a = #[]/\0 < n
 | j + 1,a=>∃ v,a = #[v,v]/\P (argBest bt j) v
theorem touched (J : Judge prog w A op P bt wr S Gd) {s : Shared} {f : Array Value->Array Value} (g : Gd s) : Gd { s with heap:=s.heap.update S (Obj.mapSeq f) }:=
 J.keep s _ s.toks g fun b o _ hb e=>(Heap.get?_update_other _ _ (Nat.ne_of_gt hb)).trans e
theorem turn (m : Bool) (W : Walks prog w A.in1 I fp wr n P St) (hS : S ∉ fp) (J : Judge prog w A.in1 (wdO m) P bt wr S Gd) : ∀ (k j : Nat) (s : Shared) (a : Array Value) (c : Nat),j + k = n->St j s.heap->Gd s->Best P bt n j a->
  s.heap.get? S = some { cls:=.type "list",dict:=none,data:=.seq a c,slots:=#[] }->
  (∀ v h' tk,P (argBest bt (n - 1)) v->(∀ b o,b ∉ wr->b ≠ S->s.heap.get? b = some o->h'.get? b = some o)->R (.ok (.ret v)) { s with heap:=h',toks:=tk })->
  codeAny (model prog w) A (.builtin (wdL m) ⟨[.ref I,.none,.ref S],[]⟩) R s:=by
 have off : S ∉ wr:=fun h=>hS (W.sub _ h)
 have still : ∀ {j : Nat} {h : Heap} {f : Array Value->Array Value},St j h->St j (h.update S (Obj.mapSeq f)):=fun st=>
  W.frame _ _ _ st fun b hb o e=>(Heap.get?_update_other _ _ fun z : S = b=>hS (z ▸ hb)).trans e
 intro k
 induction k with
 | zero=>
  intro j s a c hj st g hb hs fin
  have hjn : j = n:=hj
  subst hjn
  cases j with
  | zero=>exact absurd hb.2 (Nat.lt_irrefl 0)
  | succ j=>
   obtain ⟨v,rfl,hv⟩:=hb
   have last : ∀ (h' : Heap) (tk : Nat),(∀ b o,b ∉ wr->s.heap.get? b = some o->h'.get? b = some o)->R (.ok (.ret v)) { s with heap:=h'.update S (Obj.mapSeq fun _=>#[]),toks:=tk }:=fun h' tk kp=>
    fin v _ tk hv fun b o h1 h2 e=>(Heap.get?_update_other _ _ (Ne.symm h2)).trans (kp b o h1 e)
   cases m
   ·show codeAny (model prog w) A (.builtin "min.loop" ⟨[.ref I,.none,.ref S],[]⟩) R s
    refine codeAny_builtin F.entry_min_loop ?_
    rw [Around.under_plainId F.plain_min_loop]
    refine wpAny_bind (m:=seqItems? (.ref S)) (wpAny_seqItems hs rfl ?_)
    refine wpAny_bind (wpAny_tryCatch (m:=pyNext (.ref I)) (W.done s _ _ st fun h' tk kp=>?_))
    exact wpAny_bind (m:=updateSeq S _) (wpAny_updateSeq (kp S _ off hs) rfl (wpAny_bind (wpAny_letGo (wpAny_pure (last h' tk kp)))))
   ·show codeAny (model prog w) A (.builtin "max.loop" ⟨[.ref I,.none,.ref S],[]⟩) R s
    refine codeAny_builtin F.entry_max_loop ?_
    rw [Around.under_plainId F.plain_max_loop]
    refine wpAny_bind (m:=seqItems? (.ref S)) (wpAny_seqItems hs rfl ?_)
    refine wpAny_bind (wpAny_tryCatch (m:=pyNext (.ref I)) (W.done s _ _ st fun h' tk kp=>?_))
    exact wpAny_bind (m:=updateSeq S _) (wpAny_updateSeq (kp S _ off hs) rfl (wpAny_bind (wpAny_letGo (wpAny_pure (last h' tk kp)))))
 | succ k ih=>
  intro j s a c hj st g hb hs fin
  have hjn : j < n:=by lia
  /- what is left to do behind the list's change,or without one -/
  have on : ∀ (v : Value) (h' : Heap) (tk : Nat),P j v->St (j + 1) h'->(∀ b o,b ∉ wr->s.heap.get? b = some o->h'.get? b = some o)->(∀ (a' : Array Value) (c' : Nat) (h2 : Heap),Best P bt n (j + 1) a'->h2.get? S = some { cls:=.type "list",dict:=none,data:=.seq a' c',slots:=#[] }->(h2 = h'\/∃ f : Array Value->Array Value,h2 = h'.update S (Obj.mapSeq f))->
    codeAny (model prog w) A (.builtin (wdL m) ⟨[.ref I,.none,.ref S],[]⟩) R { s with heap:=h2,toks:=tk }):=by
   intro v h' tk _ st' kp a' c' h2 hb' hs' hh
   have g' : Gd { s with heap:=h',toks:=tk }:=J.keep s h' tk g fun b o h1 _ e=>kp b o h1 e
   rcases hh with rfl | ⟨f,rfl⟩
   ·exact ih (j + 1) _ a' c' (by lia) st' g' hb' hs' fun u h3 t3 hu k3=>fin u h3 t3 hu fun b o h1 h2 e=>k3 b o h1 h2 (kp b o h1 e)
   ·exact ih (j + 1) _ a' c' (by lia) (still st') (touched J g') hb' hs' fun u h3 t3 hu k3=>fin u h3 t3 hu fun b o h1 h2 e=>k3 b o h1 h2 ((Heap.get?_update_other _ _ (Ne.symm h2)).trans (kp b o h1 e))
  have nmn : (toString "min" ++ toString ".loop" : String) = "min.loop":=by decide
  have nmx : (toString "max" ++ toString ".loop" : String) = "max.loop":=by decide
  cases j with
  | zero=>
   obtain ⟨rfl,_⟩:=hb
   cases m
   ·show codeAny (model prog w) A (.builtin "min.loop" ⟨[.ref I,.none,.ref S],[]⟩) R s
    refine codeAny_builtin F.entry_min_loop ?_
    rw [Around.under_plainId F.plain_min_loop]
    refine wpAny_bind (m:=seqItems? (.ref S)) (wpAny_seqItems hs rfl ?_)
    refine wpAny_bind (wpAny_tryCatch (m:=pyNext (.ref I)) (W.item 0 s _ _ hjn st fun v h' tk pv st' kp=>?_))
    have hs':=kp S _ off hs
    refine wpAny_bind (m:=updateSeq S _) (wpAny_updateSeq hs' rfl ?_)
    rw [nmn]
    exact wpAny_pure ⟨plainId_quiet F.plain_min_loop _,on v h' tk pv st' kp #[v,v] _ _ ⟨v,rfl,pv⟩ (Heap.get?_update_self _ hs' rfl) (.inr ⟨_,rfl⟩)⟩
   ·show codeAny (model prog w) A (.builtin "max.loop" ⟨[.ref I,.none,.ref S],[]⟩) R s
    refine codeAny_builtin F.entry_max_loop ?_
    rw [Around.under_plainId F.plain_max_loop]
    refine wpAny_bind (m:=seqItems? (.ref S)) (wpAny_seqItems hs rfl ?_)
    refine wpAny_bind (wpAny_tryCatch (m:=pyNext (.ref I)) (W.item 0 s _ _ hjn st fun v h' tk pv st' kp=>?_))
    have hs':=kp S _ off hs
    refine wpAny_bind (m:=updateSeq S _) (wpAny_updateSeq hs' rfl ?_)
    rw [nmx]
    exact wpAny_pure ⟨plainId_quiet F.plain_max_loop _,on v h' tk pv st' kp #[v,v] _ _ ⟨v,rfl,pv⟩ (Heap.get?_update_self _ hs' rfl) (.inr ⟨_,rfl⟩)⟩
  | succ j=>
   obtain ⟨u,rfl,hu⟩:=hb
   cases m
   ·show codeAny (model prog w) A (.builtin "min.loop" ⟨[.ref I,.none,.ref S],[]⟩) R s
    refine codeAny_builtin F.entry_min_loop ?_
    rw [Around.under_plainId F.plain_min_loop]
    refine wpAny_bind (m:=seqItems? (.ref S)) (wpAny_seqItems hs rfl ?_)
    refine wpAny_bind (wpAny_tryCatch (m:=pyNext (.ref I)) (W.item (j + 1) s _ _ hjn st fun v h' tk pv st' kp=>?_))
    have hs':=kp S _ off hs
    refine wpAny_bind (wpAny_pure ?_)
    refine wpAny_bind (wpAny_tryCatch (wpAny_holding (wpAny_bind (m:=richCompare .Lt v u) (J.says (j + 1) (argBest bt j) v u _ _ _ (J.keep s h' tk g fun b o h1 _ e=>kp b o h1 e) pv hu ?_))))
    refine wpAny_bind (wpAny_holding (wpAny_truthy_bool (wpAny_bind (wpAny_letGo (wpAny_pure ?_)))))
    cases hx : bt (j + 1) (argBest bt j)
    ·rw [if_neg Bool.false_ne_true]
     refine wpAny_bind (wpAny_letGo ?_)
     rw [nmn]
     exact wpAny_pure ⟨plainId_quiet F.plain_min_loop _,on v h' tk pv st' kp _ _ _ ⟨u,rfl,by rw [argBest,hx];exact hu⟩ hs' (.inl rfl)⟩
    ·rw [if_pos rfl]
     refine wpAny_bind (m:=updateSeq S _) (wpAny_updateSeq hs' rfl (wpAny_bind (wpAny_letGo ?_)))
     rw [nmn]
     exact wpAny_pure ⟨plainId_quiet F.plain_min_loop _,on v h' tk pv st' kp #[v,v] _ _ ⟨v,rfl,by rw [argBest,hx];exact pv⟩ (Heap.get?_update_self _ hs' rfl) (.inr ⟨_,rfl⟩)⟩
   ·show codeAny (model prog w) A (.builtin "max.loop" ⟨[.ref I,.none,.ref S],[]⟩) R s
    refine codeAny_builtin F.entry_max_loop ?_
    rw [Around.under_plainId F.plain_max_loop]
    refine wpAny_bind (m:=seqItems? (.ref S)) (wpAny_seqItems hs rfl ?_)
    refine wpAny_bind (wpAny_tryCatch (m:=pyNext (.ref I)) (W.item (j + 1) s _ _ hjn st fun v h' tk pv st' kp=>?_))
    have hs':=kp S _ off hs
    refine wpAny_bind (wpAny_pure ?_)
    refine wpAny_bind (wpAny_tryCatch (wpAny_holding (wpAny_bind (m:=richCompare .Gt v u) (J.says (j + 1) (argBest bt j) v u _ _ _ (J.keep s h' tk g fun b o h1 _ e=>kp b o h1 e) pv hu ?_))))
    refine wpAny_bind (wpAny_holding (wpAny_truthy_bool (wpAny_bind (wpAny_letGo (wpAny_pure ?_)))))
    cases hx : bt (j + 1) (argBest bt j)
    ·rw [if_neg Bool.false_ne_true]
     refine wpAny_bind (wpAny_letGo ?_)
     rw [nmx]
     exact wpAny_pure ⟨plainId_quiet F.plain_max_loop _,on v h' tk pv st' kp _ _ _ ⟨u,rfl,by rw [argBest,hx];exact hu⟩ hs' (.inl rfl)⟩
    ·rw [if_pos rfl]
     refine wpAny_bind (m:=updateSeq S _) (wpAny_updateSeq hs' rfl (wpAny_bind (wpAny_letGo ?_)))
     rw [nmx]
     exact wpAny_pure ⟨plainId_quiet F.plain_max_loop _,on v h' tk pv st' kp #[v,v] _ _ ⟨v,rfl,by rw [argBest,hx];exact pv⟩ (Heap.get?_update_self _ hs' rfl) (.inr ⟨_,rfl⟩)⟩
end
section
variable {prog : Program} {w : World} {A : Around} {E : Value->Shared->Prop} {s : Shared} {Q : Value->Shared->Prop}
noncomputable abbrev Seen (prog : Program) (w : World) (A : Around) (op : CmpOp) (Q : Value->Shared->Prop) (it : Value) (t : Shared) : Prop:=
 ∃ (I : Addr) (fp wr : List Addr) (n : Nat) (P : Nat->Value->Prop) (St : Nat->Heap->Prop) (bt : Nat->Nat->Bool),it = .ref I/\Walks prog w A I fp wr n P St/\St 0 t.heap/\(∀ b ∈ fp,b < t.heap.objs.size)/\0 < n/\
  (∃ Gd : Shared->Prop,Gd t/\(∀ s h' tk,Gd s->(∀ b o,b ∉ wr->b < t.heap.objs.size->s.heap.get? b = some o->h'.get? b = some o)->Gd { s with heap:=h',toks:=tk })/\
   ∀ i j vi vj s Q E,Gd s->P i vi->P j vj->Q (.bool (bt i j)) s->wpAny (model prog w) A (richCompare op vi vj) Q E s)/\
  ∀ v h' tk,P (argBest bt (n - 1)) v->(∀ b o,b ∉ wr->t.heap.get? b = some o->h'.get? b = some o)->Q v { t with heap:=h',toks:=tk }
theorem begun (m : Bool) {it : Value} {t : Shared} {R : Result->Shared->Prop} (hR : ∀ v s,Q v s->R (.ok (.ret v)) s) (h : Seen prog w A.in1 (wdO m) Q it t) :
  codeAny (model prog w) A (.builtin (wdL m) ⟨[it,.none,.ref t.heap.objs.size],[]⟩) R { t with heap:=t.heap.push { cls:=.type "list",data:=.seq #[] } }:=by
 obtain ⟨I,fp,wr,n,P,St,bt,rfl,W,st,hfp,hn,⟨Gd,g,gk,gs⟩,q⟩:=h
 have up : ∀ b o,t.heap.get? b = some o->(t.heap.push { cls:=.type "list",data:=.seq #[] }).get? b = some o:=fun b o e=>Heap.get?_push_of_some _ e
 refine turn m W (fun z=>Nat.lt_irrefl _ (hfp _ z)) ⟨gk,gs⟩ n 0 _ #[] _ (Nat.zero_add n) (W.frame _ _ _ st fun b _ o e=>up b o e) (gk t _ t.toks g fun b o _ _ e=>up b o e) ⟨rfl,hn⟩ (Heap.get?_push_size _ rfl) fun v h' tk hv kp=>?_
 exact hR _ _ (q v h' tk hv fun b o h1 e=>kp b o h1 (Nat.ne_of_lt (Heap.lt_size e)) (up b o e))
theorem cal_max_walk {x : Value} (h : wpAny (model prog w) A.in1 (pyIter x) (Seen prog w A.in1 .Gt Q) E s) : wpAny (model prog w) A (call (.builtin "max") [x]) Q E s:=by
 have nmx : (toString "max" ++ toString ".loop" : String) = "max.loop":=by decide
 refine call_function_tree F.kind_max F.plain_max F.entry_max (F.args_max1 _) ?_
 refine wpAny_bind (m:=Builtin.Builtins.bindParams "max" ["key", "default"] 0 ⟨[],[]⟩) (wpAny_of_eq (a:=[none,none]) rfl ?_)
 refine wpAny_bind (wpAny_pure (wpAny_bind (wpAny_mono h (fun it t ht=>wpAny_bind (wpAny_newObj_type ?_)) fun _ _ e=>e)))
 rw [nmx]
 exact wpAny_pure ⟨plainId_quiet F.plain_max_loop _,begun true (fun _ _ q=>q) ht⟩
theorem cal_max_two {a b : Value} (h : wpAny (model prog w) A.in1 (pyIter (.ref s.heap.objs.size)) (Seen prog w A.in1 .Gt Q) E { s with heap:=s.heap.push { cls:=.type "tuple",data:=.seq #[a,b] } }) : wpAny (model prog w) A (call (.builtin "max") [a,b]) Q E s:=by
 have nmx : (toString "max" ++ toString ".loop" : String) = "max.loop":=by decide
 refine call_function_tree F.kind_max F.plain_max F.entry_max (F.args_max2 _ _) ?_
 refine wpAny_bind (m:=Builtin.Builtins.bindParams "max" ["key", "default"] 0 ⟨[],[]⟩) (wpAny_of_eq (a:=[none,none]) rfl ?_)
 refine wpAny_bind (m:=newTuple [a,b]) (wpAny_newObj_type (wpAny_bind (wpAny_mono h (fun it t ht=>wpAny_bind (wpAny_newObj_type ?_)) fun _ _ e=>e)))
 rw [nmx]
 exact wpAny_pure ⟨plainId_quiet F.plain_max_loop _,begun true (fun _ _ q=>q) ht⟩
end
end PySem.Mm
end
section
set_option maxRecDepth 100000
namespace Mi
open PySem L2 PySem.SeqAt PySem.Spec PyProof.Rows
variable [KFrag]
theorem fold_best (o : Ordr) (x : D) (xs : List D) : ∀ k,k<=xs.length->(xs.take k).foldl (fun m y=>if (ordD o y m).getD false then y else m) x = (x :: xs).getD (argBest (btD o (x :: xs)) k) .non
 | 0,_=>by simp [argBest]
 | k + 1,h=>by
  have ih:=fold_best o x xs k (by lia)
  have hk : k < xs.length:=by lia
  rw [List.take_succ_eq_append_getElem hk,List.foldl_append,ih]
  have e : (x :: xs).getD (k + 1) .non = xs[k]:=by simp [hk]
  have hb : btD o (x :: xs) (k + 1) (argBest (btD o (x :: xs)) k) = (ordD o xs[k] ((x :: xs).getD (argBest (btD o (x :: xs)) k) .non)).getD false:=by unfold btD;rw [e]
  show (if (ordD o xs[k] ((x :: xs).getD (argBest (btD o (x :: xs)) k) .non)).getD false then xs[k] else (x :: xs).getD (argBest (btD o (x :: xs)) k) .non) = (x :: xs).getD (if btD o (x :: xs) (k + 1) (argBest (btD o (x :: xs)) k) then k + 1 else argBest (btD o (x :: xs)) k) .non
  rw [<- hb]
  cases btD o (x :: xs) (k + 1) (argBest (btD o (x :: xs)) k) with
  | true=>rw [if_pos rfl,if_pos rfl,e]
  | false=>rw [if_neg (by simp),if_neg (by simp)]
section
variable {X : Cx} {pins : List (Addr × Obj)} {σ : L2.St} {H : Hp} {s : Shared}
noncomputable def Gds (s : Shared) (s' : Shared) : Prop:=∃ h' tk,s' = { s with heap:=h',toks:=tk }/\∀ b o,s.heap.get? b = some o->h'.get? b = some o
theorem best_cmp (I : Inv X pins σ H s) (hu : X.A.units + 20 < cLine) {o : Ordr} {xs : List V} {ds : List D} {its : List Value} {d : D} (r : Reps All H xs ds) (vr : Vals xs its) (h : bestD o ds = .ok d) (i j : Nat) (vi vj : Value) (s' : Shared) (Q : Value->Shared->Prop) (E : Value->Shared->Prop)
  (g : Gds s s') (hi : its.toArray[i]? = some vi) (hj : its.toArray[j]? = some vj) (q : Q (.bool (btD o ds i j)) s') : wpAny (model X.prog X.w) X.A.in1 (richCompare o.op vi vj) Q E s':=by
 obtain ⟨h',tk,rfl,hk⟩:=g
 have I' : Inv X pins σ H { s with heap:=h',toks:=tk }:=I.kept hk
 have hi' : its[i]? = some vi:=by simpa using hi
 have hj' : its[j]? = some vj:=by simpa using hj
 have at_ : ∀ {i : Nat} {v : Value},its[i]? = some v->∃ d w,ds.getD i .non = d/\d ∈ ds/\RelV w v/\Rep All H w d:=by
  intro i v hv
  have hlt : i < its.length:=(List.getElem?_eq_some_iff.mp hv).1
  have hlt' : i < ds.length:=by rw [<- r.length,vr.length];exact hlt
  obtain ⟨w,h1,h2⟩:=r.get (i:=i) (d:=ds[i]) (by simp [hlt'])
  obtain ⟨u,h3,h4⟩:=vr.get h1
  rw [hv] at h3;cases h3
  exact ⟨ds[i],w,by simp [hlt'],List.getElem_mem _,h4,h2⟩
 obtain ⟨d1,w1,e1,m1,v1,r1⟩:=at_ hi'
 obtain ⟨d2,w2,e2,m2,v2,r2⟩:=at_ hj'
 cases ds with
 | nil=>cases m1
 | cons x xs'=>
  simp only [bestD] at h
  split at h
  ·rename_i hall
   have h1:=List.all_eq_true.mp hall d1 m1
   have h2:=List.all_eq_true.mp hall d2 m2
   rw [Bool.and_eq_true] at h1 h2
   obtain ⟨k,hk⟩:=Option.isSome_iff_exists.mp (List.all_eq_true.mp h1.2 d2 m2)
   have : btD o (x :: xs') i j = k:=by unfold btD;rw [e1,e2,hk];rfl
   rw [this] at q
   exact rep_ord I' o eqdepth X.A.in1 (by show X.A.units + 1 + 12 < cLine;lia) h1.1 h2.1 r1 r2 v1 v2 hk X.prog X.w E Q q
  ·cases h
theorem best_at {o : Ordr} {xs : List V} {ds : List D} {its : List Value} {d : D} (r : Reps All H xs ds) (vr : Vals xs its) (h : bestD o ds = .ok d) {v : Value} (hv : its.toArray[argBest (btD o ds) (its.length - 1)]? = some v) : ∃ w,RelV w v/\Rep All H w d:=by
 have hv' : its[argBest (btD o ds) (its.length - 1)]? = some v:=by simpa using hv
 cases ds with
 | nil=>cases h
 | cons x xs'=>
  simp only [bestD] at h
  split at h
  ·cases h
   have hl : its.length - 1 = xs'.length:=by rw [<- vr.length,r.length];simp
   rw [hl] at hv'
   have fb:=fold_best o x xs' xs'.length (Nat.le_refl _)
   rw [List.take_length] at fb
   have hlt : argBest (btD o (x :: xs')) xs'.length < its.length:=(List.getElem?_eq_some_iff.mp hv').1
   have hlt' : argBest (btD o (x :: xs')) xs'.length < (x :: xs').length:=by rw [<- r.length,vr.length];exact hlt
   obtain ⟨w,h1,h2⟩:=r.get (i:=argBest (btD o (x :: xs')) xs'.length) (d:=(x :: xs')[argBest (btD o (x :: xs')) xs'.length]) (by simp [hlt'])
   obtain ⟨u,h3,h4⟩:=vr.get h1
   rw [hv'] at h3;cases h3
   refine ⟨w,h4,?_⟩
   rw [fb,List.getD_eq_getElem?_getD,List.getElem?_eq_getElem hlt']
   exact h2
  ·cases h
theorem Gds.grow {s' : Shared} {h1 : Heap} {tk1 : Nat} (g : Gds s s') {wq : List Addr} {n : Nat} (hw : ∀ b ∈ wq,s.heap.objs.size<=b) (hn : s.heap.objs.size<=n)
  (kk : ∀ b o,b ∉ wq->b < n->s'.heap.get? b = some o->h1.get? b = some o) : Gds s { s' with heap:=h1,toks:=tk1 }:=by
 obtain ⟨h',tk,rfl,hk⟩:=g
 refine ⟨h1,tk1,rfl,fun b o e=>kk b o (fun hb=>?_) (Nat.lt_of_lt_of_le (Heap.lt_size e) hn) (hk b o e)⟩
 exact absurd (Nat.lt_of_lt_of_le (Heap.lt_size e) (hw b hb)) (Nat.lt_irrefl _)
end
section
variable {X : Cx}
theorem bestD_ne {o : Ordr} {ds : List D} {d : D} (h : bestD o ds = .ok d) : 0 < ds.length:=by
 cases ds with
 | nil=>cases h
 | cons _ _=>simp
theorem om_max_lst (hu : X.A.units + 20 < cLine) (hc : X.calm = true) {pins : List (Addr × Obj)} {σ : L2.St} {H : Hp} {s : Shared} {l : Addr} {xs : List V} {ds : List D} {d : D} {Q : VK} (I : Inv X pins σ H s) (hl : SqL X.K H l xs) (r : Reps All H xs ds) (h : bestD .gt ds = .ok d) (q : kR H d false Q) :
  wpAny (model X.prog X.w) X.A (call (.builtin "max") [.ref l]) (EP X pins σ Q) X.xe s:=by
 obtain ⟨its,vr,pl⟩:=lst_of I hl
 have hlt : l < s.heap.objs.size:=by obtain ⟨_,e,_⟩:=pl;exact Heap.lt_size e
 refine Mm.cal_max_walk (wpAny_pyIter_list pl ?_)
 refine ⟨_,_,_,_,_,_,btD .gt ds,rfl,Walks.list (A:=X.A.in1) (I.ok.hd hc) _ l (Nat.ne_of_lt hlt) its.toArray,⟨⟨_,Heap.get?_push_size _ rfl,rfl,rfl⟩,pl.push _⟩,fun b hb=>?_,by rw [List.size_toArray,<- vr.length,r.length];exact bestD_ne h,⟨Gds s,⟨_,s.toks,rfl,fun b o e=>Heap.get?_push_of_some _ e⟩,fun s' h' tk g kk=>g.grow (wq:=[s.heap.objs.size]) (n:=s.heap.objs.size + 1) (fun b hb=>?_) (Nat.le_succ _) fun b o h1 h2 e=>kk b o h1 (by show b < (s.heap.push _).objs.size;rw [Heap.size_push];exact h2) e,fun i j vi vj s' Q E g h1 h2 q=>best_cmp I hu r vr h i j vi vj s' Q E g h1 h2 q⟩,fun v h' tk hP hk=>?_⟩
 ·show b < (s.heap.push _).objs.size
  rw [Heap.size_push]
  rcases List.mem_cons.mp hb with rfl | hb
  ·exact Nat.lt_succ_self _
  ·rcases List.mem_cons.mp hb with rfl | hb
   ·exact Nat.lt_succ_of_lt hlt
   ·cases hb
 ·rcases List.mem_cons.mp hb with rfl | hb
  ·exact Nat.le_refl _
  ·cases hb
 ·obtain ⟨w,v1,r1⟩:=best_at r vr h (by simpa using hP)
  refine ⟨w,H,I.kept fun b o e=>hk b o (fun hb=>?_) (Heap.get?_push_of_some _ e),v1,q.self r1 fun z=>by cases z⟩
  rcases List.mem_cons.mp hb with rfl | hb
  ·exact absurd (Heap.lt_size e) (Nat.lt_irrefl _)
  ·cases hb
theorem om_max_tup (hu : X.A.units + 20 < cLine) (hc : X.calm = true) {pins : List (Addr × Obj)} {σ : L2.St} {H : Hp} {s : Shared} {l : Addr} {xs : List V} {ds : List D} {d : D} {Q : VK} (I : Inv X pins σ H s) (hl : H l = some (.tup xs)) (r : Reps All H xs ds) (h : bestD .gt ds = .ok d) (q : kR H d false Q) :
  wpAny (model X.prog X.w) X.A (call (.builtin "max") [.ref l]) (EP X pins σ Q) X.xe s:=by
 obtain ⟨its,vr,pl⟩:=fst_of I hl
 have hlt : l < s.heap.objs.size:=by obtain ⟨_,e,_⟩:=pl;exact Heap.lt_size e
 refine Mm.cal_max_walk (wpAny_pyIter_tuple pl ?_)
 refine ⟨_,_,_,_,_,_,btD .gt ds,rfl,Walks.tuple (A:=X.A.in1) (I.ok.hd hc) _ l (Nat.ne_of_lt hlt) its.toArray,⟨⟨_,Heap.get?_push_size _ rfl,rfl,rfl⟩,pl.push _⟩,fun b hb=>?_,by rw [List.size_toArray,<- vr.length,r.length];exact bestD_ne h,⟨Gds s,⟨_,s.toks,rfl,fun b o e=>Heap.get?_push_of_some _ e⟩,fun s' h' tk g kk=>g.grow (wq:=[s.heap.objs.size]) (n:=s.heap.objs.size + 1) (fun b hb=>?_) (Nat.le_succ _) fun b o h1 h2 e=>kk b o h1 (by show b < (s.heap.push _).objs.size;rw [Heap.size_push];exact h2) e,fun i j vi vj s' Q E g h1 h2 q=>best_cmp I hu r vr h i j vi vj s' Q E g h1 h2 q⟩,fun v h' tk hP hk=>?_⟩
 ·show b < (s.heap.push _).objs.size
  rw [Heap.size_push]
  rcases List.mem_cons.mp hb with rfl | hb
  ·exact Nat.lt_succ_self _
  ·rcases List.mem_cons.mp hb with rfl | hb
   ·exact Nat.lt_succ_of_lt hlt
   ·cases hb
 ·rcases List.mem_cons.mp hb with rfl | hb
  ·exact Nat.le_refl _
  ·cases hb
 ·obtain ⟨w,v1,r1⟩:=best_at r vr h (by simpa using hP)
  refine ⟨w,H,I.kept fun b o e=>hk b o (fun hb=>?_) (Heap.get?_push_of_some _ e),v1,q.self r1 fun z=>by cases z⟩
  rcases List.mem_cons.mp hb with rfl | hb
  ·exact absurd (Heap.lt_size e) (Nat.lt_irrefl _)
  ·cases hb
theorem om_max_two (hu : X.A.units + 20 < cLine) (hc : X.calm = true) {pins : List (Addr × Obj)} {σ : L2.St} {H : Hp} {s : Shared} {x y : V} {u w : Value} {a b d : D} {Q : VK} (I : Inv X pins σ H s) (rx : Rep All H x a) (ry : Rep All H y b) (ru : RelV x u) (rw' : RelV y w) (h : bestD .gt [a,b] = .ok d) (q : kR H d false Q) :
  wpAny (model X.prog X.w) X.A (call (.builtin "max") [u,w]) (EP X pins σ Q) X.xe s:=by
 have r : Reps All H [x,y] [a,b]:=.cons rx (.cons ry .nil)
 have vr : Vals [x,y] [u,w]:=.cons ru (.cons rw' .nil)
 have pl : (s.heap.push { cls:=.type "tuple",data:=.seq #[u,w] }).IsTuple s.heap.objs.size [u,w].toArray:=⟨_,Heap.get?_push_size _ rfl,rfl,0,rfl⟩
 have hsz : (s.heap.push { cls:=.type "tuple",data:=.seq #[u,w] }).objs.size = s.heap.objs.size + 1:=Heap.size_push ..
 refine Mm.cal_max_two (wpAny_pyIter_tuple pl ?_)
 refine ⟨_,_,_,_,_,_,btD .gt [a,b],rfl,Walks.tuple (A:=X.A.in1) (I.ok.hd hc) _ s.heap.objs.size (by rw [hsz];exact Nat.ne_of_lt (Nat.lt_succ_self _)) [u,w].toArray,⟨⟨_,Heap.get?_push_size _ rfl,rfl,rfl⟩,pl.push _⟩,fun b hb=>?_,by simp,⟨Gds s,⟨_,s.toks,rfl,fun b o e=>Heap.get?_push_of_some _ (Heap.get?_push_of_some _ e)⟩,fun s' h' tk g kk=>g.grow (wq:=[s.heap.objs.size + 1]) (n:=s.heap.objs.size + 2) (fun b hb=>?_) (by lia) fun b o h1 h2 e=>kk b o (by rw [hsz];exact h1) (by show b < ((s.heap.push _).push _).objs.size;rw [Heap.size_push,hsz];exact h2) e,fun i j vi vj s' Q E g h1 h2 q=>best_cmp I hu r vr h i j vi vj s' Q E g h1 h2 q⟩,fun v h' tk hP hk=>?_⟩
 ·show b < ((s.heap.push _).push _).objs.size
  rw [Heap.size_push,hsz]
  rcases List.mem_cons.mp hb with rfl | hb
  ·rw [hsz];exact Nat.lt_succ_self _
  ·rcases List.mem_cons.mp hb with rfl | hb
   ·exact Nat.lt_succ_of_lt (Nat.lt_succ_self _)
   ·cases hb
 ·rcases List.mem_cons.mp hb with rfl | hb
  ·lia
  ·cases hb
 ·obtain ⟨w,v1,r1⟩:=best_at r vr h (by simpa using hP)
  refine ⟨w,H,I.kept fun b o e=>hk b o (fun hb=>?_) (Heap.get?_push_of_some _ (Heap.get?_push_of_some _ e)),v1,q.self r1 fun z=>by cases z⟩
  rcases List.mem_cons.mp hb with hb | hb
  ·have:=Heap.lt_size e
   rw [hb,hsz] at this
   exact absurd this (Nat.not_lt.mpr (Nat.le_succ _))
  ·cases hb
theorem om_max (hu : X.A.units + 20 < cLine) (hc : X.calm = true) : CallR X (.builtin "max") (rs (minmax .gt) false):=by
 intro pins s σ H xs us Q I vr ⟨ds,d,r,e,k⟩
 unfold minmax at e
 split at e
 ·cases r with
  | cons r t=>
   cases t
   cases vr with
   | cons v vt=>
    cases vt
    obtain ⟨l,ys,rfl,hl,rr⟩:=r.lstAt (K:=X.K)
    cases v
    exact om_max_lst hu hc I hl rr e k
 ·cases r with
  | cons r t=>
   cases t
   cases vr with
   | cons v vt=>
    cases vt
    obtain ⟨l,ys,rfl,hl,rr⟩:=r.tupAt
    cases v
    exact om_max_tup hu hc I hl rr e k
 ·cases r with
  | cons r t=>
   cases t with
   | cons r' t=>
    cases t
    cases vr with
    | cons v vt=>
     cases vt with
     | cons v' vt=>
      cases vt
      exact om_max_two hu hc I r r' v v' e k
 ·cases e
end
end Mi
end
section
namespace PySem.Mm
open PySem PyProof.Rows PySem.W
end PySem.Mm
end
section
set_option maxRecDepth 100000
namespace Mi
open PySem L2 PySem.SeqAt PySem.Spec PyProof.Rows
variable [KFrag]
section
variable {X : Cx} {a b c e : Expr} {es : List Expr} {pos p : Pos} {fa fb fc fe : FE} {ra rb rc re : Bool} {fs : FA} {rr : Bool} {x : Str} {id T : String}
theorem one_of {P : Addr->Prop} {H : Hp} {xs : List V} {us : List Value} {d : D} (r : Reps P H xs [d]) (vr : Vals xs us) : ∃ v u,xs = [v]/\us = [u]/\Rep P H v d/\RelV v u:=by
 cases r with
 | cons r t=>
  cases t
  cases vr with
  | cons v vt=>
   cases vt
   exact ⟨_,_,rfl,rfl,r,v⟩
theorem call_imp {f : List D->Res D} {fr : Bool} {σ : L2.St} {H : Hp} {Q : VK} (h : gE (bCall f fs) fr σ H Q) : tCB (rs f fr) (gA fs rr) σ H Q:=by
 obtain ⟨ρ,d,E,h,q⟩:=h
 obtain ⟨ds,h1,h2⟩:=bindE h
 exact ⟨ρ,ds,E,h1,fun vs H1 s1 r1 _=>⟨ds,d,r1,h2,q.imp s1 id⟩⟩
theorem me_callB {f : List D->Res D} {fr : Bool} (hc : CallR X (.builtin id) (rs f fr)) (hg : Gl X x) (hm : X.mg x = none) (hv : bootBuiltins x = some (.builtin id)) (ha : PA X (e :: es) (gA fs rr)) (hn : x ≠ "__name__":=by decide) (hdb : (x == ("__debug__" : Str)) = false:=by decide)
  (he : starEach (e :: es) X.env = (false,eval e X.env) :: starEach es X.env:=by rfl) (hpl : (backTo pos (starEach es X.env)).any (·.1) = false:=by rfl) : PE X (.Call (.Name x p) (e :: es) [] pos) (gE (bCall f fs) fr):=
 PE.imp (pe_callB hc hg hm hv ha hn hdb he hpl) fun _ _ _=>call_imp
theorem me_callTy {f : List D->Res D} {fr : Bool} (hc : CallR X (.type T) (rs f fr)) (hg : Gl X x) (hm : X.mg x = none) (hv : bootBuiltins x = some (.type T)) (ha : PA X (e :: es) (gA fs rr)) (hn : x ≠ "__name__":=by decide) (hdb : (x == ("__debug__" : Str)) = false:=by decide)
  (he : starEach (e :: es) X.env = (false,eval e X.env) :: starEach es X.env:=by rfl) (hpl : (backTo pos (starEach es X.env)).any (·.1) = false:=by rfl) : PE X (.Call (.Name x p) (e :: es) [] pos) (gE (bCall f fs) fr):=
 PE.imp (pe_callTy hc hg hm hv ha hn hdb he hpl) fun _ _ _=>call_imp
theorem cl_len (hK : KFrag.K = X.K) : CallR X (.builtin "len") (rs lenD true):=by
 intro pins s σ H xs us Q I vr ⟨ds,d,r,e,k⟩
 unfold lenD at e
 split at e
 ·cases e
  obtain ⟨vv,uu,rfl,rfl,r,v⟩:=one_of r vr
  obtain ⟨l,ys,rfl,hl,rr⟩:=r.tupAt
  cases v
  exact call_len_seq pins s σ H [.ref l] [.ref l] Q I (.cons rfl .nil) ⟨l,ys,rfl,.inr (.of hl),by rw [rr.length];exact k.int⟩
 ·cases e
  obtain ⟨vv,uu,rfl,rfl,r,v⟩:=one_of r vr
  obtain ⟨l,ys,rfl,hl,rr⟩:=r.lstAt (K:=X.K)
  cases v
  exact call_len_seq pins s σ H [.ref l] [.ref l] Q I (.cons rfl .nil) ⟨l,ys,rfl,.inl hl,by rw [rr.length];exact k.int⟩
 ·cases e
  obtain ⟨vv,uu,rfl,rfl,r,v⟩:=one_of r vr
  cases r with
  | @frz l xs ds ee rr=>
   cases v
   exact call_len_seq pins s σ H [.ref l] [.ref l] Q I (.cons rfl .nil) ⟨l,xs,rfl,.inl (ee.sq hK),by rw [rr.length];exact k.int⟩
 ·split at e
  ·rename_i hl
   cases e
   obtain ⟨vv,uu,rfl,rfl,r,v⟩:=one_of r vr
   cases r
   exact call_len_str pins s σ H _ _ Q I (.cons v .nil) ⟨_,rfl,lim_line hl,k.int⟩
  ·cases e
 ·cases e
theorem cl_tuple : CallR X (.type "tuple") (rs tupleD false):=by
 intro pins s σ H xs us Q I vr ⟨ds,d,r,e,k⟩
 unfold tupleD at e
 split at e
 ·cases e
  obtain ⟨vv,uu,rfl,rfl,r,v⟩:=one_of r vr
  obtain ⟨l,ys,rfl,hl',rr⟩:=r.tupAt
  cases v
  exact call_tuple_of pins s σ H [.ref l] [.ref l] Q I (.cons rfl .nil) ⟨l,ys,rfl,.inr ⟨.of hl',k.self (.tup hl' rr) fun z=>by cases z⟩⟩
 ·cases e
  obtain ⟨vv,uu,rfl,rfl,r,v⟩:=one_of r vr
  obtain ⟨l,ys,rfl,hl',rr⟩:=r.lstAt (K:=X.K)
  cases v
  refine call_tuple_of pins s σ H [.ref l] [.ref l] Q I (.cons rfl .nil) ⟨l,ys,rfl,.inl ⟨hl',fun p hp=>?_⟩⟩
  have sp : Same H (upd H p (.tup ys)):=Same.upd hp
  exact k _ _ sp (.tup upd_same (rr.same sp)) fun z=>by cases z
 ·cases e
theorem isi {pins : List (Addr × Obj)} {s : Shared} {σ : L2.St} {H : Hp} {v : V} {u : Value} {d : D} {t : Ty} {k : Bool} (I : Inv X pins σ H s) (r : Rep All H v d) (ru : RelV v u) (h : isTy t d = .ok k) {Q : Value->Shared->Prop}
  (q : ∀ tk,Q (.bool k) { s with toks:=tk }) : wpAny (model X.prog X.w) X.A (call (.builtin "isinstance") [u,.type t.nm]) Q X.xe s:=by
 have q0 : Q (.bool k) s:=q s.toks
 cases r with
 | non=>cases ru;cases t <;> simp only [isTy] at h <;> cases h <;> first | exact IsiPair.NoneType_int (q _) | exact IsiPair.NoneType_str (q _) | exact IsiPair.NoneType_bool (q _) | exact IsiPair.NoneType_list (q _) | exact IsiPair.NoneType_tuple (q _) | exact IsiPair.NoneType_dict (q _)
 | bl b=>cases ru;cases t <;> simp only [isTy] at h <;> cases h <;> first | exact IsiPair.bool_int q0 | exact IsiPair.bool_str (q _) | exact IsiPair.bool_bool q0 | exact IsiPair.bool_list (q _) | exact IsiPair.bool_tuple (q _) | exact IsiPair.bool_dict (q _)
 | int b=>obtain ⟨tt,rfl⟩:=ru;cases t <;> simp only [isTy] at h <;> cases h <;> first | exact IsiPair.int_int q0 | exact IsiPair.int_str (q _) | exact IsiPair.int_bool (q _) | exact IsiPair.int_list (q _) | exact IsiPair.int_tuple (q _) | exact IsiPair.int_dict (q _)
 | str b=>obtain ⟨tt,rfl⟩:=ru;cases t <;> simp only [isTy] at h <;> cases h <;> first | exact IsiPair.str_int (q _) | exact IsiPair.str_str q0 | exact IsiPair.str_bool (q _) | exact IsiPair.str_list (q _) | exact IsiPair.str_tuple (q _) | exact IsiPair.str_dict (q _)
 | tup e rr=>
  cases ru
  obtain ⟨its,vr,o,ho,hc,_⟩:=fst_of I e
  cases t <;> simp only [isTy] at h <;> cases h <;> first | exact IsiPair.tuple_int ho hc (q _) | exact IsiPair.tuple_str ho hc (q _) | exact IsiPair.tuple_bool ho hc (q _) | exact IsiPair.tuple_list ho hc (q _) | exact IsiPair.tuple_tuple ho hc q0 | exact IsiPair.tuple_dict ho hc (q _)
 | lst e p rr=>
  cases ru
  obtain ⟨its,vr,o,ho,hc,_⟩:=lst_of I (.of e)
  cases t <;> simp only [isTy] at h <;> cases h <;> first | exact IsiPair.list_int ho hc (q _) | exact IsiPair.list_str ho hc (q _) | exact IsiPair.list_bool ho hc (q _) | exact IsiPair.list_list ho hc q0 | exact IsiPair.list_tuple ho hc (q _) | exact IsiPair.list_dict ho hc (q _)
 | frz e rr=>cases t <;> cases h
 | fdK e rr n=>cases t <;> cases h
 | fdT e rr n=>cases t <;> cases h
 | dK e p rr n=>
  cases ru
  obtain ⟨_,_,_,_,o,_,_,ho,hx,_⟩:=dk_of I.hok e
  have hc:=hx.1
  cases t <;> simp only [isTy] at h <;> cases h <;> first | exact IsiPair.dict_int ho hc (q _) | exact IsiPair.dict_str ho hc (q _) | exact IsiPair.dict_bool ho hc (q _) | exact IsiPair.dict_list ho hc (q _) | exact IsiPair.dict_tuple ho hc (q _) | exact IsiPair.dict_dict ho hc q0
 | dT e p rr n=>
  cases ru
  obtain ⟨_,_,_,_,o,_,_,ho,hx,_⟩:=dt_of I.hok e
  have hc:=hx.1
  cases t <;> simp only [isTy] at h <;> cases h <;> first | exact IsiPair.dict_int ho hc (q _) | exact IsiPair.dict_str ho hc (q _) | exact IsiPair.dict_bool ho hc (q _) | exact IsiPair.dict_list ho hc (q _) | exact IsiPair.dict_tuple ho hc (q _) | exact IsiPair.dict_dict ho hc q0
noncomputable def rIsi (t : Ty) : List V->Hp->VK->Prop:=fun xs H Q=>∃ v d k,xs = [v,.ty t.nm]/\Rep All H v d/\isTy t d = .ok k/\Q (.bl k) H
theorem cl_isi (t : Ty) : CallR X (.builtin "isinstance") (rIsi t):=by
 intro pins s σ H xs us Q I vr ⟨v,d,k,e,r,h,q⟩
 subst e
 cases vr with
 | cons rv vt=>
  cases vt with
  | cons rt vt=>
   cases vt
   cases rt
   exact isi I r rv h fun tk=>⟨.bl k,H,I.tok tk,rfl,q⟩
theorem me_isi (t : Ty) {y : Str} {p2 : Pos} (ha : PE X a (gE fa ra)) (hg : Gl X "isinstance") (hm : X.mg "isinstance" = none) (hv : bootBuiltins "isinstance" = some (.builtin "isinstance")) (gy : Gl X y) (my : X.mg y = none) (vy : bootBuiltins y = some (.type t.nm))
  (hy : y ≠ "__name__":=by decide) (hyd : (y == ("__debug__" : Str)) = false:=by decide)
  (he : starEach [a,.Name y p2] X.env = (false,eval a X.env) :: starEach [.Name y p2] X.env:=by rfl) (he2 : starEach [.Name y p2] X.env = (false,eval (.Name y p2) X.env) :: starEach [] X.env:=by rfl)
  (hpl : (backTo pos (starEach [.Name y p2] X.env)).any (·.1) = false:=by rfl) : PE X (.Call (.Name "isinstance" p) [a,.Name y p2] [] pos) (gE (b1 (isTyD t) fa) true):=
 PE.imp (pe_callB (cl_isi t) hg hm hv (pa_cons ha (pa_cons (pe_bltn gy my vy (v:=.ty t.nm) rfl hy hyd) pa_nil he2) he) (by decide) (by decide) he hpl) fun σ H Q ⟨ρ,d,E,h,q⟩=>by
  obtain ⟨x,h1,h⟩:=bindE h
  obtain ⟨k,h2,h⟩:=bindE h
  cases h
  exact ⟨ρ,x,E,h1,fun v H1 s1 r1 _=>⟨v,x,k,rfl,r1,h2,(q.imp s1 id).bl⟩⟩
noncomputable def spD (f : List D->Res D) (n : Nat) : Sp:=fun vs H Q _=>∃ ds d,ds.length = n/\Reps All H vs ds/\f ds = .ok d/\kR H d true Q
theorem spD_len {f : List D->Res D} {n : Nat} {vs : List V} {H : Hp} {Q : VK} {E : XK} (h : spD f n vs H Q E) : vs.length = n:=by
 obtain ⟨ds,d,h1,r,_⟩:=h
 rw [r.length,h1]
theorem me_call {k : Nat} {fad : Addr} {fd : FuncData} {ps : List Str} {f : List D->Res D} {n : Nat} (F : FnOk X.prog X.w X.K X.mg X.base CX0 k fad fd ps (spD f n)) (hr : Room k X.A) (hg : Gl X x) (hm : X.mg x = some (.ref fad)) (hk : PySem.W.keepIn X.K (.ref fad) = true) (hb : Binds X.K fd ps [])
  (ha : PA X (e :: es) (gA fs rr)) (hdb : (x == ("__debug__" : Str)) = false:=by decide) (he : starEach (e :: es) X.env = (false,eval e X.env) :: starEach es X.env:=by rfl) (hpl : (backTo pos (starEach es X.env)).any (·.1) = false:=by rfl) :
  PE X (.Call (.Name x p) (e :: es) [] pos) (gE (bCall (argN n f) fs) true):=
 PE.imp (pe_call F hr hg hm hk hb .nil pass0 ha hdb he hpl) fun σ H Q ⟨ρ,d,E,h,q⟩=>by
  obtain ⟨ds,h1,h⟩:=bindE h
  unfold argN at h
  split at h
  ·rename_i hl
   exact ⟨ρ,ds,E,h1,fun vs H1 s1 r1 _=>⟨ds,d,of_decide_eq_true hl,by rw [List.append_nil];exact r1,h,q.imp s1 id⟩⟩
  ·cases h
end
end Mi
end
section
set_option maxRecDepth 100000
namespace Mi
open PySem L2 PySem.SeqAt PySem.Spec PyProof.Rows
noncomputable def charsD (x : Str) : List D:=x.cps.toList.map fun c=>D.str ⟨#[c]⟩
noncomputable def enumL (xs : List D) : List D:=xs.zipIdx.map fun p=>.tup [.int p.2,p.1]
variable [KFrag]
noncomputable def Itss (x : Str) : It:=⟨fun i _=>i < x.cps.size,fun i H v H'=>H' = H/\∃ c,x.cps[i]? = some c/\v = .str ⟨#[c]⟩,fun i _=>x.cps.size<=i⟩
noncomputable def Ite (K : PySem.W.Frag) (a : Addr) : It:=
 ⟨fun i H=>∃ xs x,SqL K H a xs/\xs[i]? = some x,fun i H v H'=>∃ t x,(∀ xs,SqL K H a xs->xs[i]? = some x)/\v = .ref t/\H t = none/\H' = upd H t (.tup [.int i,x]),fun i H=>∃ xs,SqL K H a xs/\xs.length<=i⟩
theorem enumL_at {xs : List D} {i : Nat} : (enumL xs)[i]? = (xs[i]?).map fun d=>.tup [.int i,d]:=by
 unfold enumL
 rw [List.getElem?_map,List.getElem?_zipIdx,Nat.zero_add]
 cases xs[i]? <;> rfl
theorem enumL_len (xs : List D) : (enumL xs).length = xs.length:=by simp [enumL]
inductive ItQ (K : PySem.W.Frag) (P : Addr->Prop) (J : It) (H : Hp) (items : List D) : Prop
 | lst (a : Addr) (e : J = Itl K a) (r : Rep P H (.ref a) (.lst items))
 | tup (a : Addr) (e : J = Itt K a) (r : Rep P H (.ref a) (.tup items))
 | rng (lo : Int) (n : Nat) (e : J = Itr lo n) (r : items = (List.range n).map fun (k : Nat)=>D.int (lo + k))
 | chs (x : Str) (e : J = Itss x) (r : items = charsD x)
 | enm (a : Addr) (ds : List D) (e : J = Ite K a) (r : Rep P H (.ref a) (.lst ds)) (h : items = enumL ds)
theorem ItQ.keep {K : PySem.W.Frag} {P P' : Addr->Prop} {J : It} {H H' : Hp} {items : List D} (h : ItQ K P J H items) (k : Keep P H H') (m : ∀ a,P a->P' a) : ItQ K P' J H' items:=by
 cases h with
 | lst a e r=>exact .lst a e (r.keep k m)
 | tup a e r=>exact .tup a e (r.keep k m)
 | rng lo n e r=>exact .rng lo n e r
 | chs x e r=>exact .chs x e r
 | enm a ds e r h=>exact .enm a ds e (r.keep k m) h
theorem ItQ.stop {K : PySem.W.Frag} {P : Addr->Prop} {J : It} {H : Hp} {items : List D} {i : Nat} (h : ItQ K P J H items) (hi : items.length<=i) : J.stop i H:=by
 cases h with
 | lst a e r=>
  subst e
  obtain ⟨a',xs,e,hq,rr⟩:=r.lstAt (K:=K)
  cases e
  exact ⟨xs,hq,by rw [rr.length];exact hi⟩
 | tup a e r=>
  subst e
  obtain ⟨a',xs,e,hq,rr⟩:=r.tupAt
  cases e
  exact ⟨xs,.of hq,by rw [rr.length];exact hi⟩
 | rng lo n e r=>
  subst e r
  show n<=i
  simpa using hi
 | chs x e r=>
  subst e r
  show x.cps.size<=i
  simpa [charsD] using hi
 | enm a ds e r h=>
  subst e h
  obtain ⟨a',xs,e,hq,rr⟩:=r.lstAt (K:=K)
  cases e
  exact ⟨xs,hq,by rw [rr.length,<- enumL_len];exact hi⟩
theorem ItQ.go {K : PySem.W.Frag} {P : Addr->Prop} {J : It} {H : Hp} {items : List D} {i : Nat} {d : D} (h : ItQ K P J H items) (hi : items[i]? = some d) : J.go i H/\∀ x H',J.yld i H x H'->Same H H'/\Rep P H' x d:=by
 cases h with
 | lst a e r=>
  subst e
  obtain ⟨a',xs,e,hq,rr⟩:=r.lstAt (K:=K)
  cases e
  obtain ⟨v,h1,h2⟩:=rr.get hi
  refine ⟨⟨xs,v,hq,h1⟩,fun x H' ⟨e,hy⟩=>?_⟩
  subst e
  refine ⟨Same.refl _,?_⟩
  have:=hy xs hq
  rw [h1] at this
  cases this
  exact h2
 | tup a e r=>
  subst e
  obtain ⟨a',xs,e,hq,rr⟩:=r.tupAt
  cases e
  obtain ⟨v,h1,h2⟩:=rr.get hi
  refine ⟨⟨xs,v,.of hq,h1⟩,fun x H' ⟨e,hy⟩=>?_⟩
  subst e
  refine ⟨Same.refl _,?_⟩
  have:=hy xs (.of hq)
  rw [h1] at this
  cases this
  exact h2
 | rng lo n e r=>
  subst e r
  have hlt : i < n:=by
   have:=(List.getElem?_eq_some_iff.mp hi).1
   simpa using this
  refine ⟨hlt,fun x H' ⟨e,hy⟩=>?_⟩
  subst e
  have e2 : D.int (lo + (i : Int)) = d:=by simpa [hlt] using hi
  rw [hy,<- e2]
  exact ⟨Same.refl _,.int _⟩
 | chs z e r=>
  subst e r
  have hlt : i < z.cps.size:=by
   have:=(List.getElem?_eq_some_iff.mp hi).1
   simpa [charsD] using this
  refine ⟨hlt,fun x H' ⟨e,c,hc,hv⟩=>?_⟩
  subst e hv
  refine ⟨Same.refl _,?_⟩
  have e2 : D.str ⟨#[c]⟩ = d:=by
   unfold charsD at hi
   rw [List.getElem?_map,Array.getElem?_toList,hc] at hi
   simpa using hi
  rw [<- e2]
  exact .str _
 | enm a ds e r h=>
  subst e h
  obtain ⟨a',xs,e,hq,rr⟩:=r.lstAt (K:=K)
  cases e
  rw [enumL_at] at hi
  cases hd : ds[i]? with
  | none=>rw [hd] at hi;cases hi
  | some y=>
   rw [hd] at hi
   cases hi
   obtain ⟨v,h1,h2⟩:=rr.get hd
   refine ⟨⟨xs,v,hq,h1⟩,fun x H' ⟨t,u,hy,e1,e2,e3⟩=>?_⟩
   subst e1 e3
   have:=hy xs hq
   rw [h1] at this
   cases this
   have sp : Same H (upd H t (.tup [.int i,v])):=Same.upd e2
   exact ⟨sp,.tup upd_same (.cons (.int _) (.cons (h2.same sp) .nil))⟩
noncomputable def gI (K : PySem.W.Frag) (f : FI) : TI:=fun σ H R=>∃ ρ items k,ER H σ ρ/\f ρ = .ok (items,k)/\∀ J H1,Same H H1->ItQ K All J H1 items->(k = true->ItQ K (New H) J H1 items)->R J H1
section
variable {X : Cx} {tg l a b : Expr} {fl fa : FE} {rl ra rr : Bool} {fs : FA} {p pos : Pos}
theorem iter_rep {pins : List (Addr × Obj)} {s1 : Shared} {σ : L2.St} {H1 : Hp} {R : It->Hp->Prop} {v : V} {u : Value} {d : D} {items : List D} (I1 : Inv X pins σ H1 s1) (r : Rep All H1 v d) (ru : RelV v u) (hi : itemsD d = .ok items)
  (q : ∀ J,(∀ P : Addr->Prop,Rep P H1 v d->ItQ X.K P J H1 items)->R J H1) : wpAny (model X.prog X.w) X.A (pyIter u) (PIE X pins σ tg R) X.xe s1:=by
 cases d <;> simp only [itemsD] at hi <;> cases hi
 ·obtain ⟨a,xs,rfl,e,rr⟩:=r.tupAt
  cases ru
  obtain ⟨its,rv,p,hz⟩:=I1.tuple (.of e)
  refine wpAny_pyIter_tuple (show s1.heap.IsTuple a its.toArray from p) ?_
  refine ⟨s1.heap.objs.size,[s1.heap.objs.size],_,_,H1,rfl,I1.kept (t':=s1.toks) fun b o e=>Heap.get?_push_of_some _ e,turn_tuple a _,⟨_,Heap.get?_push_size _ rfl,rfl,rfl⟩,fun b hb=>?_,q _ fun P r=>.tup a rfl r⟩
  have e : b = s1.heap.objs.size:=by simpa using hb
  subst e
  exact I1.fpOk (Nat.le_refl _) (I1.hok.fresh (Nat.le_refl _))
 ·obtain ⟨a,xs,rfl,e,rr⟩:=r.lstAt (K:=X.K)
  cases ru
  obtain ⟨its,rv,p,hz⟩:=I1.list e
  refine wpAny_pyIter_list p.isList ?_
  refine ⟨s1.heap.objs.size,[s1.heap.objs.size],_,_,H1,rfl,I1.kept (t':=s1.toks) fun b o e=>Heap.get?_push_of_some _ e,turn_list a _,⟨_,Heap.get?_push_size _ rfl,rfl,rfl⟩,fun b hb=>?_,q _ fun P r=>.lst a rfl r⟩
  have e : b = s1.heap.objs.size:=by simpa using hb
  subst e
  exact I1.fpOk (Nat.le_refl _) (I1.hok.fresh (Nat.le_refl _))
theorem bound62_ok {i : Int} (h : bound62 i = true) : -(2 ^ 62)<=i/\i < 2 ^ 62:=by
 simp only [bound62,Bool.and_eq_true,decide_eq_true_eq] at h
 exact h
theorem PI.imp {w w' : TI} (h : PI X tg l w) (i : ∀ σ H R,w' σ H R->w σ H R) : PI X tg l w':=fun pins s σ H R I q=>h pins s σ H R I (i σ H R q)
theorem mi_rng1 (hg : Gl X "range") (hm : X.mg "range" = none) (ha : PA X [a] (gA fs rr)) (hs : starEach [a] X.env = [(false,eval a X.env)]:=by rfl) : PI X tg (.Call (.Name "range" p) [a] [] pos) (gI X.K (bThen fs rng1D)):=
 PI.imp (pi_range1 hg hm ha hs) fun σ H R ⟨ρ,items,k,E,h,q⟩=>by
  obtain ⟨xs,h1,h⟩:=bindE h
  unfold rng1D at h
  split at h
  ·split at h
   ·rename_i hb
    cases h
    obtain ⟨b1,b2⟩:=bound62_ok hb
    refine ⟨ρ,_,E,h1,fun vs H1 s1 r1 _=>?_⟩
    cases r1 with
    | cons r t=>
     cases t
     cases r
     exact ⟨_,rfl,b1,b2,q _ H1 s1 (.rng 0 _ rfl rfl) fun _=>.rng 0 _ rfl rfl⟩
   ·cases h
  ·cases h
theorem mi_rng2 (hg : Gl X "range") (hm : X.mg "range" = none) (ha : PA X [a,b] (gA fs rr)) (hs : starEach [a,b] X.env = [(false,eval a X.env),(false,eval b X.env)]:=by rfl) (hs2 : starEach [b] X.env = [(false,eval b X.env)]:=by rfl) : PI X tg (.Call (.Name "range" p) [a,b] [] pos) (gI X.K (bThen fs rng2D)):=
 PI.imp (pi_range2 hg hm ha hs hs2) fun σ H R ⟨ρ,items,k,E,h,q⟩=>by
  obtain ⟨xs,h1,h⟩:=bindE h
  unfold rng2D at h
  split at h
  ·split at h
   ·rename_i hb
    cases h
    rw [Bool.and_eq_true] at hb
    obtain ⟨b1,b2⟩:=bound62_ok hb.1
    obtain ⟨b3,b4⟩:=bound62_ok hb.2
    refine ⟨ρ,_,E,h1,fun vs H1 s1 r1 _=>?_⟩
    cases r1 with
    | cons r t=>
     cases t with
     | cons r' t=>
      cases t
      cases r
      cases r'
      exact ⟨_,_,rfl,⟨b1,b2,b3,b4⟩,q _ H1 s1 (.rng _ _ rfl rfl) fun _=>.rng _ _ rfl rfl⟩
   ·cases h
  ·cases h
end
theorem padD_get (n : Nat) (ρ bs : List D) (i : Nat) (h : i < n) : (padD n ρ ++ bs).getD i .undef = ρ.getD i .undef:=by
 rw [List.getD_eq_getElem?_getD,List.getElem?_append_left (by simp [padD];exact h)]
 simp [padD,h]
theorem padD_len (n : Nat) (ρ : List D) : (padD n ρ).length = n:=by simp [padD]
noncomputable def TgC (g : TG) (t : D->Res (List D)) (n m : Nat) : Prop:=∀ (v : V) (d : D) (bs : List D) (σ : L2.St) (H : Hp) (Q : L2.St->Hp->Prop),σ.length = n->Rep All H v d->t d = .ok bs->
 (∀ σ2,Ext (σ ++ List.replicate m none) σ2->(∀ j b,bs[j]? = some b->∃ w,σ2[n + j]? = some (some w)/\Rep All H w b)->Q σ2 H)->g v (σ ++ List.replicate m none) H Q
theorem ER.ext {H : Hp} {σ σ2 : L2.St} {ρ bs : List D} {n m : Nat} (E : ER H σ ρ) (hn : σ.length = n) (x : Ext (σ ++ List.replicate m none) σ2) (hb : ∀ j b,bs[j]? = some b->∃ w,σ2[n + j]? = some (some w)/\Rep All H w b) : ER H σ2 (padD n ρ ++ bs):=by
 intro i hi
 by_cases h : i < n
 ·rw [padD_get n ρ bs i h] at hi ⊢
  obtain ⟨v,h1,h2⟩:=E i hi
  exact ⟨v,x.2 i v (by rw [List.getElem?_append_left (by rw [hn];exact h)];exact h1),h2⟩
 ·have e : (padD n ρ ++ bs).getD i .undef = bs.getD (i - n) .undef:=by
   rw [List.getD_eq_getElem?_getD,List.getElem?_append_right (by rw [padD_len];lia),padD_len,<- List.getD_eq_getElem?_getD]
  rw [e] at hi ⊢
  cases hq : bs[i - n]? with
  | none=>rw [List.getD_eq_getElem?_getD,hq] at hi;exact absurd rfl hi
  | some b=>
   obtain ⟨w,h1,h2⟩:=hb (i - n) b hq
   rw [List.getD_eq_getElem?_getD,hq]
   exact ⟨w,by rw [<- h1];congr 1;lia,h2⟩
theorem comp_core {K : PySem.W.Frag} {it : FI} {t : D->Res (List D)} {c : FT} {f : FE} {k : Bool} {n m : Nat} {g : TG} {tc : TT} (tg : TgC g t n m) (hc : ∀ σ H Q,gT c σ H Q->tc σ H Q) {σ : L2.St} {H : Hp} {Q : VK} (hn : σ.length = n) (h : gE (bComp n it t c f k) true σ H Q) :
  tComp (gI K it) g tc (gE f k) m σ H Q:=by
 obtain ⟨ρ,d,E,h,q⟩:=h
 obtain ⟨⟨items,kk⟩,h1,h⟩:=bindE h
 split at h
 ·rename_i hlim
  obtain ⟨ys,h2,h⟩:=bindE h
  cases h
  refine ⟨ρ,items,kk,E,h1,fun J H1 s1 hJ _ p hp=>?_⟩
  have hp0 : H p = none:=s1.free hp
  refine ⟨fun i n' vs H'=>n' = items.length - i/\i<=items.length/\H' p = some (.lst vs)/\Same H1 H'/\∃ acc,acc.length<=i/\Reps (fun a=>H a = none/\a ≠ p) H' vs acc/\cfold (cstep n t c f k ρ) acc (items.drop i) = .ok ys,⟨items.length,?_⟩,?_⟩
  ·exact ⟨rfl,Nat.zero_le _,upd_same,Same.upd hp,[],Nat.zero_le _,.nil,h2⟩
  ·rintro i n' vs H' ⟨rfl,hi,hH,sm,acc,hal,racc,hf⟩
   refine ⟨hH,?_⟩
   have hJ' : ItQ K All J H' items:=hJ.keep (.same sm) fun _ z=>z
   rcases Nat.lt_or_ge i items.length with hlt | hge
   ·refine .inr ?_
    have e : items[i]? = some items[i]:=List.getElem?_eq_getElem hlt
    obtain ⟨g1,g2⟩:=hJ'.go e
    have hl1 : items.length<=lim:=of_decide_eq_true hlim
    refine ⟨g1,?_,fun x H2 hy=>?_⟩
    ·rw [racc.length]
     exact Nat.lt_of_le_of_lt hal (Nat.lt_of_lt_of_le hlt (Nat.le_trans hl1 (by rw [sizeLine_eq];decide)))
    ·obtain ⟨sH,rx⟩:=g2 x H2 hy
     have hH:=sH p _ hH
     have sm:=sm.trans sH
     have racc:=racc.same sH
     rw [List.drop_eq_getElem_cons hlt] at hf
     obtain ⟨acc2,hs,hf⟩:=bindE hf
     obtain ⟨bs,hb,hs⟩:=bindE hs
     obtain ⟨ok,hok,hs⟩:=bindE hs
     refine tg x items[i] bs σ H2 _ hn rx hb fun σ2 hx hbs=>⟨hx,hc _ _ _ ?_⟩
     have E2 : ER H2 σ2 (padD n ρ ++ bs):=(E.same (s1.trans sm)).ext hn hx hbs
     refine ⟨_,ok,E2,hok,fun H4 s4=>?_⟩
     cases ok with
     | true=>
      rw [if_pos rfl]
      rw [if_pos rfl] at hs
      obtain ⟨y,hy2,hs⟩:=bindE hs
      split at hs
      ·rename_i hk
       cases hs
       refine ⟨_,y,E2.same s4,hy2,fun w H5 s5 r5 n5=>⟨s5 p _ (s4 p _ hH),items.length - (i + 1),by lia,rfl,hlt,upd_same,?_,acc ++ [y],?_,?_,hf⟩⟩
       ·exact fun b o e=>by
         rw [upd_ne (ne_of_none e hp)]
         exact s5 b o (s4 b o (sm b o e))
       ·rw [List.length_append,List.length_singleton];lia
       ·have hp5 : H5 p = some (.lst vs):=s5 p _ (s4 p _ hH)
        have ry : Rep (fun a=>H a = none/\a ≠ p) H5 w y:=by
         rw [Bool.or_eq_true] at hk
         rcases hk with hk | hk
         ·exact (n5 hk).mono fun a ha=>⟨((s1.trans sm).trans s4).free ha,fun z=>by subst z;have h0:=s4 _ _ hH;rw [show H4 _ = none from ha] at h0;cases h0⟩
         ·exact r5.ofPure hk
        have all : Reps (fun a=>H a = none/\a ≠ p) H5 (vs ++ [w]) (acc ++ [y]):=(racc.same (s4.trans s5)).snoc ry
        refine all.keep (fun b o e hb=>?_) fun _ z=>z
        rw [upd_ne]
        ·exact e
        ·rcases hb with hb | hb
         ·exact hb.2
         ·intro z;subst z;rw [hp5] at e;cases e;cases hb
      ·cases hs
     | false=>
      rw [if_neg (by simp)]
      rw [if_neg (by simp)] at hs
      cases hs
      exact ⟨items.length - (i + 1),by lia,rfl,hlt,s4 p _ hH,sm.trans s4,acc,by lia,racc.same s4,hf⟩
   ·refine .inl ⟨hJ'.stop hge,?_⟩
    rw [List.drop_eq_nil_of_le hge] at hf
    cases hf
    exact q _ _ (s1.trans sm) (.lst hH trivial racc.all) fun _=>.lst hH hp0 (racc.mono fun a z=>z.1)
 ·cases h
noncomputable def gIx : List Nat->TGs
 | []=>gNil
 | i :: is=>gCons (gName i) (gIx is)
noncomputable def setsV : List Nat->List V->L2.St->L2.St
 | i :: is,v :: vs,σ=>setsV is vs (σ.set i (some v))
 | _,_,σ=>σ
theorem gIx_run {H : Hp} {Q : L2.St->Hp->Prop} : ∀ (is : List Nat) (vs : List V) (σ : L2.St),vs.length = is.length->Q (setsV is vs σ) H->gIx is vs σ H Q
 | [],[],σ,_,q=>⟨rfl,q⟩
 | i :: is,v :: vs,σ,h,q=>⟨v,vs,rfl,gIx_run is vs (σ.set i (some v)) (by simpa using h) q⟩
 | [],_ :: _,_,h,_=>by simp at h
 | _ :: _,[],_,h,_=>by simp at h
theorem tgc_one (n : Nat) : TgC (gName n) oneT n 1:=by
 intro v d bs σ H Q hn r h q
 cases h
 have hl : (σ ++ List.replicate 1 (none : Option V)).length = n + 1:=by simp [hn]
 refine q _ ⟨by simp,fun i w hi=>?_⟩ fun j b hj=>?_
 ·have : i ≠ n:=fun z=>by
   subst z
   rw [List.getElem?_append_right (by lia)] at hi
   simp [hn] at hi
  rw [List.getElem?_set_ne (Ne.symm this)]
  exact hi
 ·have e : j = 0:=by
   have:=(List.getElem?_eq_some_iff.mp hj).1
   simp at this
   exact this
  subst e
  have e : d = b:=by simpa using hj
  subst e
  exact ⟨v,by rw [Nat.add_zero,List.getElem?_set_self (by lia)],r⟩
section
variable {X : Cx} {scope : Scope} {ownN : List Str} {elt iter tg c : Expr} {it : FI} {t : D->Res (List D)} {g : TG} {gc : FT} {fe : FE} {re : Bool} {pos : Pos}
theorem me_comp {n m : Nat} (S : CompSc X.N X.env.scope scope ownN) (hn : X.N.length = n) (hm : ownN.length = m) (hcalm : X.calm = true) (hi : PI X tg iter (gI X.K it)) (ht : TgC g t n m) (hg : ∀ X',CompCx X X' scope ownN->PG X' tg g) (he : ∀ X',CompCx X X' scope ownN->PE X' elt (gE fe re))
  (hs : ∀ x,foldedSetIterable iter X.env x = pure x) : PE X (.ListComp elt [⟨tg,iter,[],0⟩] scope pos) (gE (bComp n it t bTrue fe re) true):=by
 intro pins s σ H Q I h
 subst hm
 exact pe_comp0 S hcalm hi hg he hs pins s σ H Q I (comp_core ht (fun σ H Q h=>by obtain ⟨ρ,b,E,h,q⟩:=h;cases h;exact q H (Same.refl H)) (I.len.trans hn) h)
end
end Mi
end
section
set_option maxRecDepth 100000
namespace Mi
open PySem L2 PySem.SeqAt PySem.Spec PyProof.Rows
variable [KFrag]
mutual
theorem Rep.dom {P : Addr->Prop} {H : Hp} : ∀ {v : V} {d : D},Rep P H v d->Rep (fun a=>P a/\H a ≠ none) H v d
 | _,_,.non=>.non
 | _,_,.bl b=>.bl b
 | _,_,.int i=>.int i
 | _,_,.str x=>.str x
 | _,_,.tup e r=>.tup e (Reps.dom r)
 | _,_,.lst e p r=>.lst e ⟨p,by rw [e];simp⟩ (Reps.dom r)
 | _,_,.frz e r=>.frz e (Reps.dom r)
 | _,_,.dK e p r n=>.dK e ⟨p,by rw [e];simp⟩ (RepK.dom r) n
 | _,_,.dT e p r n=>.dT e ⟨p,by rw [e];simp⟩ (RepT.dom r) n
 | _,_,.fdK e r n=>.fdK e (RepK.dom r) n
 | _,_,.fdT e r n=>.fdT e (RepT.dom r) n
theorem Reps.dom {P : Addr->Prop} {H : Hp} : ∀ {v : List V} {d : List D},Reps P H v d->Reps (fun a=>P a/\H a ≠ none) H v d
 | _,_,.nil=>.nil
 | _,_,.cons r t=>.cons (Rep.dom r) (Reps.dom t)
theorem RepK.dom {P : Addr->Prop} {H : Hp} : ∀ {v : List (Key × V)} {d : List (D × D)},RepK P H v d->RepK (fun a=>P a/\H a ≠ none) H v d
 | _,_,.nil=>.nil
 | _,_,.cons r t=>.cons (Rep.dom r) (RepK.dom t)
theorem RepT.dom {P : Addr->Prop} {H : Hp} : ∀ {v : List (List Key × V)} {d : List (D × D)},RepT P H v d->RepT (fun a=>P a/\H a ≠ none) H v d
 | _,_,.nil=>.nil
 | _,_,.cons r t=>.cons (Rep.dom r) (RepT.dom t)
end
theorem RepK.ofPure {P P' : Addr->Prop} {H : Hp} : ∀ {v : List (Key × V)} {d : List (D × D)},RepK P H v d->D.pures (d.map (·.2)) = true->RepK P' H v d
 | _,_,.nil,_=>.nil
 | _,_,.cons r t,h=>by
  rw [List.map_cons,D.pures,Bool.and_eq_true] at h
  exact .cons (r.ofPure h.1) (t.ofPure h.2)
theorem RepT.ofPure {P P' : Addr->Prop} {H : Hp} : ∀ {v : List (List Key × V)} {d : List (D × D)},RepT P H v d->D.pures (d.map (·.2)) = true->RepT P' H v d
 | _,_,.nil,_=>.nil
 | _,_,.cons r t,h=>by
  rw [List.map_cons,D.pures,Bool.and_eq_true] at h
  exact .cons (r.ofPure h.1) (t.ofPure h.2)
theorem Rep.ownP {P P' : Addr->Prop} {H : Hp} {a : Addr} {d : D} (r : Rep P H (.ref a) d) (h : inner d = true) (hp : P' a) : Rep P' H (.ref a) d:=by
 cases r with
 | tup e r=>cases h
 | lst e p r=>exact .lst e hp (r.ofPure h)
 | frz e r=>cases h
 | dK e p r n=>exact .dK e hp (r.ofPure h) n
 | dT e p r n=>exact .dT e hp (r.ofPure h) n
 | fdK e r n=>cases h
 | fdT e r n=>cases h
noncomputable def Own (own : Nat->Bool) (σ : L2.St) (a : Addr) : Prop:=∃ i,own i = true/\σ[i]? = some (some (.ref a))
structure ES (own : Nat->Bool) (H : Hp) (σ : L2.St) (ρ : List D) : Prop where
 len : σ.length = ρ.length
 at_ : ∀ i,ρ.getD i .undef ≠ .undef->∃ v,σ[i]? = some (some v)/\(own i = false->Rep (fun a=>¬ Own own σ a) H v (ρ.getD i .undef))
 own : ∀ i v,own i = true->σ[i]? = some (some v)->∃ a o,v = .ref a/\Rep All H v (ρ.getD i .undef)/\inner (ρ.getD i .undef) = true/\H a = some o/\mutO o = true/\∀ j,own j = true->σ[j]? = some (some (.ref a))->j = i
variable {own : Nat->Bool}
theorem ES.er {H : Hp} {σ : L2.St} {ρ : List D} (e : ES own H σ ρ) : ER H σ ρ:=fun i hi=>by
 obtain ⟨v,h1,h2⟩:=e.at_ i hi
 cases ho : own i with
 | false=>exact ⟨v,h1,(h2 ho).all⟩
 | true=>
  obtain ⟨a,o,_,h3,_⟩:=e.own i v ho h1
  exact ⟨v,h1,h3⟩
theorem ES.live {H : Hp} {σ : L2.St} {ρ : List D} (e : ES own H σ ρ) {a : Addr} (h : Own own σ a) : ∃ o,H a = some o/\mutO o = true:=by
 obtain ⟨i,hi,hs⟩:=h
 obtain ⟨b,o,eb,_,_,h3,h4,_⟩:=e.own i _ hi hs
 cases eb
 exact ⟨o,h3,h4⟩
theorem ES.same {H H' : Hp} {σ : L2.St} {ρ : List D} (e : ES own H σ ρ) (s : Same H H') : ES own H' σ ρ:=by
 refine ⟨e.len,fun i hi=>?_,fun i v hi hv=>?_⟩
 ·obtain ⟨v,h1,h2⟩:=e.at_ i hi
  exact ⟨v,h1,fun ho=>(h2 ho).same s⟩
 ·obtain ⟨a,o,h1,h2,h3,h4,h5,h6⟩:=e.own i v hi hv
  exact ⟨a,o,h1,h2.same s,h3,s _ _ h4,h5,h6⟩
noncomputable def KU (own : Nat->Bool) (σ : L2.St) (H : Hp) (σ' : L2.St) (H' : Hp) : Prop:=∀ a o,H a = some o->¬ Own own σ a->H' a = some o/\¬ Own own σ' a
theorem KU.trans {σ σ1 σ2 : L2.St} {H H1 H2 : Hp} (a : KU own σ H σ1 H1) (b : KU own σ1 H1 σ2 H2) : KU own σ H σ2 H2:=fun c o e n=>let ⟨e1,n1⟩:=a c o e n;b c o e1 n1
theorem KU.same {σ : L2.St} {H H' : Hp} (s : Same H H') : KU own σ H σ H':=fun a o e n=>⟨s a o e,n⟩
theorem KU.keep {σ σ' : L2.St} {H H' : Hp} {ρ : List D} (k : KU own σ H σ' H') (e : ES own H σ ρ) : Keep (fun a=>¬ Own own σ a) H H':=fun a o h hp=>by
 by_cases ho : Own own σ a
 ·obtain ⟨o',h1,h2⟩:=e.live ho
  rw [h] at h1
  cases h1
  rcases hp with hp | hp
  ·exact absurd ho hp
  ·rw [h2] at hp;cases hp
 ·exact (k a o h ho).1
theorem KU.rep {σ σ' : L2.St} {H H' : Hp} {ρ : List D} (k : KU own σ H σ' H') (e : ES own H σ ρ) {v : V} {d : D} (r : Rep (fun a=>¬ Own own σ a) H v d) : Rep (fun a=>¬ Own own σ' a) H' v d:=by
 refine r.dom.keep (P':=fun a=>¬ Own own σ' a) (fun a o h hp=>?_) fun a ⟨h1,h2⟩=>?_
 ·refine k.keep e a o h (hp.imp (fun z=>z.1) id)
 ·cases q : H a with
  | none=>exact absurd q h2
  | some o=>exact (k a o q h1).2
noncomputable def kS (own : Nat->Bool) (D : Ends) (σ : L2.St) (H : Hp) : Fl->Prop
 | .nx ρ=>∀ σ' H',KU own σ H σ' H'->ES own H' σ' ρ->D.nx σ' H'
 | .bk ρ=>∀ σ' H',KU own σ H σ' H'->ES own H' σ' ρ->D.bk σ' H'
 | .ct ρ=>∀ σ' H',KU own σ H σ' H'->ES own H' σ' ρ->D.ct σ' H'
 | .rt d=>∀ v H',(∀ a o,H a = some o->¬ Own own σ a->H' a = some o)->Rep (fun a=>Own own σ a\/H a = none) H' v d->D.rt v H'
theorem kS.step {D : Ends} {σ σ' : L2.St} {H H' : Hp} {fl : Fl} (k : KU own σ H σ' H') (h : kS own D σ H fl) : kS own D σ' H' fl:=by
 cases fl with
 | nx ρ=>exact fun σ2 H2 k2 e=>h σ2 H2 (k.trans k2) e
 | bk ρ=>exact fun σ2 H2 k2 e=>h σ2 H2 (k.trans k2) e
 | ct ρ=>exact fun σ2 H2 k2 e=>h σ2 H2 (k.trans k2) e
 | rt d=>
  refine fun v H2 hk r=>h v H2 (fun a o e n=>let ⟨e1,n1⟩:=k a o e n;hk a o e1 n1) (r.mono fun a ha=>?_)
  cases q : H a with
  | none=>exact .inr rfl
  | some o=>
   refine .inl (Classical.byContradiction fun n=>?_)
   obtain ⟨e1,n1⟩:=k a o q n
   rcases ha with ha | ha
   ·exact n1 ha
   ·rw [e1] at ha;cases ha
noncomputable def tS (own : Nat->Bool) (f : FS) : TS:=fun D σ H=>∃ ρ fl,ES own H σ ρ/\f ρ = .ok fl/\kS own D σ H fl
theorem PS.imp {X : Cx} {st : Stmt} {t t' : TS} (h : PS X st t) (i : ∀ D σ H,t' D σ H->t D σ H) : PS X st t':=fun pins s σ H D I q=>h pins s σ H D I (i D σ H q)
theorem PSs.imp {X : Cx} {st : List Stmt} {t t' : TS} (h : PSs X st t) (i : ∀ D σ H,t' D σ H->t D σ H) : PSs X st t':=fun pins s σ H D I q=>h pins s σ H D I (i D σ H q)
section
variable {X : Cx} {a b c e : Expr} {pos pos' : Pos} {fa fb fc fe : FE} {ra rb rc re : Bool} {ga gb gc : FT} {f g : FS} {st : Stmt} {rest s1 s2 : List Stmt}
theorem mss_nil : PSs X [] (tS own sNil):=PSs.imp pss_nil fun D σ H ⟨ρ,fl,E,h,q⟩=>by
 cases h
 exact q σ H (fun a o e n=>⟨e,n⟩) E
theorem seq_imp {D : Ends} {σ : L2.St} {H : Hp} (h : tS own (sSeq f g) D σ H) : tSeq (tS own f) (tS own g) D σ H:=by
 obtain ⟨ρ,fl,E,h,q⟩:=h
 obtain ⟨r,h1,h2⟩:=bindE h
 refine ⟨ρ,r,E,h1,?_⟩
 cases r with
 | nx ρ'=>exact fun σ' H' k E'=>⟨ρ',fl,E',h2,q.step k⟩
 | bk ρ'=>cases h2;exact q
 | ct ρ'=>cases h2;exact q
 | rt d=>cases h2;exact q
theorem mss_cons (h1 : PS X st (tS own f)) (h2 : PSs X rest (tS own g)) : PSs X (st :: rest) (tS own (sSeq f g)):=PSs.imp (pss_cons h1 h2) fun _ _ _=>seq_imp
theorem mss_one (h1 : PS X st (tS own f)) : PSs X [st] (tS own f):=pss_one h1
theorem ms_if (hc : PT X c (gT gc)) (ha : PSs X s1 (tS own f)) (hb : PSs X s2 (tS own g)) : PS X (.If c s1 s2 pos) (tS own (sIf gc f g)):=PS.imp (ps_if hc ha hb) fun D σ H ⟨ρ,fl,E,h,q⟩=>by
 obtain ⟨k,h1,h2⟩:=bindE h
 refine ⟨ρ,k,E.er,h1,fun H' s=>?_⟩
 cases k with
 | true=>rw [if_pos rfl];rw [if_pos rfl] at h2;exact ⟨ρ,fl,E.same s,h2,q.step (.same s)⟩
 | false=>rw [if_neg (by simp)];rw [if_neg (by simp)] at h2;exact ⟨ρ,fl,E.same s,h2,q.step (.same s)⟩
theorem ms_ret (he : PE X e (gE fe re)) : PS X (.Return (some e) pos) (tS own (sRet fe re)):=PS.imp (ps_ret he) fun D σ H ⟨ρ,fl,E,h,q⟩=>by
 obtain ⟨d,h1,h2⟩:=bindE h
 split at h2
 ·rename_i hk
  cases h2
  refine ⟨ρ,d,E.er,h1,fun v H' s r n=>q v H' (fun a o e _=>s a o e) ?_⟩
  rw [Bool.or_eq_true] at hk
  rcases hk with hk | hk
  ·exact (n hk).mono fun a ha=>.inr ha
  ·exact r.ofPure hk
 ·cases h2
theorem ms_retV {i : Nat} {x : Str} (ho : own i = true) (hN : X.N[i]? = some x) (hv : Vis X.env.scope x) (hd : (x == ("__debug__" : Str)) = false:=by decide) (hcd : (x == ("__classdict__" : Str)) = false:=by decide) : PS X (.Return (some (.Name x pos')) pos) (tS own (sRetV i)):=
 PS.imp (ps_ret (pe_var hN hv hd hcd)) fun D σ H ⟨ρ,fl,E,h,q⟩=>by
 obtain ⟨d,h1,h2⟩:=bindE h
 cases h2
 obtain ⟨v,hv,r,e⟩:=E.er.var h1
 obtain ⟨a,o,rfl,r2,hin,_⟩:=E.own i v ho hv
 rw [e] at hin
 exact ⟨_,hv,q _ H (fun a o e _=>e) (r.ownP hin (.inl ⟨i,ho,hv⟩))⟩
theorem own_set {σ : L2.St} {i : Nat} {v : V} (ho : own i = false) (a : Addr) : Own own (σ.set i (some v)) a ↔ Own own σ a:=by
 constructor
 ·rintro ⟨j,hj,e⟩
  have : i ≠ j:=fun z=>by subst z;rw [ho] at hj;cases hj
  rw [List.getElem?_set_ne this] at e
  exact ⟨j,hj,e⟩
 ·rintro ⟨j,hj,e⟩
  have : i ≠ j:=fun z=>by subst z;rw [ho] at hj;cases hj
  exact ⟨j,hj,by rw [List.getElem?_set_ne this];exact e⟩
theorem getD_set {ρ : List D} {i j : Nat} {d : D} : (ρ.set i d).getD j .undef = if i = j/\i < ρ.length then d else ρ.getD j .undef:=by
 rw [List.getD_eq_getElem?_getD,List.getD_eq_getElem?_getD,List.getElem?_set]
 by_cases h : i = j
 ·subst h
  by_cases h2 : i < ρ.length
  ·simp [h2]
  ·simp [h2]
 ·simp [h]
theorem ES.set {H : Hp} {σ : L2.St} {ρ : List D} {i : Nat} {v : V} {d : D} (E : ES own H σ ρ) (ho : own i = false) (r : Rep (fun a=>¬ Own own σ a) H v d) : ES own H (σ.set i (some v)) (ρ.set i d):=by
 have hO : (fun a=>¬ Own own (σ.set i (some v)) a) = fun a=>¬ Own own σ a:=funext fun a=>by rw [own_set ho]
 refine ⟨by simp [E.len],fun j hj=>?_,fun j w hj hw=>?_⟩
 ·rw [getD_set] at hj ⊢
  rw [hO]
  by_cases h : i = j/\i < ρ.length
  ·rw [if_pos h]
   obtain ⟨rfl,hl⟩:=h
   exact ⟨v,by rw [List.getElem?_set_self (by rw [E.len];exact hl)],fun _=>r⟩
  ·rw [if_neg h] at hj ⊢
   obtain ⟨w,h1,h2⟩:=E.at_ j hj
   by_cases hij : i = j
   ·subst hij
    have : i < σ.length:=(List.getElem?_eq_some_iff.mp h1).1
    rw [E.len] at this
    exact absurd ⟨rfl,this⟩ h
   ·exact ⟨w,by rw [List.getElem?_set_ne hij];exact h1,h2⟩
 ·have hij : i ≠ j:=fun z=>by subst z;rw [ho] at hj;cases hj
  rw [List.getElem?_set_ne hij] at hw
  rw [getD_set,if_neg fun z=>hij z.1]
  obtain ⟨a,o,h1,h2,h3,h4,h5,h6⟩:=E.own j w hj hw
  refine ⟨a,o,h1,h2,h3,h4,h5,fun k hk hs=>h6 k hk ?_⟩
  have hik : i ≠ k:=fun z=>by subst z;rw [ho] at hk;cases hk
  rwa [List.getElem?_set_ne hik] at hs
theorem ES.setO {H H' : Hp} {σ : L2.St} {ρ : List D} {i : Nat} {a : Addr} {o : HO} {d : D} (E : ES own H σ ρ) (s : Same H H') (ho : own i = true) (hn : H a = none) (r : Rep All H' (.ref a) d) (hin : inner d = true) (ha : H' a = some o) (hm : mutO o = true) :
  ES own H' (σ.set i (some (.ref a))) (ρ.set i d)/\KU own σ H (σ.set i (some (.ref a))) H':=by
 have hO : ∀ b,H b ≠ none->¬ Own own σ b->¬ Own own (σ.set i (some (.ref a))) b:=fun b hb n ⟨j,hj,e⟩=>by
  by_cases hij : i = j
  ·subst hij
   by_cases hl : i < σ.length
   ·rw [List.getElem?_set_self hl] at e
    cases e
    exact hb hn
   ·rw [List.getElem?_set,if_pos rfl,if_neg hl] at e
    cases e
  ·rw [List.getElem?_set_ne hij] at e
   exact n ⟨j,hj,e⟩
 refine ⟨⟨by simp [E.len],fun j hj=>?_,fun j w hj hw=>?_⟩,fun b ob e n=>⟨s b ob e,hO b (by rw [e];simp) n⟩⟩
 ·rw [getD_set] at hj ⊢
  by_cases h : i = j/\i < ρ.length
  ·rw [if_pos h]
   obtain ⟨rfl,hl⟩:=h
   exact ⟨.ref a,by rw [List.getElem?_set_self (by rw [E.len];exact hl)],fun z=>by rw [ho] at z;cases z⟩
  ·rw [if_neg h] at hj ⊢
   obtain ⟨w,h1,h2⟩:=E.at_ j hj
   by_cases hij : i = j
   ·subst hij
    have : i < σ.length:=(List.getElem?_eq_some_iff.mp h1).1
    rw [E.len] at this
    exact absurd ⟨rfl,this⟩ h
   ·exact ⟨w,by rw [List.getElem?_set_ne hij];exact h1,fun hj=>((h2 hj).dom.same s).mono fun b ⟨n,hb⟩=>hO b hb n⟩
 ·by_cases hij : i = j
  ·subst hij
   have hl : i < σ.length:=by
    have:=(List.getElem?_eq_some_iff.mp hw).1
    simpa using this
   rw [List.getElem?_set_self hl] at hw
   cases hw
   rw [getD_set,if_pos ⟨rfl,by rw [<- E.len];exact hl⟩]
   refine ⟨a,o,rfl,r,hin,ha,hm,fun k hk hs=>?_⟩
   by_cases hik : i = k
   ·exact hik.symm
   ·rw [List.getElem?_set_ne hik] at hs
    obtain ⟨o',h1,_⟩:=E.live ⟨k,hk,hs⟩
    rw [hn] at h1;cases h1
  ·rw [List.getElem?_set_ne hij] at hw
   rw [getD_set,if_neg fun z=>hij z.1]
   obtain ⟨b,ob,h1,h2,h3,h4,h5,h6⟩:=E.own j w hj hw
   refine ⟨b,ob,h1,h2.same s,h3,s _ _ h4,h5,fun k hk hs=>?_⟩
   by_cases hik : i = k
   ·subst hik
    by_cases hl : i < σ.length
    ·rw [List.getElem?_set_self hl] at hs
     cases hs
     rw [hn] at h4;cases h4
    ·rw [List.getElem?_set,if_pos rfl,if_neg hl] at hs
     cases hs
   ·rw [List.getElem?_set_ne hik] at hs
    exact h6 k hk hs
theorem mut_of {P : Addr->Prop} {H : Hp} {v : V} {d : D} (r : Rep P H v d) (hin : inner d = true) : ∃ a o,v = .ref a/\P a/\H a = some o/\mutO o = true:=by
 cases r with
 | lst e p r=>exact ⟨_,_,rfl,p,e,rfl⟩
 | dK e p r n=>exact ⟨_,_,rfl,p,e,rfl⟩
 | dT e p r n=>exact ⟨_,_,rfl,p,e,rfl⟩
 | fdK e r n=>cases hin
 | fdT e r n=>cases hin
 | _=>cases hin
theorem new_own {H H' : Hp} {σ : L2.St} {ρ : List D} (E : ES own H σ ρ) {v : V} {d : D} (r : Rep (New H) H' v d) : Rep (fun a=>¬ Own own σ a) H' v d:=r.mono fun a ha ho=>by
 obtain ⟨o,h1,_⟩:=E.live ho
 rw [show H a = none from ha] at h1
 cases h1
theorem set_imp {o : Bool} {i : Nat} {D' : Ends} {σ : L2.St} {H : Hp} (ho : own i = o) (h : tS own (sSet o i fe re) D' σ H) : tAsg (gE fe re) (gName i) D' σ H:=by
 obtain ⟨ρ,fl,E,h,q⟩:=h
 obtain ⟨d,h1,h2⟩:=bindE h
 cases o with
 | true=>
  simp only [if_true] at h2
  split at h2
  ·rename_i hk
   cases h2
   refine ⟨ρ,d,E.er,h1,fun v H' s r n=>?_⟩
   rw [Bool.and_eq_true] at hk
   obtain ⟨a,ob,rfl,hn,ha,hm⟩:=mut_of (n hk.1) hk.2
   obtain ⟨E2,k⟩:=E.setO s ho hn r hk.2 ha hm
   exact q _ H' k E2
  ·cases h2
 | false=>
  simp only [Bool.false_eq_true,if_false] at h2
  split at h2
  ·rename_i hk
   cases h2
   refine ⟨ρ,d,E.er,h1,fun v H' s r n=>?_⟩
   rw [Bool.or_eq_true] at hk
   have r2 : Rep (fun a=>¬ Own own σ a) H' v d:=by
    rcases hk with hk | hk
    ·exact new_own E (n hk)
    ·exact r.ofPure hk
   exact q _ H' (fun a ob e hn=>⟨s a ob e,by rw [own_set ho];exact hn⟩) ((E.same s).set ho r2)
  ·cases h2
theorem ms_set {i : Nat} {x : Str} {o : Bool} (ho : own i = o) (hN : X.N.Nodup) (hi : X.N[i]? = some x) (hx : Loc X.env.scope x) (he : PE X e (gE fe re)) (hs : swapsWith e (some (.Name x pos')) pos.line X.env = pure false:=by rfl) (hf : X.fn x = true\/X.env.scope.names.lookup x = some .local:=by first | exact .inl rfl | exact .inr rfl | assumption) :
  PS X (.Assign [.Name x pos'] e pos) (tS own (sSet o i fe re)):=PS.imp (ps_set hN hi hx he hs hf) fun _ _ _=>set_imp ho
theorem ES.mut {H : Hp} {σ : L2.St} {ρ : List D} {i : Nat} {a : Addr} {o : HO} {d : D} (E : ES own H σ ρ) (ho : own i = true) (hi : σ[i]? = some (some (.ref a))) (hm : mutO o = true) (r : Rep All (upd H a o) (.ref a) d) (hin : inner d = true) :
  ES own (upd H a o) σ (ρ.set i d)/\KU own σ H σ (upd H a o):=by
 have hOa : Own own σ a:=⟨i,ho,hi⟩
 obtain ⟨a',oa,ea,_,_,hHa,hma,huq⟩:=E.own i _ ho hi
 cases ea
 have k : KU own σ H σ (upd H a o):=fun b ob e n=>⟨by rw [upd_ne (fun z=>by subst z;exact n hOa)];exact e,n⟩
 have hl : i < ρ.length:=by rw [<- E.len];exact (List.getElem?_eq_some_iff.mp hi).1
 refine ⟨⟨by simp [E.len],fun j hj=>?_,fun j w hj hw=>?_⟩,k⟩
 ·rw [getD_set] at hj ⊢
  by_cases h : i = j/\i < ρ.length
  ·obtain ⟨rfl,_⟩:=h
   exact ⟨_,hi,fun z=>by rw [ho] at z;cases z⟩
  ·rw [if_neg h] at hj ⊢
   obtain ⟨w,h1,h2⟩:=E.at_ j hj
   exact ⟨w,h1,fun hj=>k.rep E (h2 hj)⟩
 ·by_cases hij : i = j
  ·subst hij
   rw [hi] at hw
   cases hw
   rw [getD_set,if_pos ⟨rfl,hl⟩]
   exact ⟨a,o,rfl,r,hin,upd_same,hm,huq⟩
  ·rw [getD_set,if_neg fun z=>hij z.1]
   obtain ⟨b,ob,h1,h2,h3,h4,h5,h6⟩:=E.own j w hj hw
   subst h1
   have hba : b ≠ a:=fun z=>by subst z;exact hij (h6 i ho hi)
   refine ⟨b,ob,rfl,?_,h3,by rw [upd_ne hba];exact h4,h5,h6⟩
   refine (h2.ownP (P':=fun c=>c = b) h3 rfl).keep (fun c oc hc hp=>?_) fun _ _=>trivial
   rw [upd_ne]
   ·exact hc
   ·intro z
    subst z
    rcases hp with hp | hp
    ·exact hba hp.symm
    ·rw [hHa] at hc;cases hc;rw [hma] at hp;cases hp
theorem ES.ownAt {H : Hp} {σ : L2.St} {ρ : List D} {i : Nat} (E : ES own H σ ρ) (ho : own i = true) (hd : ρ.getD i .undef ≠ .undef) : ∃ a o,σ[i]? = some (some (.ref a))/\Rep All H (.ref a) (ρ.getD i .undef)/\inner (ρ.getD i .undef) = true/\H a = some o/\mutO o = true:=by
 obtain ⟨v,h1,_⟩:=E.at_ i hd
 obtain ⟨a,o,rfl,h2,h3,h4,h5,_⟩:=E.own i v ho h1
 exact ⟨a,o,h1,h2,h3,h4,h5⟩
theorem lst_at {H : Hp} {a : Addr} {xs : List D} (r : Rep All H (.ref a) (.lst xs)) : ∃ vs,H a = some (.lst vs)/\Reps All H vs xs:=by
 cases r with
 | lst e _ r=>exact ⟨_,e,r⟩
theorem Reps.upd {H : Hp} {a : Addr} {vs : List V} {xs : List D} {o : HO} {ob : HO} (r : Reps All H vs xs) (hp : D.pures xs = true) (ha : H a = some ob) (hm : mutO ob = true) : Reps All (upd H a o) vs xs:=by
 refine (r.ofPure (P':=fun _=>False) hp).keep (fun c oc hc h=>?_) fun _ h=>h.elim
 rw [upd_ne]
 ·exact hc
 ·intro z
  subst z
  rcases h with h | h
  ·exact h
  ·rw [ha] at hc;cases hc;rw [hm] at h;cases h
theorem pures_app {xs ys : List D} : D.pures (xs ++ ys) = (D.pures xs && D.pures ys):=by
 induction xs with
 | nil=>simp [D.pures]
 | cons x xs ih=>rw [List.cons_append,D.pures,D.pures,ih,Bool.and_assoc]
theorem ms_app {i : Nat} {x : Str} {p1 apos cpos : Pos} (ho : own i = true) (hN : X.N[i]? = some x) (hv : Vis X.env.scope x) (he : PE X e (gE fe re)) (hd : (x == ("__debug__" : Str)) = false:=by decide) (hcd : (x == ("__classdict__" : Str)) = false:=by decide)
  (hbase : attributeBase (.Name x p1) "append" X.env (eval (.Name x p1) X.env) = eval (.Name x p1) X.env:=by rfl)
  (hs1 : starEach [e] X.env = (false,eval e X.env) :: starEach [] X.env:=by rfl)
  (hfew : ((backTo cpos (starEach [e] X.env)).all (fun x=>!x.1) && (backToKw cpos (keywordEach [] X.env)).all (fun x=>x.1.isSome)
   && decide (([e] : List Expr).length + ([] : List Keyword).length + (if ([] : List Keyword).isEmpty then 0 else 1) < 30)) = true:=by rfl)
  (hline : (apos.endLine == cpos.line) = true:=by rfl)
  (hs : swapsWith (.Call (.Attribute (.Name x p1) "append" apos) [e] [] cpos) none pos.line X.env = pure false:=by rfl) :
  PS X (.Expr (.Call (.Attribute (.Name x p1) "append" apos) [e] [] cpos) pos) (tS own (sApp i fe)):=
 PS.imp (ps_expr (pe_bm PySem.F.plainAttrs_list PySem.F.slot_list_append PySem.F.type_list_append mt_append (pe_var hN hv hd hcd) (pa_cons he pa_nil hs1) hbase hfew hline hs1 rfl) hs) fun D' σ H ⟨ρ,fl,E,h,q⟩=>by
 obtain ⟨d,h1,h2⟩:=bindE h
 split at h2
 ·rename_i xs hx
  split at h2
  ·rename_i hk
   cases h2
   rw [Bool.and_eq_true] at hk
   obtain ⟨a,o,hσ,r,hin,ha,hm⟩:=E.ownAt ho (by rw [hx];intro z;cases z)
   rw [hx] at r hin
   obtain ⟨vs,hl,rr⟩:=lst_at r
   refine ⟨_,hσ,.inl ⟨rfl,vs,.of hl⟩,ρ,d,E.er,h1,fun v H' s rv _=>⟨a,vs,v,rfl,rfl,s _ _ hl,by rw [rr.length];exact lim_lt hk.1,?_⟩⟩
   have E':=E.same s
   have hl':=s _ _ hl
   obtain ⟨E2,k2⟩:=E'.mut (o:=.lst (vs ++ [v])) (d:=.lst (xs ++ [d])) ho hσ rfl (.lst upd_same trivial (((rr.same s).snoc rv).upd (by rw [pures_app];simp only [Bool.and_eq_true];exact ⟨hin,by simp [D.pures,hk.2]⟩) hl' rfl)) (by show D.pures (xs ++ [d]) = true;rw [pures_app];simp only [Bool.and_eq_true];exact ⟨hin,by simp [D.pures,hk.2]⟩)
   exact q _ _ ((KU.same s).trans k2) E2
  ·cases h2
 ·cases h2
end
end Mi
end
section
set_option maxRecDepth 100000
namespace L2
open PySem PySem.Spec PyProof.Rows
section
variable {X : Cx} {scope : Scope} {own : List Str}
theorem ps_compif {elt iter tg c : Expr} {wi : TI} {g : TG} {tc : TT} {te : TE} {pos : Pos} (S : CompSc X.N X.env.scope scope own) (hcalm : X.calm = true) (hi : PI X tg iter wi)
  (hg : ∀ X',CompCx X X' scope own->PG X' tg g) (hc : ∀ X',CompCx X X' scope own->PT X' c tc) (he : ∀ X',CompCx X X' scope own->PE X' elt te)
  (hs : ∀ x,foldedSetIterable iter X.env x = pure x) {y : Str} {py pos2 : Pos} {iy : Nat} (hNn : X.N.Nodup) (hiy : X.N[iy]? = some y) (hxy : Loc X.env.scope y) (hfy : X.fn y = true\/X.env.scope.names.lookup y = some .local) (hsw : swapsWith (.ListComp elt [⟨tg,iter,[c],0⟩] scope pos) (some (.Name y py)) pos2.line X.env = pure true) : PS X (.Assign [.Name y py] (.ListComp elt [⟨tg,iter,[c],0⟩] scope pos) pos2) (tAsg (tComp wi g tc te own.length) (gName iy)):=by
 intro pins s σ H D I h
 rw [exec_Assign_Name_used _ _ _ _ hsw]
 have cells : ∀ y ∈ scope.names,y.2 = .free->∃ c,X.env.cells.lookup y.1 = some c:=fun y hy hk=>I.ok.has y.1 (S.free y hy hk)
 refine wpAny_bind (wpAny_standAt (wpAny_bind ?_))
 show wpAny _ X.A (do let _ <- comprehension (.ListComp elt [⟨tg,iter,[c],0⟩] scope pos) scope X.env _ (newList []) false (eval iter X.env) (some (assign (.Name y py) X.env))) _ _ s
 refine wpAny_bind (wpAny_mono (wpAny_comprehension_free (use:=some (assign (.Name y py) X.env)) (Q:=fun _ s'=>SP X pins D .next s') rfl hs (closure_of cells) S.kind S.names (thn (hi pins s σ H _ I h) fun xv s1 h1=>thn h1 fun itv s2 h2=>?_)) (fun _ s' hq=>wpAny_pure (wpAny_pure hq)) fun _ _ e=>e)
 obtain ⟨it,fp,tn,J,H2,e,I2,T,st2,f2,hW⟩:=h2
 subst e
 have hD : H2 s2.heap.objs.size = none:=I2.hok.fresh (Nat.le_refl _)
 obtain ⟨W,⟨n0,w0⟩,turn⟩:=hW _ hD
 have hfx : ∀ b ∈ fp,b < s2.heap.objs.size:=fun b hb=>by
  obtain ⟨o,ho,_⟩:=T.obj 0 _ st2 b hb
  exact Heap.lt_size ho
 refine wpAny_newObj_type (wpAny_newFunctionEnv S.nocell (by intro y hy;simp at hy) (fun h₁ hns₁ hsb₁=>?_) S.kind)
 dsimp only at hns₁ hsb₁ ⊢
 have hC : (s2.heap.push { cls:=.type "list",dict:=none,data:=.seq ([] : List Value).toArray }).objs.size = s2.heap.objs.size + 1:=Heap.size_push ..
 have hne : s2.heap.objs.size ≠ s2.heap.objs.size + 1:=Nat.ne_of_lt (Nat.lt_succ_self _)
 rw [hC] at hns₁ hsb₁ ⊢
 have old : ∀ b o,s2.heap.get? b = some o->h₁.get? b = some o:=fun b o e=>hsb₁.extBut b o (Nat.ne_of_lt (Nat.lt_succ_of_lt (Heap.lt_size e))) (Heap.get?_push_of_some _ (Heap.get?_push_of_some _ e))
 have hacc : h₁.get? s2.heap.objs.size = some { cls:=.type "list",data:=.seq #[] }:=hsb₁.extBut _ _ hne (Heap.get?_push_of_some _ (Heap.get?_push_size _ rfl))
 have I4:=Inv.comp (t1:=s2.toks + ([] : List (Str × Value)).length) I2 S f2 hfx hns₁ old hacc
 generalize hX' : cxComp X scope (clF X.env scope.names []) (s2.heap.objs.size + 1) own s2 H2 fp = X' at I4
 have cc : CompCx X X' scope own:=by rw [<- hX'];exact cxComp_ok
 have eenv : X'.env = compEnvC scope (clF X.env scope.names []) (s2.heap.objs.size + 1) X.env:=by rw [<- hX'];rfl
 have eA : X'.A = X.A:=cc.A
 have ep : X'.prog = X.prog:=cc.prog
 have ew : X'.w = X.w:=cc.w
 have efs : X'.fs = frs X.stack:=by rw [<- hX'];rfl
 have eex : X'.ex = fp:=by rw [<- hX'];rfl
 have es0 : X'.s₀ = s2:=by rw [<- hX'];rfl
 have eH0 : X'.H₀ = H2:=by rw [<- hX'];rfl
 have epn : X'.pn = []:=by rw [<- hX'];rfl
 have eK : X'.K = X.K:=cc.K
 have exe:=cc.xe
 have ecalm : X'.calm = true:=cc.calm.trans hcalm
 -- the iterator's records within the block
 have fpok : ∀ {H' : Hp},(∀ b ∈ fp,H' b = none)->∀ b ∈ fp,FpOk X' [] H' b:=fun {H'} hn b hb=>by
  obtain ⟨_,f1,f3,_,f5,_⟩:=f2 b hb
  refine ⟨hn b hb,?_,?_,.inl (by rw [eex];exact hb),fun x c e=>?_,fun p hp=>by rw [epn] at hp;simp at hp⟩
  ·rw [eenv];exact Nat.ne_of_lt (Nat.lt_succ_of_lt (hfx b hb))
  ·rw [efs]
   intro z
   rcases List.mem_cons.mp (I2.stkSub b z) with z | z
   ·exact f1 z
   ·exact f3 z
  ·rw [eenv] at e
   exact f5 x c (clF_sub cells (fun _ _ h=>by simp at h) e)
 have st4 : tn 0 h₁:=T.keep _ _ _ st2 fun b _ o e=>old b o e
 have fr4 : ∀ b ∈ fp,(upd H2 s2.heap.objs.size (.lst [])) b = none:=fun b hb=>by rw [upd_ne (Nat.ne_of_lt (hfx b hb))];exact (f2 b hb).1
 have loop : ∀ s4 : Shared,s4 = { s2 with heap:=h₁,toks:=s2.toks + ([] : List (Str × Value)).length }->
   codeAny (model X.prog X.w) X.A (.compLoop (.ListComp elt [⟨tg,iter,[c],0⟩] scope pos) 0 (.ref it) (.ref s2.heap.objs.size) X'.env)
    (compPost (model X.prog X.w) X.A X.xe (some (assign (.Name y py) X.env)) (fun _ s'=>SP X pins D .next s') (.ref s2.heap.objs.size) (s2.heap.objs.size + 1)) s4:=by
  rintro s4 rfl
  refine PySem.W.kct_loop (fun n s'=>∃ i ys H',Inv X' [] (σ ++ List.replicate own.length none) H' s'/\tn i s'.heap/\(∀ b ∈ fp,H' b = none)/\W i n ys H') ?_ n0 ⟨0,[],_,I4,st4,fr4,w0⟩
  rintro n s5 ⟨i,ys,H5,I5,st5,fr5,w5⟩
  obtain ⟨hacc5,tr⟩:=turn i n ys H5 w5
  rcases tr with ⟨stop,q⟩ | ⟨go,hlen,step⟩
  ·have done:=T.done X' ep ew eK ecalm i [] s5 _ H5 (notedBy (model X.prog X.w) X.A X'.env fun e s'=>compPost (model X.prog X.w) X.A X.xe (some (assign (.Name y py) X.env)) (fun _ s'=>SP X pins D .next s') (.ref s2.heap.objs.size) (s2.heap.objs.size + 1) (.error e) s') I5 (fpok fr5) st5 stop
   rw [eA] at done
   refine thn done fun r s6 ⟨hr,I6⟩=>?_
   subst hr
   obtain ⟨m6,hn6,_⟩:=id I6.loc
   rw [eenv] at hn6
   have u6 : Un (frs X.stack) fp H2 H5 s2.heap s6.heap:=by
    have:=I6.base
    rw [efs,eex,eH0,es0] at this
    exact this
   have hCn : H5 (s2.heap.objs.size + 1) = none:=by
    have:=I6.free
    rw [eenv] at this
    exact this
   have hok6 : HOk X.prog X.w H5 s6.heap:=by
    have:=I6.hok
    rw [ep,ew] at this
    exact this
   have hos : s6.os = s2.os:=by have:=I6.os;rw [es0] at this;exact this
   obtain ⟨hh,gg,dd,tt,oo⟩:=s6
   obtain rfl : oo = s2.os:=hos
   have fin:=Inv.call (h':=hh) (g':=gg) (d':=dd) (t':=tt) (ch:=fp) I2 u6 hok6 I6.bare fun b hb=>⟨(f2 b hb).2.2.2.1,(f2 b hb).2.1,(f2 b hb).2.2.2.2.1,(f2 b hb).2.2.2.2.2⟩
   obtain ⟨oC,esC,epC,hoC,hdC,_⟩:=id hn6
   have neL : s2.heap.objs.size + 1 ≠ X.env.locals:=Nat.ne_of_gt (Nat.lt_succ_of_lt I2.lt)
   have finP:=fin.pins_of (pins':=pins ++ [(s2.heap.objs.size + 1,oC)]) fun p hp=>(List.mem_append.mp hp).elim (fun z=>fin.pin p (List.mem_append_right _ z)) fun z=>by
    have z' : p = (s2.heap.objs.size + 1,oC):=by simpa using z
    subst z'
    exact ⟨hoC,hCn,neL,I2.nofs (Nat.le_succ _),fun v z=>by rw [hdC] at z;cases z⟩
   have hpg:=pg_name (pos:=py) hNn hiy hxy hfy _ _ σ H5 (.ref s2.heap.objs.size) (.ref s2.heap.objs.size) D.nx finP rfl q
   refine thn hpg fun _ s7 ⟨σ7,H7,I7,q7⟩=>?_
   obtain ⟨g7,hC7,_⟩:=I7.pin (s2.heap.objs.size + 1,oC) (List.mem_append_right _ (List.mem_append_right _ (by simp)))
   refine ⟨m6,hn6.at' fun o e=>?_,fun h' sb=>⟨σ7,H7,?_,q7⟩⟩
   ·rw [hoC] at e
    cases e
    exact g7
   ·refine Inv.turned (t':=s7.toks) I7.unpinned (fun b o hb e=>sb.extBut b o hb e) hC7 neL (.inr (Nat.le_trans I2.sz (Nat.le_succ _))) (fun x c e z=>?_) fun p hp z=>?_
    ·obtain ⟨v,qq⟩:=I2.cell x c e
     exact absurd (Nat.lt_succ_of_lt qq.lt) (by rw [z];exact Nat.lt_irrefl _)
    ·exact absurd (Nat.lt_succ_of_lt (Heap.lt_size (I2.pin p hp).1)) (by rw [z];exact Nat.lt_irrefl _)
  ·have item:=T.item X' ep ew eK ecalm i [] s5 _ H5 (notedBy (model X.prog X.w) X.A X'.env fun e s'=>compPost (model X.prog X.w) X.A X.xe (some (assign (.Name y py) X.env)) (fun _ s'=>SP X pins D .next s') (.ref s2.heap.objs.size) (s2.heap.objs.size + 1) (.error e) s') I5 (fpok fr5) st5 go
   rw [eA] at item
   refine thn item fun r s6 ⟨u,hr,h6⟩=>?_
   subst hr
   refine thn h6 fun _ s7 ⟨x,H7,I7,r7,y7,st7,fr7⟩=>?_
   have I7':=I7.pinned (fpok fr7) (T.obj _ _ st7)
   have hg':=hg X' cc _ s7 _ H7 x u _ I7' r7 (step x H7 y7)
   rw [ep,ew,eA,exe] at hg'
   refine wpAny_mono hg' (fun _ s8 ⟨σ8,H8,I8,ext8,q8⟩=>?_) fun _ _ z=>False.elim z
   have back : ∀ {ys' : List V} {H9 : Hp} {s9 : Shared} {σ9 : St},Ext (σ ++ List.replicate own.length none) σ9->Inv X' ([] ++ pinsAt fp s7.heap) σ9 H9 s9->(∃ n',n' < n/\W (i + 1) n' ys' H9)->∃ m,m < n/\∃ i ys H',Inv X' [] (σ ++ List.replicate own.length none) H' s9/\tn i s9.heap/\(∀ b ∈ fp,H' b = none)/\W i m ys H':=by
    rintro ys' H9 s9 σ9 ex9 I9 ⟨n',hn',w9⟩
    refine ⟨n',hn',i + 1,ys',H9,(I9.weak ex9.1.symm ex9.2).unpinned,T.keep _ _ _ st7 fun b hb o e=>(I9.pin (b,o) (List.mem_append_right _ (List.mem_append_right _ (mem_pinsAt hb e)))).1,fun b hb=>?_,w9⟩
    obtain ⟨o,e,d⟩:=T.obj _ _ st7 b hb
    exact (I9.pin (b,o) (List.mem_append_right _ (List.mem_append_right _ (mem_pinsAt hb e)))).2.1
   have hc':=hc X' cc _ s8 _ H8 _ I8 q8
   rw [ep,ew,eA,exe] at hc'
   refine wpAny_mono hc' (fun b s9 ⟨H9,I9,q9⟩=>?_) fun _ _ z=>False.elim z
   cases b with
   | false=>
    simp only [Bool.false_eq_true,if_false] at q9 ⊢
    exact back ext8 I9 q9
   | true=>
    simp only [if_true] at q9 ⊢
    have he':=he X' cc _ s9 _ H9 _ I9 q9
    rw [ep,ew,eA,exe] at he'
    refine wpAny_mono he' (fun yv s10 ⟨y,H10,I10,r10,p10,q10⟩=>?_) fun _ _ z=>False.elim z
    have hm:=mt_append (X:=X') _ s10 σ8 H10 (.ref s2.heap.objs.size) [y] (.ref s2.heap.objs.size) [yv] (fun _ H11=>∃ n',n' < n/\W (i + 1) n' (ys ++ [y]) H11) I10 rfl (.cons r10 .nil) ⟨s2.heap.objs.size,ys,y,rfl,rfl,p10,hlen,q10⟩
    rw [ep,ew,eA,exe] at hm
    exact wpAny_mono hm (fun _ s11 ⟨_,H11,I11,_,q11⟩=>back ext8 I11 q11) fun _ _ z=>False.elim z
 have l4:=loop _ rfl
 rw [eenv] at l4
 exact codeAny_compStart_list l4 (T.self X.A 0 _ _ _ st4 l4)
theorem ps_comp0 {elt iter tg : Expr} {wi : TI} {g : TG} {te : TE} {pos : Pos} (S : CompSc X.N X.env.scope scope own) (hcalm : X.calm = true) (hi : PI X tg iter wi)
  (hg : ∀ X',CompCx X X' scope own->PG X' tg g) (he : ∀ X',CompCx X X' scope own->PE X' elt te)
  (hs : ∀ x,foldedSetIterable iter X.env x = pure x) {y : Str} {py pos2 : Pos} {iy : Nat} (hNn : X.N.Nodup) (hiy : X.N[iy]? = some y) (hxy : Loc X.env.scope y) (hfy : X.fn y = true\/X.env.scope.names.lookup y = some .local) (hsw : swapsWith (.ListComp elt [⟨tg,iter,[],0⟩] scope pos) (some (.Name y py)) pos2.line X.env = pure true) : PS X (.Assign [.Name y py] (.ListComp elt [⟨tg,iter,[],0⟩] scope pos) pos2) (tAsg (tComp wi g (fun _ H Q=>Q true H) te own.length) (gName iy)):=by
 intro pins s σ H D I h
 rw [exec_Assign_Name_used _ _ _ _ hsw]
 have cells : ∀ y ∈ scope.names,y.2 = .free->∃ c,X.env.cells.lookup y.1 = some c:=fun y hy hk=>I.ok.has y.1 (S.free y hy hk)
 refine wpAny_bind (wpAny_standAt (wpAny_bind ?_))
 show wpAny _ X.A (do let _ <- comprehension (.ListComp elt [⟨tg,iter,[],0⟩] scope pos) scope X.env _ (newList []) false (eval iter X.env) (some (assign (.Name y py) X.env))) _ _ s
 refine wpAny_bind (wpAny_mono (wpAny_comprehension_free (use:=some (assign (.Name y py) X.env)) (Q:=fun _ s'=>SP X pins D .next s') rfl hs (closure_of cells) S.kind S.names (thn (hi pins s σ H _ I h) fun xv s1 h1=>thn h1 fun itv s2 h2=>?_)) (fun _ s' hq=>wpAny_pure (wpAny_pure hq)) fun _ _ e=>e)
 obtain ⟨it,fp,tn,J,H2,e,I2,T,st2,f2,hW⟩:=h2
 subst e
 have hD : H2 s2.heap.objs.size = none:=I2.hok.fresh (Nat.le_refl _)
 obtain ⟨W,⟨n0,w0⟩,turn⟩:=hW _ hD
 have hfx : ∀ b ∈ fp,b < s2.heap.objs.size:=fun b hb=>by
  obtain ⟨o,ho,_⟩:=T.obj 0 _ st2 b hb
  exact Heap.lt_size ho
 refine wpAny_newObj_type (wpAny_newFunctionEnv S.nocell (by intro y hy;simp at hy) (fun h₁ hns₁ hsb₁=>?_) S.kind)
 dsimp only at hns₁ hsb₁ ⊢
 have hC : (s2.heap.push { cls:=.type "list",dict:=none,data:=.seq ([] : List Value).toArray }).objs.size = s2.heap.objs.size + 1:=Heap.size_push ..
 have hne : s2.heap.objs.size ≠ s2.heap.objs.size + 1:=Nat.ne_of_lt (Nat.lt_succ_self _)
 rw [hC] at hns₁ hsb₁ ⊢
 have old : ∀ b o,s2.heap.get? b = some o->h₁.get? b = some o:=fun b o e=>hsb₁.extBut b o (Nat.ne_of_lt (Nat.lt_succ_of_lt (Heap.lt_size e))) (Heap.get?_push_of_some _ (Heap.get?_push_of_some _ e))
 have hacc : h₁.get? s2.heap.objs.size = some { cls:=.type "list",data:=.seq #[] }:=hsb₁.extBut _ _ hne (Heap.get?_push_of_some _ (Heap.get?_push_size _ rfl))
 have I4:=Inv.comp (t1:=s2.toks + ([] : List (Str × Value)).length) I2 S f2 hfx hns₁ old hacc
 generalize hX' : cxComp X scope (clF X.env scope.names []) (s2.heap.objs.size + 1) own s2 H2 fp = X' at I4
 have cc : CompCx X X' scope own:=by rw [<- hX'];exact cxComp_ok
 have eenv : X'.env = compEnvC scope (clF X.env scope.names []) (s2.heap.objs.size + 1) X.env:=by rw [<- hX'];rfl
 have eA : X'.A = X.A:=cc.A
 have ep : X'.prog = X.prog:=cc.prog
 have ew : X'.w = X.w:=cc.w
 have efs : X'.fs = frs X.stack:=by rw [<- hX'];rfl
 have eex : X'.ex = fp:=by rw [<- hX'];rfl
 have es0 : X'.s₀ = s2:=by rw [<- hX'];rfl
 have eH0 : X'.H₀ = H2:=by rw [<- hX'];rfl
 have epn : X'.pn = []:=by rw [<- hX'];rfl
 have eK : X'.K = X.K:=cc.K
 have exe:=cc.xe
 have ecalm : X'.calm = true:=cc.calm.trans hcalm
 -- the iterator's records within the block
 have fpok : ∀ {H' : Hp},(∀ b ∈ fp,H' b = none)->∀ b ∈ fp,FpOk X' [] H' b:=fun {H'} hn b hb=>by
  obtain ⟨_,f1,f3,_,f5,_⟩:=f2 b hb
  refine ⟨hn b hb,?_,?_,.inl (by rw [eex];exact hb),fun x c e=>?_,fun p hp=>by rw [epn] at hp;simp at hp⟩
  ·rw [eenv];exact Nat.ne_of_lt (Nat.lt_succ_of_lt (hfx b hb))
  ·rw [efs]
   intro z
   rcases List.mem_cons.mp (I2.stkSub b z) with z | z
   ·exact f1 z
   ·exact f3 z
  ·rw [eenv] at e
   exact f5 x c (clF_sub cells (fun _ _ h=>by simp at h) e)
 have st4 : tn 0 h₁:=T.keep _ _ _ st2 fun b _ o e=>old b o e
 have fr4 : ∀ b ∈ fp,(upd H2 s2.heap.objs.size (.lst [])) b = none:=fun b hb=>by rw [upd_ne (Nat.ne_of_lt (hfx b hb))];exact (f2 b hb).1
 have loop : ∀ s4 : Shared,s4 = { s2 with heap:=h₁,toks:=s2.toks + ([] : List (Str × Value)).length }->
   codeAny (model X.prog X.w) X.A (.compLoop (.ListComp elt [⟨tg,iter,[],0⟩] scope pos) 0 (.ref it) (.ref s2.heap.objs.size) X'.env)
    (compPost (model X.prog X.w) X.A X.xe (some (assign (.Name y py) X.env)) (fun _ s'=>SP X pins D .next s') (.ref s2.heap.objs.size) (s2.heap.objs.size + 1)) s4:=by
  rintro s4 rfl
  refine PySem.W.kcp_loop (fun n s'=>∃ i ys H',Inv X' [] (σ ++ List.replicate own.length none) H' s'/\tn i s'.heap/\(∀ b ∈ fp,H' b = none)/\W i n ys H') ?_ n0 ⟨0,[],_,I4,st4,fr4,w0⟩
  rintro n s5 ⟨i,ys,H5,I5,st5,fr5,w5⟩
  obtain ⟨hacc5,tr⟩:=turn i n ys H5 w5
  rcases tr with ⟨stop,q⟩ | ⟨go,hlen,step⟩
  ·have done:=T.done X' ep ew eK ecalm i [] s5 _ H5 (notedBy (model X.prog X.w) X.A X'.env fun e s'=>compPost (model X.prog X.w) X.A X.xe (some (assign (.Name y py) X.env)) (fun _ s'=>SP X pins D .next s') (.ref s2.heap.objs.size) (s2.heap.objs.size + 1) (.error e) s') I5 (fpok fr5) st5 stop
   rw [eA] at done
   refine thn done fun r s6 ⟨hr,I6⟩=>?_
   subst hr
   obtain ⟨m6,hn6,_⟩:=id I6.loc
   rw [eenv] at hn6
   have u6 : Un (frs X.stack) fp H2 H5 s2.heap s6.heap:=by
    have:=I6.base
    rw [efs,eex,eH0,es0] at this
    exact this
   have hCn : H5 (s2.heap.objs.size + 1) = none:=by
    have:=I6.free
    rw [eenv] at this
    exact this
   have hok6 : HOk X.prog X.w H5 s6.heap:=by
    have:=I6.hok
    rw [ep,ew] at this
    exact this
   have hos : s6.os = s2.os:=by have:=I6.os;rw [es0] at this;exact this
   obtain ⟨hh,gg,dd,tt,oo⟩:=s6
   obtain rfl : oo = s2.os:=hos
   have fin:=Inv.call (h':=hh) (g':=gg) (d':=dd) (t':=tt) (ch:=fp) I2 u6 hok6 I6.bare fun b hb=>⟨(f2 b hb).2.2.2.1,(f2 b hb).2.1,(f2 b hb).2.2.2.2.1,(f2 b hb).2.2.2.2.2⟩
   obtain ⟨oC,esC,epC,hoC,hdC,_⟩:=id hn6
   have neL : s2.heap.objs.size + 1 ≠ X.env.locals:=Nat.ne_of_gt (Nat.lt_succ_of_lt I2.lt)
   have finP:=fin.pins_of (pins':=pins ++ [(s2.heap.objs.size + 1,oC)]) fun p hp=>(List.mem_append.mp hp).elim (fun z=>fin.pin p (List.mem_append_right _ z)) fun z=>by
    have z' : p = (s2.heap.objs.size + 1,oC):=by simpa using z
    subst z'
    exact ⟨hoC,hCn,neL,I2.nofs (Nat.le_succ _),fun v z=>by rw [hdC] at z;cases z⟩
   have hpg:=pg_name (pos:=py) hNn hiy hxy hfy _ _ σ H5 (.ref s2.heap.objs.size) (.ref s2.heap.objs.size) D.nx finP rfl q
   refine thn hpg fun _ s7 ⟨σ7,H7,I7,q7⟩=>?_
   obtain ⟨g7,hC7,_⟩:=I7.pin (s2.heap.objs.size + 1,oC) (List.mem_append_right _ (List.mem_append_right _ (by simp)))
   refine ⟨m6,hn6.at' fun o e=>?_,fun h' sb=>⟨σ7,H7,?_,q7⟩⟩
   ·rw [hoC] at e
    cases e
    exact g7
   ·refine Inv.turned (t':=s7.toks) I7.unpinned (fun b o hb e=>sb.extBut b o hb e) hC7 neL (.inr (Nat.le_trans I2.sz (Nat.le_succ _))) (fun x c e z=>?_) fun p hp z=>?_
    ·obtain ⟨v,qq⟩:=I2.cell x c e
     exact absurd (Nat.lt_succ_of_lt qq.lt) (by rw [z];exact Nat.lt_irrefl _)
    ·exact absurd (Nat.lt_succ_of_lt (Heap.lt_size (I2.pin p hp).1)) (by rw [z];exact Nat.lt_irrefl _)
  ·have item:=T.item X' ep ew eK ecalm i [] s5 _ H5 (notedBy (model X.prog X.w) X.A X'.env fun e s'=>compPost (model X.prog X.w) X.A X.xe (some (assign (.Name y py) X.env)) (fun _ s'=>SP X pins D .next s') (.ref s2.heap.objs.size) (s2.heap.objs.size + 1) (.error e) s') I5 (fpok fr5) st5 go
   rw [eA] at item
   refine thn item fun r s6 ⟨u,hr,h6⟩=>?_
   subst hr
   refine thn h6 fun _ s7 ⟨x,H7,I7,r7,y7,st7,fr7⟩=>?_
   have I7':=I7.pinned (fpok fr7) (T.obj _ _ st7)
   have hg':=hg X' cc _ s7 _ H7 x u _ I7' r7 (step x H7 y7)
   rw [ep,ew,eA,exe] at hg'
   refine wpAny_mono hg' (fun _ s8 ⟨σ8,H8,I8,ext8,q8⟩=>?_) fun _ _ z=>False.elim z
   have back : ∀ {ys' : List V} {H9 : Hp} {s9 : Shared} {σ9 : St},Ext (σ ++ List.replicate own.length none) σ9->Inv X' ([] ++ pinsAt fp s7.heap) σ9 H9 s9->(∃ n',n' < n/\W (i + 1) n' ys' H9)->∃ m,m < n/\∃ i ys H',Inv X' [] (σ ++ List.replicate own.length none) H' s9/\tn i s9.heap/\(∀ b ∈ fp,H' b = none)/\W i m ys H':=by
    rintro ys' H9 s9 σ9 ex9 I9 ⟨n',hn',w9⟩
    refine ⟨n',hn',i + 1,ys',H9,(I9.weak ex9.1.symm ex9.2).unpinned,T.keep _ _ _ st7 fun b hb o e=>(I9.pin (b,o) (List.mem_append_right _ (List.mem_append_right _ (mem_pinsAt hb e)))).1,fun b hb=>?_,w9⟩
    obtain ⟨o,e,d⟩:=T.obj _ _ st7 b hb
    exact (I9.pin (b,o) (List.mem_append_right _ (List.mem_append_right _ (mem_pinsAt hb e)))).2.1
   simp only [if_true] at q8
   have he':=he X' cc _ s8 _ H8 _ I8 q8
   rw [ep,ew,eA,exe] at he'
   refine wpAny_mono he' (fun yv s10 ⟨y,H10,I10,r10,p10,q10⟩=>?_) fun _ _ z=>False.elim z
   have hm:=mt_append (X:=X') _ s10 σ8 H10 (.ref s2.heap.objs.size) [y] (.ref s2.heap.objs.size) [yv] (fun _ H11=>∃ n',n' < n/\W (i + 1) n' (ys ++ [y]) H11) I10 rfl (.cons r10 .nil) ⟨s2.heap.objs.size,ys,y,rfl,rfl,p10,hlen,q10⟩
   rw [ep,ew,eA,exe] at hm
   exact wpAny_mono hm (fun _ s11 ⟨_,H11,I11,_,q11⟩=>back ext8 I11 q11) fun _ _ z=>False.elim z
 have l4:=loop _ rfl
 rw [eenv] at l4
 exact codeAny_compStart_list l4 (T.self X.A 0 _ _ _ st4 l4)
end
end L2
end
section
set_option maxRecDepth 100000
namespace Mi
open PySem L2 PySem.SeqAt PySem.Spec PyProof.Rows
variable [KFrag]
variable {own : Nat->Bool}
section
variable {X : Cx} {a b c e : Expr} {pos pos' : Pos} {fa fb fc fe : FE} {ra rb rc re : Bool} {ga gb gc : FT} {f g : FS} {st : Stmt} {rest s1 s2 : List Stmt}
variable {scope : Scope} {ownN : List Str} {elt iter tg : Expr} {it : FI} {t : D->Res (List D)} {gt : TG}
theorem ms_comp {n m : Nat} {y : Str} {py pos2 : Pos} {iy : Nat} {o : Bool} (S : CompSc X.N X.env.scope scope ownN) (hn : X.N.length = n) (hm : ownN.length = m) (hcalm : X.calm = true) (hi : PI X tg iter (gI X.K it)) (ht : TgC gt t n m) (hg : ∀ X',CompCx X X' scope ownN->PG X' tg gt) (he : ∀ X',CompCx X X' scope ownN->PE X' elt (gE fe re))
  (hs : ∀ x,foldedSetIterable iter X.env x = pure x) (ho : own iy = o) (hNn : X.N.Nodup) (hiy : X.N[iy]? = some y) (hxy : Loc X.env.scope y) (hfy : X.fn y = true\/X.env.scope.names.lookup y = some .local) (hsw : swapsWith (.ListComp elt [⟨tg,iter,[],0⟩] scope pos) (some (.Name y py)) pos2.line X.env = pure true) :
  PS X (.Assign [.Name y py] (.ListComp elt [⟨tg,iter,[],0⟩] scope pos) pos2) (tS own (sSet o iy (bComp n it t bTrue fe re) true)):=by
 intro pins s σ H D I h
 subst hm
 refine ps_comp0 S hcalm hi hg he hs hNn hiy hxy hfy hsw pins s σ H D I ?_
 exact comp_core ht (fun σ H Q h=>by obtain ⟨ρ,b,E,h,q⟩:=h;cases h;exact q H (Same.refl H)) (I.len.trans hn) (set_imp ho h)
theorem ms_compif {n m : Nat} {y : Str} {py pos2 : Pos} {iy : Nat} {o : Bool} (S : CompSc X.N X.env.scope scope ownN) (hn : X.N.length = n) (hm : ownN.length = m) (hcalm : X.calm = true) (hi : PI X tg iter (gI X.K it)) (ht : TgC gt t n m) (hg : ∀ X',CompCx X X' scope ownN->PG X' tg gt) (hc : ∀ X',CompCx X X' scope ownN->PT X' c (gT gc)) (he : ∀ X',CompCx X X' scope ownN->PE X' elt (gE fe re))
  (hs : ∀ x,foldedSetIterable iter X.env x = pure x) (ho : own iy = o) (hNn : X.N.Nodup) (hiy : X.N[iy]? = some y) (hxy : Loc X.env.scope y) (hfy : X.fn y = true\/X.env.scope.names.lookup y = some .local) (hsw : swapsWith (.ListComp elt [⟨tg,iter,[c],0⟩] scope pos) (some (.Name y py)) pos2.line X.env = pure true) :
  PS X (.Assign [.Name y py] (.ListComp elt [⟨tg,iter,[c],0⟩] scope pos) pos2) (tS own (sSet o iy (bComp n it t gc fe re) true)):=by
 intro pins s σ H D I h
 subst hm
 refine ps_compif S hcalm hi hg hc he hs hNn hiy hxy hfy hsw pins s σ H D I ?_
 exact comp_core ht (fun σ H Q h=>h) (I.len.trans hn) (set_imp ho h)
theorem putK_pos {κ : Type} [DecidableEq κ] {p : κ × V} {r : List (κ × V)} {k : κ} {v : V} (e : p.1 = k) (h : k ∉ r.map (·.1)) : putK (p :: r) k v = (k,v) :: r:=by
 unfold putK
 rw [if_pos (by simp [e]),List.map_cons,if_pos e,e]
 congr 1
 have : ∀ q ∈ r,(fun kv : κ × V=>if kv.1 = k then (kv.1,v) else kv) q = id q:=fun q hq=>by
  have : q.1 ≠ k:=fun z=>h (List.mem_map.mpr ⟨q,hq,z⟩)
  simp [this]
 rw [List.map_congr_left this,List.map_id]
theorem putK_neg {κ : Type} [DecidableEq κ] {p : κ × V} {r : List (κ × V)} {k : κ} {v : V} (e : ¬ p.1 = k) : putK (p :: r) k v = p :: putK r k v:=by
 unfold putK
 rw [List.any_cons,decide_eq_false e,Bool.false_or]
 split
 ·rw [List.map_cons,if_neg e]
 ·rfl
theorem putK_keys {κ : Type} [DecidableEq κ] {k : κ} {v : V} : ∀ {kvs : List (κ × V)},(kvs.map (·.1)).Nodup->((putK kvs k v).map (·.1)).Nodup:=fun {kvs} h=>by
 by_cases hk : valV kvs k = none
 ·exact nd_putK v h hk
 ·unfold putK
  rw [if_pos (by rw [valV_any];exact Option.isSome_iff_ne_none.mpr hk),List.map_map]
  have : (fun x : κ × V=>x.1) ∘ (fun kv : κ × V=>if kv.1 = k then (kv.1,v) else kv) = fun x=>x.1:=by
   funext q
   simp only [Function.comp]
   split <;> rfl
  rw [this]
  exact h
theorem putK_rep {P : Addr->Prop} {H : Hp} {k : Key} {v : V} {d : D} (rv : Rep P H v d) : ∀ {kvs : List (Key × V)} {ds : List (D × D)},RepK P H kvs ds->(kvs.map (·.1)).Nodup->RepK P H (putK kvs k v) (putD ds (kD k) d)
 | _,_,.nil,_=>.cons rv .nil
 | _,_,.cons (k:=k') (v:=v') (r:=rs) r t,hn=>by
  rw [List.map_cons] at hn
  obtain ⟨h1,h2⟩:=List.nodup_cons.mp hn
  rw [putD,kD_eq]
  by_cases h : k' = k
  ·subst h
   rw [if_pos (by simp),putK_pos rfl h1]
   exact .cons rv t
  ·rw [if_neg (by simpa using h),putK_neg (p:=(k',v')) h]
   exact .cons r (putK_rep rv t h2)
theorem putT_rep {P : Addr->Prop} {H : Hp} {k : List Key} {v : V} {d : D} (rv : Rep P H v d) : ∀ {kvs : List (List Key × V)} {ds : List (D × D)},RepT P H kvs ds->(kvs.map (·.1)).Nodup->RepT P H (putK kvs k v) (putD ds (.tup (k.map kD)) d)
 | _,_,.nil,_=>.cons rv .nil
 | _,_,.cons (k:=k') (v:=v') (r:=rs) r t,hn=>by
  rw [List.map_cons] at hn
  obtain ⟨h1,h2⟩:=List.nodup_cons.mp hn
  rw [putD,kT_eq]
  by_cases h : k' = k
  ·subst h
   rw [if_pos (by simp),putK_pos rfl h1]
   exact .cons rv t
  ·rw [if_neg (by simpa using h),putK_neg (p:=(k',v')) h]
   exact .cons r (putT_rep rv t h2)
theorem RepK.length {P : Addr->Prop} {H : Hp} : ∀ {kvs : List (Key × V)} {ds : List (D × D)},RepK P H kvs ds->kvs.length = ds.length
 | _,_,.nil=>rfl
 | _,_,.cons _ t=>by rw [List.length_cons,List.length_cons,RepK.length t]
theorem RepT.length {P : Addr->Prop} {H : Hp} : ∀ {kvs : List (List Key × V)} {ds : List (D × D)},RepT P H kvs ds->kvs.length = ds.length
 | _,_,.nil=>rfl
 | _,_,.cons _ t=>by rw [List.length_cons,List.length_cons,RepT.length t]
theorem updKeep {H : Hp} {a : Addr} {o ob : HO} (ha : H a = some ob) (hm : mutO ob = true) : Keep (fun _=>False) H (L2.upd H a o):=fun c oc hc h=>by
 rw [upd_ne]
 ·exact hc
 ·intro z
  subst z
  rcases h with h | h
  ·exact h.elim
  ·rw [ha] at hc;cases hc;rw [hm] at h;cases h
theorem putD_pures {d : D} {k : D} (hd : d.pure = true) : ∀ {ds : List (D × D)},D.pures (ds.map (·.2)) = true->D.pures ((putD ds k d).map (·.2)) = true
 | [],_=>by simp [putD,D.pures,hd]
 | (q,w) :: r,h=>by
  rw [List.map_cons,D.pures,Bool.and_eq_true] at h
  rw [putD]
  split
  ·rw [List.map_cons,D.pures,Bool.and_eq_true]
   exact ⟨hd,h.2⟩
  ·rw [List.map_cons,D.pures,Bool.and_eq_true]
   exact ⟨h.1,putD_pures hd h.2⟩
theorem dputD {pins : List (Addr × Obj)} {s : Shared} {σ : L2.St} {H : Hp} {ad : Addr} {y v : V} {ds : List (D × D)} {k d : D} (I : Inv X pins σ H s) (rd : Rep All H (.ref ad) (.dct ds)) (hin : D.pures (ds.map (·.2)) = true) (rk : Rep All H y k) (hk : fitK ds k = true) (hl : ds.length < sizeLine) (rv : Rep All H v d) (hd : d.pure = true) :
  ∃ H1 o,Inv X pins σ H1 s/\DPut H1 ad y v (L2.upd H ad o)/\mutO o = true/\Rep All (L2.upd H ad o) (.ref ad) (.dct (putD ds k d)):=by
 unfold fitK at hk
 rw [Bool.and_eq_true] at hk
 obtain ⟨h1,h2⟩:=hk
 have rv' : Rep (fun _=>False) H v d:=rv.ofPure hd
 cases rd with
 | @dK _ kvs ds e _ r n=>
  have hlen:=r.length
  rcases key_cases h1 rk with ⟨q,rfl,rfl⟩ | ⟨b,ks,rfl,eb,rfl⟩
  ·refine ⟨H,.dK (putK kvs q v),I,.k e (by lia),rfl,.dK upd_same trivial ?_ (putK_keys n)⟩
   exact (putK_rep rv' (r.ofPure hin) n).keep (updKeep e rfl) fun _ z=>z.elim
  ·cases r with
   | nil=>
    refine ⟨L2.upd H ad (.dT []),.dT (putK [] ks v),Inv_emptyT I e,?_,rfl,.dT upd_same trivial ?_ (putK_keys List.nodup_nil)⟩
    ·have:=DPut.t (H:=L2.upd H ad (.dT [])) (a:=ad) (b:=b) (kvs:=[]) (k:=ks) (v:=v) upd_same (by rw [upd_ne (ne_of eb e (by intro z;cases z))];exact eb) hl
     rwa [upd_upd] at this
    ·exact (putT_rep (k:=ks) rv' .nil List.nodup_nil).keep (updKeep e rfl) fun _ z=>z.elim
   | cons r t=>
    rw [List.all_cons,isTup_kD] at h2
    simp [isTup] at h2
 | @dT _ kvs ds e _ r n=>
  have hlen:=r.length
  rcases key_cases h1 rk with ⟨q,rfl,rfl⟩ | ⟨b,ks,rfl,eb,rfl⟩
  ·cases r with
   | nil=>
    refine ⟨L2.upd H ad (.dK []),.dK (putK [] q v),Inv_emptyK I e,?_,rfl,.dK upd_same trivial ?_ (putK_keys List.nodup_nil)⟩
    ·have:=DPut.k (H:=L2.upd H ad (.dK [])) (a:=ad) (kvs:=[]) (k:=q) (v:=v) upd_same hl
     rwa [upd_upd] at this
    ·exact (putK_rep (k:=q) rv' .nil List.nodup_nil).keep (updKeep e rfl) fun _ z=>z.elim
   | cons r t=>
    rw [List.all_cons,isTup_kD] at h2
    simp [isTup] at h2
  ·refine ⟨H,.dT (putK kvs ks v),I,.t e eb (by lia),rfl,.dT upd_same trivial ?_ (putK_keys n)⟩
   exact (putT_rep rv' (r.ofPure hin) n).keep (updKeep e rfl) fun _ z=>z.elim
theorem ms_put {i : Nat} {x : Str} {p1 : Pos} {value k : Expr} {fv fk : FE} {rv rk : Bool} (hu : X.A.units + 20 < cLine) (ho : own i = true) (hN : X.N[i]? = some x) (hvi : Vis X.env.scope x) (hk : PE X k (gE fk rk)) (hv : PE X value (gE fv rv))
  (hs : swapsWith value (some (.Subscript (.Name x p1) k pos')) pos.line X.env = pure false:=by rfl) (hd : (x == ("__debug__" : Str)) = false:=by decide) (hcd : (x == ("__classdict__" : Str)) = false:=by decide) :
  PS X (.Assign [.Subscript (.Name x p1) k pos'] value pos) (tS own (sPut i fk fv)):=by
 intro pins s σ H D' I ⟨ρ,fl,E,h,q⟩
 obtain ⟨d,h0,h⟩:=bindE h
 obtain ⟨kd,h1,h2⟩:=bindE h
 split at h2
 ·rename_i kvs hx
  split at h2
  ·rename_i hg
   cases h2
   simp only [Bool.and_eq_true] at hg
   obtain ⟨⟨hg1,hg2⟩,hg3⟩:=hg
   obtain ⟨a,o,hσ,r,hin,ha,hm⟩:=E.ownAt ho (by rw [hx];intro z;cases z)
   rw [hx] at r hin
   refine wpAny_Assign_Subscript (thn (hv pins s σ H (fun v H1=>Same H H1/\Rep All H1 v d) I ⟨ρ,d,E.er,h0,fun v H1 s1 r1 _=>⟨s1,r1⟩⟩) fun rr s1 ⟨v,H1,I1,rv1,sm1,rp1⟩=>
    thn (pe_var hN hvi hd hcd pins s1 σ H1 (fun w H2=>w = .ref a/\H2 = H1) I1 ⟨_,hσ,rfl,rfl⟩) fun u s2 ⟨xx,H2,I2,rx,ex,eH⟩=>
    thn (hk pins s2 σ H2 (fun w H3=>Same H2 H3/\Rep All H3 w kd) I2 ⟨ρ,kd,by rw [eH];exact E.er.same sm1,h1,fun v H1 s1 r1 _=>⟨s1,r1⟩⟩) fun iv s3 ⟨y,H3,I3,ry,sm3,rp3⟩=>?_) hs
   subst ex eH
   obtain rfl : u = Value.ref a:=rx
   have sm:=sm1.trans sm3
   obtain ⟨H4,o4,I4,g,hmo,rp⟩:=dputD I3 (r.same sm) hin rp3 hg2 (lim_lt hg1) (rp1.same sm3) hg3
   obtain ⟨E2,k2⟩:=(E.same sm).mut ho hσ hmo rp (putD_pures hg3 hin)
   exact d_setItem (by lia) I4 g ry rv1 fun s4 I5=>⟨σ,_,I5,q _ _ ((KU.same sm).trans k2) E2⟩
  ·cases h2
 ·cases h2
noncomputable def TgS (own : Nat->Bool) (g : TG) (t : D->List D->Res (List D)) : Prop:=∀ (v : V) (d : D) (ρ ρ' : List D) (σ : L2.St) (H : Hp) (Q : L2.St->Hp->Prop),ES own H σ ρ->Rep (fun a=>¬ Own own σ a) H v d->t d ρ = .ok ρ'->
 (∀ σ',ES own H σ' ρ'->(∀ a,Own own σ' a ↔ Own own σ a)->Q σ' H)->g v σ H Q
theorem tgs_one {i : Nat} (ho : own i = false) : TgS own (gName i) (tg1 i):=fun v d ρ ρ' σ H Q E r h q=>by
 cases h
 exact q _ (E.set ho r) fun a=>own_set ho a
theorem ES.sets {H : Hp} : ∀ {is : List Nat} {vs : List V} {ds : List D} {σ : L2.St} {ρ : List D},(∀ i ∈ is,own i = false)->ES own H σ ρ->Reps (fun a=>¬ Own own σ a) H vs ds->ES own H (setsV is vs σ) (setsD is ds ρ)/\∀ a,Own own (setsV is vs σ) a ↔ Own own σ a
 | [],_,_,_,_,_,E,_=>by simp only [setsV,setsD];exact ⟨E,fun _=>trivial⟩
 | i :: is,_,_,σ,ρ,h,E,.nil=>by simp only [setsV,setsD];exact ⟨E,fun _=>trivial⟩
 | i :: is,_,_,σ,ρ,h,E,.cons (v:=v) r t=>by
  have ho:=h i (List.mem_cons_self ..)
  have hO : (fun a=>¬ Own own (σ.set i (some v)) a) = fun a=>¬ Own own σ a:=funext fun a=>by rw [own_set ho]
  obtain ⟨h1,h2⟩:=ES.sets (is:=is) (fun j hj=>h j (List.mem_cons_of_mem _ hj)) (E.set ho r) (by rw [hO];exact t)
  exact ⟨h1,fun a=>(h2 a).trans (own_set ho a)⟩
theorem tgs_tup (K : PySem.W.Frag) {is : List Nat} (ho : ∀ i ∈ is,own i = false) : TgS own (gTup K is.length (gIx is)) (tgN is):=fun v d ρ ρ' σ H Q E r h q=>by
 cases d <;> simp only [tgN] at h <;> (try (cases h;done))
 split at h
 ·rename_i hl
  cases h
  have hl':=of_decide_eq_true hl
  obtain ⟨a,xs,rfl,e,rr⟩:=r.tupAt
  obtain ⟨h1,h2⟩:=E.sets ho rr
  exact ⟨a,xs,rfl,.of e,by rw [rr.length];exact hl',gIx_run _ _ _ (by rw [rr.length];exact hl') (q _ h1 h2)⟩
 ·cases h
theorem ItQ.ku {K : PySem.W.Frag} {J : It} {items : List D} {σ σ' : L2.St} {H H' : Hp} {ρ : List D} (h : ItQ K (fun a=>¬ Own own σ a) J H items) (k : KU own σ H σ' H') (E : ES own H σ ρ) : ItQ K (fun a=>¬ Own own σ' a) J H' items:=by
 cases h with
 | lst a e r=>exact .lst a e (k.rep E r)
 | tup a e r=>exact .tup a e (k.rep E r)
 | rng lo n e r=>exact .rng lo n e r
 | chs x e r=>exact .chs x e r
 | enm a ds e r h=>exact .enm a ds e (k.rep E r) h
theorem for_core {K : PySem.W.Frag} {g : TG} {t : D->List D->Res (List D)} {body : FS} {D' : Ends} {J : It} {items : List D} {σ : L2.St} {H1 : Hp} {ρ : List D} {fl : Fl} (tg : TgS own g t) (E : ES own H1 σ ρ) (hJ : ItQ K (fun a=>¬ Own own σ a) J H1 items) (hf : forS t body items ρ = .ok fl) (q : kS own D' σ H1 fl) :
  ∃ W : Nat->Nat->L2.St->Hp->Prop,(∃ m,W 0 m σ H1)/\∀ i m σ H,W i m σ H->
   (J.stop i H/\D'.nx σ H)\/(J.go i H/\∃ N : L2.St->Hp->Prop,(∀ σ' H',N σ' H'->∃ m',m' < m/\W (i + 1) m' σ' H')/\∀ x H',J.yld i H x H'->g x σ H' fun σ2 H2=>tS own body { D' with nx:=N,ct:=N,bk:=D'.nx } σ2 H2):=by
 refine ⟨fun i m σ' H'=>m = items.length - i/\i<=items.length/\ItQ K (fun a=>¬ Own own σ' a) J H' items/\∃ ρ',ES own H' σ' ρ'/\forS t body (items.drop i) ρ' = .ok fl/\kS own D' σ' H' fl,⟨items.length,rfl,Nat.zero_le _,hJ,ρ,E,hf,q⟩,?_⟩
 rintro i m σ' H' ⟨rfl,hi,hJ',ρ',E',hf',q'⟩
 rcases Nat.lt_or_ge i items.length with hlt | hge
 ·refine .inr ?_
  have e : items[i]? = some items[i]:=List.getElem?_eq_getElem hlt
  obtain ⟨g1,g2⟩:=hJ'.go e
  rw [List.drop_eq_getElem_cons hlt] at hf'
  obtain ⟨ρ1,h1,hf2⟩:=bindE hf'
  obtain ⟨r,h2,hf3⟩:=bindE hf2
  refine ⟨g1,fun σ2 H2=>ItQ K (fun a=>¬ Own own σ2 a) J H2 items/\∃ ρ',ES own H2 σ2 ρ'/\forS t body (items.drop (i + 1)) ρ' = .ok fl/\kS own D' σ2 H2 fl,fun σ2 H2 ⟨n1,n2⟩=>⟨items.length - (i + 1),by lia,rfl,hlt,n1,n2⟩,fun x H2 hy=>?_⟩
  obtain ⟨sH,rx⟩:=g2 x H2 hy
  have ks : KU own σ' H' σ' H2:=fun a o e n=>⟨sH a o e,n⟩
  have hJ':=hJ'.ku ks E'
  have q':=q'.step ks
  have E':=E'.same sH
  refine tg x items[i] ρ' ρ1 σ' H2 _ E' rx h1 fun σ2 E2 hO=>?_
  have k0 : KU own σ' H2 σ2 H2:=fun a o e n=>⟨e,by rw [hO];exact n⟩
  have hJ2:=hJ'.ku k0 E'
  have q2:=q'.step k0
  refine ⟨ρ1,r,E2,h2,?_⟩
  cases r with
  | nx ρ2=>exact fun σ3 H3 k3 E3=>⟨hJ2.ku k3 E2,ρ2,E3,hf3,q2.step k3⟩
  | ct ρ2=>exact fun σ3 H3 k3 E3=>⟨hJ2.ku k3 E2,ρ2,E3,hf3,q2.step k3⟩
  | bk ρ2=>cases hf3;exact fun σ3 H3 k3 E3=>q2 σ3 H3 k3 E3
  | rt d=>cases hf3;exact q2
 ·refine .inl ⟨hJ'.stop hge,?_⟩
  rw [List.drop_eq_nil_of_le hge] at hf'
  cases hf'
  exact q' σ' H' (fun a o e n=>⟨e,n⟩) E'
theorem ms_for {tg iter : Expr} {body : List Stmt} {g : TG} {t : D->List D->Res (List D)} {it : FI} {fb : FS} (hp : PassesOwn (model X.prog X.w) X.A X.env X.xe) (hc : X.calm = true) (hi : PI X tg iter (gI X.K it)) (ht : TgS own g t) (hg : PG X tg g) (hb : PSs X body (tS own fb))
  (hs : ∀ x,foldedSetIterable iter X.env x = pure x:=by intro _;rfl) : PS X (.For tg iter body [] pos) (tS own (sFor it t fb)):=PS.imp (ps_for hp hc hi hg hb hs) fun D' σ H ⟨ρ,fl,E,h,q⟩=>by
 obtain ⟨⟨items,k⟩,h1,h2⟩:=bindE h
 split at h2
 ·rename_i hk
  exact ⟨ρ,items,k,E.er,h1,fun J H1 s1 _ hJ=>for_core ht (E.same s1) ((hJ hk).keep (fun _ _ e _=>e) fun a ha ho=>by
   obtain ⟨o,e1,_⟩:=E.live ho
   rw [show H a = none from ha] at e1
   cases e1) h2 (q.step (.same s1))⟩
 ·cases h2
theorem es_start {own : Nat->Bool} {N ps : List Str} {vs : List V} {ds : List D} {H : Hp} (hst : start N vs = vs.map some ++ List.replicate (N.length - ps.length) none) (hl : ds.length = ps.length) (r : Reps All H vs ds) (hown : ∀ i,i < ps.length->own i = false) (noown : ∀ a,¬ Own own (start N vs) a) : ES own H (start N vs) (ds ++ List.replicate (N.length - ps.length) .undef):=by
 refine ⟨by rw [hst];simp [r.length],fun i hi=>?_,fun i v hi hv=>?_⟩
 ·have hlt : i < ds.length:=Nat.lt_of_not_le fun hge=>hi (by
   rw [List.getD_eq_getElem?_getD,List.getElem?_append_right hge,List.getElem?_replicate]
   split <;> rfl)
  have e : (ds ++ List.replicate (N.length - ps.length) D.undef).getD i .undef = ds[i]:=by
   rw [List.getD_eq_getElem?_getD,List.getElem?_append_left hlt,List.getElem?_eq_getElem hlt]
   rfl
  obtain ⟨v,g1,g2⟩:=r.get (i:=i) (d:=ds[i]) (by simp [hlt])
  refine ⟨v,by rw [hst,List.getElem?_append_left (by simp [r.length,hlt])];simp [g1],fun _=>?_⟩
  rw [e]
  exact g2.mono fun a _=>noown a
 ·exfalso
  rw [hst] at hv
  by_cases h : i < ps.length
  ·rw [hown i h] at hi;cases hi
  ·rw [List.getElem?_append_right (by simp [r.length,hl];lia)] at hv
   rw [List.getElem?_replicate] at hv
   split at hv <;> cases hv
theorem fn_body {own : Nat->Bool} {N ps : List Str} {f : FS} {vs : List V} {H : Hp} {Q : VK} {E : XK} (hown : ∀ i,i < ps.length->own i = false) (h0 : spD (fnS ps.length N.length f) ps.length vs H Q E) : tS own f { nx:=fun _ H'=>Q .non H',rt:=Q } (start N vs) H:=by
 obtain ⟨ds,d,hl,r,h,q⟩:=h0
 ·obtain ⟨fl,h1,h2⟩:=bindE h
  have hst : start N vs = vs.map some ++ List.replicate (N.length - ps.length) none:=by
   show vs.map some ++ List.replicate (N.length - vs.length) none = _
   rw [r.length,hl]
  have noown : ∀ a,¬ Own own (start N vs) a:=fun a ⟨i,hi,e⟩=>by
   rw [hst] at e
   by_cases h : i < ps.length
   ·rw [hown i h] at hi;cases hi
   ·rw [List.getElem?_append_right (by simp [r.length,hl];lia)] at e
    rw [List.getElem?_replicate] at e
    split at e <;> cases e
  have E0 : ES own H (start N vs) (ds ++ List.replicate (N.length - ps.length) .undef):=es_start hst hl r hown noown
  refine ⟨_,fl,E0,h1,?_⟩
  have sm : ∀ {σ' : L2.St} {H' : Hp},KU own (start N vs) H σ' H'->Same H H':=fun k a o e=>(k a o e (noown a)).1
  cases fl with
  | nx ρ'=>cases h2;exact fun σ' H' k E'=>q .non H' (sm k) .non fun _=>.non
  | rt d'=>
   cases h2
   refine fun v H' hk rp=>q v H' (fun a o e=>hk a o e (noown a)) rp.all fun _=>rp.mono fun a ha=>?_
   rcases ha with ha | ha
   ·exact absurd ha (noown a)
   ·exact ha
  | bk ρ'=>cases h2
  | ct ρ'=>cases h2
theorem fn_ok {P : Program} {w : World} {K : PySem.W.Frag} {mg : Str->Option Value} {base : Heap} {x qual : Str} {st : Stmt} {fad : Addr} {fd : FuncData} {N ps : List Str} {k : Nat} {f : FS} (F : Fun K x qual st fad fd) (S : FnScope N ps (defScope st)) (own : Nat->Bool) (hown : ∀ i,i < ps.length->own i = false) (hNl : ps.length<=N.length)
  (hbody : ∀ (cdv : Value) (A : Around) (outer : List Env) (s : Shared) (H : Hp) (E : XK),Room k (A.deeper (envOfC qual (defScope st) s.heap.objs.size fad cdv))->PSs (cxOf CX0 P w K mg base N qual (defScope st) fad cdv A outer s H E).nox (defBody st) (tS own f)) : FnOk P w K mg base CX0 (k + 1) fad fd ps (spD (fnS ps.length N.length f) ps.length):=
 F.ok S (fun vs H Q E h=>spD_len h) fun cdv A outer s H vs Q E hr h=>⟨_,hbody cdv A outer s H E hr,fn_body hown h⟩
end
end Mi
end
section
set_option maxRecDepth 100000
namespace Mi
open PySem L2 PySem.SeqAt PySem.Spec PyProof.Rows
variable [KFrag]
structure CRest where
 s₀ : Shared
 H₀ : Hp
 env : Env
 outer : List Env
 stack : List Env
 ex : List Addr
 fn : Str->Bool
 pn : List (Addr × Obj)
noncomputable abbrev mkC (X : Cx) (scope : Scope) (ownN : List Str) (y : CRest) : Cx:=
 { X with N:=X.N.map (hideN ownN) ++ ownN,s₀:=y.s₀,H₀:=y.H₀,env:={ y.env with scope:=relabel scope X.env },outer:=y.outer,stack:=y.stack,ex:=y.ex,fn:=y.fn,pn:=y.pn,xe:=fun _ _=>False }
theorem mkC_of {X X' : Cx} {scope : Scope} {ownN : List Str} (cc : CompCx X X' scope ownN) : ∃ y,X' = mkC X scope ownN y:=by
 refine ⟨⟨X'.s₀,X'.H₀,X'.env,X'.outer,X'.stack,X'.ex,X'.fn,X'.pn⟩,?_⟩
 obtain ⟨h1,h2,h3,h4,h5,h6,h7,h8,h9,h10⟩:=cc
 cases X' with
 | mk a b c d e f g h i j k l m n o p q=>
  cases j
  dsimp only at *
  subst h1 h2 h3 h4 h5 h6 h7 h8 h9 h10
  rfl
section
variable {own : Nat->Bool} {X : Cx} {scope : Scope} {ownN : List Str} {elt iter tg c : Expr} {it : FI} {t : D->Res (List D)} {g : TG} {gc : FT} {fe : FE} {re : Bool} {pos : Pos} {n m : Nat}
theorem me_comp' (S : CompSc X.N X.env.scope scope ownN) (hn : X.N.length = n) (hm : ownN.length = m) (hcalm : X.calm = true) (hi : PI X tg iter (gI X.K it)) (ht : TgC g t n m) (hg : ∀ y,PG (mkC X scope ownN y) tg g) (he : ∀ y,PE (mkC X scope ownN y) elt (gE fe re))
  (hs : ∀ x,foldedSetIterable iter X.env x = pure x) : PE X (.ListComp elt [⟨tg,iter,[],0⟩] scope pos) (gE (bComp n it t bTrue fe re) true):=
 me_comp S hn hm hcalm hi ht (fun X' cc=>by obtain ⟨y,rfl⟩:=mkC_of cc;exact hg y) (fun X' cc=>by obtain ⟨y,rfl⟩:=mkC_of cc;exact he y) hs
theorem ms_comp' {y : Str} {py pos2 : Pos} {iy : Nat} {o : Bool} (S : CompSc X.N X.env.scope scope ownN) (hn : X.N.length = n) (hm : ownN.length = m) (hcalm : X.calm = true) (hi : PI X tg iter (gI X.K it)) (ht : TgC g t n m) (hg : ∀ y,PG (mkC X scope ownN y) tg g) (he : ∀ y,PE (mkC X scope ownN y) elt (gE fe re))
  (hs : ∀ x,foldedSetIterable iter X.env x = pure x) (ho : own iy = o) (hNn : X.N.Nodup) (hiy : X.N[iy]? = some y) (hxy : Loc X.env.scope y) (hfy : X.fn y = true\/X.env.scope.names.lookup y = some .local) (hsw : swapsWith (.ListComp elt [⟨tg,iter,[],0⟩] scope pos) (some (.Name y py)) pos2.line X.env = pure true) :
  PS X (.Assign [.Name y py] (.ListComp elt [⟨tg,iter,[],0⟩] scope pos) pos2) (tS own (sSet o iy (bComp n it t bTrue fe re) true)):=
 ms_comp S hn hm hcalm hi ht (fun X' cc=>by obtain ⟨y,rfl⟩:=mkC_of cc;exact hg y) (fun X' cc=>by obtain ⟨y,rfl⟩:=mkC_of cc;exact he y) hs ho hNn hiy hxy hfy hsw
theorem ms_compif' {y : Str} {py pos2 : Pos} {iy : Nat} {o : Bool} (S : CompSc X.N X.env.scope scope ownN) (hn : X.N.length = n) (hm : ownN.length = m) (hcalm : X.calm = true) (hi : PI X tg iter (gI X.K it)) (ht : TgC g t n m) (hg : ∀ y,PG (mkC X scope ownN y) tg g) (hc : ∀ y,PT (mkC X scope ownN y) c (gT gc)) (he : ∀ y,PE (mkC X scope ownN y) elt (gE fe re))
  (hs : ∀ x,foldedSetIterable iter X.env x = pure x) (ho : own iy = o) (hNn : X.N.Nodup) (hiy : X.N[iy]? = some y) (hxy : Loc X.env.scope y) (hfy : X.fn y = true\/X.env.scope.names.lookup y = some .local) (hsw : swapsWith (.ListComp elt [⟨tg,iter,[c],0⟩] scope pos) (some (.Name y py)) pos2.line X.env = pure true) :
  PS X (.Assign [.Name y py] (.ListComp elt [⟨tg,iter,[c],0⟩] scope pos) pos2) (tS own (sSet o iy (bComp n it t gc fe re) true)):=
 ms_compif S hn hm hcalm hi ht (fun X' cc=>by obtain ⟨y,rfl⟩:=mkC_of cc;exact hg y) (fun X' cc=>by obtain ⟨y,rfl⟩:=mkC_of cc;exact hc y) (fun X' cc=>by obtain ⟨y,rfl⟩:=mkC_of cc;exact he y) hs ho hNn hiy hxy hfy hsw
end
noncomputable def CalOk (P : Program) (w : World) (K : PySem.W.Frag) (mg : Str->Option Value) (base : Heap) (k : Nat) (x : Str) (n : Nat) (f : List D->Res D) : Prop:=
 ∃ (fad : Addr) (fd : FuncData) (ps : List Str),FnOk P w K mg base CX0 k fad fd ps (spD f n)/\mg x = some (.ref fad)/\PySem.W.keepIn K (.ref fad) = true/\Binds K fd ps []
section
variable {X : Cx} {e : Expr} {es : List Expr} {pos p : Pos} {fs : FA} {rr : Bool} {x : Str} {k n : Nat} {f : List D->Res D}
theorem me_callC {k' : Nat} (C : CalOk X.prog X.w X.K X.mg X.base k x n f) (hr : Room k' X.A) (hkk : k<=k') (hg : Gl X x) (ha : PA X (e :: es) (gA fs rr)) (hdb : (x == ("__debug__" : Str)) = false:=by decide) (he : starEach (e :: es) X.env = (false,eval e X.env) :: starEach es X.env:=by rfl) (hpl : (backTo pos (starEach es X.env)).any (·.1) = false:=by rfl) :
  PE X (.Call (.Name x p) (e :: es) [] pos) (gE (bCall (argN n f) fs) true):=by
 obtain ⟨fad,fd,ps,F,hm,hk,hb⟩:=C
 exact me_call F (hr.mono hkk) hg hm hk hb ha hdb he hpl
theorem cal_mk {P : Program} {w : World} {K : PySem.W.Frag} {mg : Str->Option Value} {base : Heap} {st : Stmt} {fad : Addr} {fd : FuncData} {N ps : List Str} {fs : FS} (F : Fun K x x st fad fd) (hm : mg x = some (.ref fad)) (hb : Binds K fd ps []) (S : FnScope N ps (defScope st)) (own : Nat->Bool) (hown : ∀ i,i < ps.length->own i = false) (hNl : ps.length<=N.length)
  (hbody : ∀ (cdv : Value) (A : Around) (outer : List Env) (s : Shared) (H : Hp) (E : XK),Room k (A.deeper (envOfC x (defScope st) s.heap.objs.size fad cdv))->PSs (cxOf CX0 P w K mg base N x (defScope st) fad cdv A outer s H E).nox (defBody st) (tS own fs)) : CalOk P w K mg base (k + 1) x ps.length (fnS ps.length N.length fs):=
 ⟨fad,fd,ps,fn_ok F S own hown hNl hbody,hm,F.kp,hb⟩
end
theorem hu20 {A : Around} {k : Nat} (hr : Room k A) : A.units + 20 < cLine:=Nat.lt_of_le_of_lt (Nat.add_le_add_left (by decide : 20<=64) _) hr.units
structure Bt (mg : Str->Option Value) : Prop where
 len : mg "len" = none
 min : mg "min" = none
 max : mg "max" = none
 list : mg "list" = none
 tuple : mg "tuple" = none
 sorted : mg "sorted" = none
 range : mg "range" = none
 isi : mg "isinstance" = none
 int : mg "int" = none
 bool : mg "bool" = none
 str : mg "str" = none
 dict : mg "dict" = none
 all : mg "all" = none
 enum : mg "enumerate" = none
 sum : mg "sum" = none
 zip : mg "zip" = none
 abs : mg "abs" = none
 reversed : mg "reversed" = none
theorem vb_len : bootBuiltins "len" = some (.builtin "len"):=by decide +kernel
theorem vb_max : bootBuiltins "max" = some (.builtin "max"):=by decide +kernel
theorem vb_isinstance : bootBuiltins "isinstance" = some (.builtin "isinstance"):=by decide +kernel
theorem vb_tuple : bootBuiltins "tuple" = some (.type "tuple"):=by decide +kernel
theorem vb_int : bootBuiltins "int" = some (.type "int"):=by decide +kernel
theorem vb_bool : bootBuiltins "bool" = some (.type "bool"):=by decide +kernel
theorem vb_dict : bootBuiltins "dict" = some (.type "dict"):=by decide +kernel
theorem ints_rep {P : Addr->Prop} {H : Hp} : ∀ ns : List Int,Reps P H (ns.map V.int) (ns.map D.int)
 | []=>.nil
 | n :: ns=>.cons (.int n) (ints_rep ns)
end Mi
namespace Mi
open PySem L2
theorem script_sp {K : PySem.W.Frag} {f : List D->Res D} {H : Hp} {a : Addr} {ns : List Int} {E : XK} (main : ∀ ns : List Int,ns.length<=63->f [.scr (ns.map D.int)] = .ok (.bl true)) (hl : ns.length<=63) (hO : Only H) (hS : SqL K H a (ns.map V.int)) : @spD ⟨K⟩ f 1 [.ref a] H (fun v _=>v = .bl true) E:=by
 letI : KFrag:=⟨K⟩
 refine ⟨[.scr (ns.map D.int)],.bl true,rfl,.cons (.frz ?_ (ints_rep ns)) .nil,main ns hl,fun v H' s r n=>by cases r;rfl⟩
 rcases hS with (h | ⟨o,h⟩) | h
 ·rcases hO a with z | ⟨o,xs,z⟩
  ·rw [h] at z;cases z
  ·rw [h] at z;cases z
 ·exact .inl ⟨o,h⟩
 ·exact .inr h
end Mi
end
section
set_option maxRecDepth 100000
namespace Mi
open PySem L2 PySem.SeqAt PySem.Spec PyProof.Rows
noncomputable def mulX : D->D->Res D
 | .str x,.int n=>if decide (0<=n) && decide (n<=100000) && decide (x.length * n.toNat<=lim) then .ok (.str (Txt.mul x n)) else .bad
 | a,b=>binD .mul a b
noncomputable def inX : D->D->Res D
 | .str c,.str x=>.ok (.bl (!(Builtin.Str.occurrences x c 0 x.length 1).isEmpty))
 | a,b=>cmpD .isin a b
noncomputable def slcX : D->Option Int->Option Int->Res D
 | .str x,lo,hi=>if decide (x.length<=lim) then .ok (.str (Txt.slice x lo hi)) else .bad
 | d,lo,hi=>slcD d lo hi
noncomputable def bSlX (a : FE) (lo hi : List D->Res (Option Int)) : FE:=fun ρ=>do let x <- a ρ;let l <- lo ρ;let h <- hi ρ;slcX x l h
noncomputable def itemsX : D->Res (List D)
 | .str x=>if decide (x.length<=lim) then .ok (charsD x) else .bad
 | d=>itemsD d
noncomputable def bItemsX (a : FE) (fr : Bool) : FI:=fun ρ=>do let x <- a ρ;let xs <- itemsX x;pure (xs,fr || x.pure)
variable [KFrag]
section
variable {X : Cx}
theorem om_mulX : OpR X (binaryOp .Mult) (r2 mulX true):=by
 intro pins s σ H x y v u Q I rx ry ⟨a,b,d,p,q,e,k⟩
 by_cases hs : ∃ z n,a = .str z/\b = .int n
 ·obtain ⟨z,n,rfl,rfl⟩:=hs
  simp only [mulX] at e
  split at e
  ·rename_i hl
   cases e
   simp only [Bool.and_eq_true,decide_eq_true_eq] at hl
   obtain ⟨⟨h0,h1⟩,h2⟩:=hl
   cases p
   cases q
   obtain ⟨t,rfl⟩:=rx
   obtain ⟨t',rfl⟩:=ry
   have hz : z.length * n.toNat<=sizeLine:=Nat.le_trans h2 (by rw [sizeLine_eq];decide)
   refine SB.mul ⟨?_,fun h3 _=>?_,fun _ _=>?_⟩ fun t2 k2=>⟨.str _,H,I.tok k2,⟨t2,rfl⟩,k.str⟩
   ·rw [decide_eq_false (by lia),decide_eq_false (by lia)]
    rfl
   ·have hn : 0 < n:=by lia
    have h4 : (z.length : Int) * n<=2 ^ 63 - 1:=by
     have h5 : ((z.length * n.toNat : Nat) : Int)<=1000000:=by
      have : lim = 1000000:=by unfold lim;exact Eq.refl _
      lia
     rw [Int.natCast_mul,Int.toNat_of_nonneg h0] at h5
     lia
    have h6:=(Int.le_ediv_iff_mul_le hn).mpr h4
    lia
   ·unfold Builtin.Str.tooLong
    exact decide_eq_false (by lia)
  ·cases e
 ·have he : mulX a b = binD .mul a b:=by
   unfold mulX
   split
   ·exact absurd ⟨_,_,rfl,rfl⟩ hs
   ·rfl
  rw [he] at e
  exact om_mul pins s σ H x y v u Q I rx ry ⟨a,b,d,p,q,e,k⟩
theorem om_inX (hu : X.A.units + 20 < cLine) : OpR X (compareOp .In) (r2 inX true):=by
 intro pins s σ H x y v u Q I rx ry ⟨a,b,d,p,q,e,k⟩
 by_cases hs : ∃ z n,a = .str z/\b = .str n
 ·obtain ⟨z,n,rfl,rfl⟩:=hs
  cases e
  cases p
  cases q
  exact op_in_str pins s σ H _ _ v u Q I rx ry ⟨_,_,rfl,rfl,k.bl⟩
 ·have he : inX a b = cmpD .isin a b:=by
   unfold inX
   split
   ·exact absurd ⟨_,_,rfl,rfl⟩ hs
   ·rfl
  rw [he] at e
  exact om_in hu pins s σ H x y v u Q I rx ry ⟨a,b,d,p,q,e,k⟩
theorem part_of {v : Value} {o : Option Int} (h : IsPart v o) : ∃ l : Option (Int × Tok),partValue l = v/\l.map (·.1) = o:=by
 cases h with
 | none=>exact ⟨none,rfl,rfl⟩
 | int i t=>exact ⟨some (i,t),rfl,rfl⟩
theorem om_slX (hK : KFrag.K = X.K) : SlR X (fun x lo hi H Q=>∃ a d,Rep All H x a/\slcX a lo hi = .ok d/\kR H d true Q):=by
 intro pins s σ H x v vl vu lo hi sl Q I rx hs pl pu ⟨a,d,p,e,k⟩
 by_cases hz : ∃ z,a = .str z
 ·obtain ⟨z,rfl⟩:=hz
  simp only [slcX] at e
  split at e
  ·rename_i hl
   cases e
   cases p
   obtain ⟨t,rfl⟩:=rx
   obtain ⟨l,e1,e2⟩:=part_of pl
   obtain ⟨m,e3,e4⟩:=part_of pu
   subst e1 e2 e3 e4
   refine ⟨"str",_,F.slot_str_getitem.lookup,typeIs_str _ _ _,?_⟩
   obtain ⟨o,ho,hc,hd⟩:=hs
   refine wpAny_getItem_str_slice (l:=l) (u:=m) (st:=none) ⟨o,ho,hc,hd⟩ rfl ?_
   have hle : (Txt.slice z (l.map (·.1)) (m.map (·.1))).length<=sizeLine:=Nat.le_trans (Txt.slice_le ..) (lim_line hl)
   have q : ∀ (t' : Tok) (k2 : Nat),EP X pins σ Q (.str (Txt.slice z (l.map (·.1)) (m.map (·.1))) t') { s with toks:=k2 }:=fun t' k2=>⟨.str _,H,I.tok k2,⟨t',rfl⟩,k.str⟩
   show Made.post (if ((1 : Int) == 1 && (Builtin.Str.strSliceIndices (l.map (·.1)) (m.map (·.1)) 1 z.length).length == z.length) = true then .val (.str z t) else .str ⟨((Builtin.Str.strSliceIndices (l.map (·.1)) (m.map (·.1)) 1 z.length).filterMap (z.cps[·]?)).toArray⟩) _ s
   unfold Txt.slice at hle q
   split
   ·rename_i hh
    have:=q t s.toks
    rw [if_pos hh] at this
    exact this
   ·rename_i hh
    rw [if_neg hh] at hle
    have:=q s.toks (s.toks + 1)
    rw [if_neg hh] at this
    exact ⟨hle,this⟩
  ·cases e
 ·have he : slcX a lo hi = slcD a lo hi:=by
   unfold slcX
   split
   ·exact absurd ⟨_,rfl⟩ hz
   ·rfl
  rw [he] at e
  exact om_sl hK pins s σ H x v vl vu lo hi sl Q I rx hs pl pu ⟨a,d,p,e,k⟩
theorem me_slX {e : Expr} {fe : FE} {re : Bool} {pos : Pos} {lo hi : Option Expr} {p2 : Pos} {fl fh : List D->Res (Option Int)} (hK : KFrag.K = X.K) (he : PE X e (gE fe re)) (hl : PO X lo (gO fl)) (hh : PO X hi (gO fh)) : PE X (.Subscript e (.Slice lo hi none p2) pos) (gE (bSlX fe fl fh) true):=
 PE.imp (pe_slice (om_slX hK) he hl hh) fun σ H Q ⟨ρ,d,E,h,q⟩=>by
  obtain ⟨x,h1,h⟩:=bindE h
  obtain ⟨l,h2,h⟩:=bindE h
  obtain ⟨u,h3,h⟩:=bindE h
  exact ⟨ρ,x,E,h1,fun v H1 s1 r1 _=>⟨ρ,l,E.same s1,h2,fun H2 s2=>⟨ρ,u,E.same (s1.trans s2),h3,fun H3 s3=>⟨x,d,r1.same (s2.trans s3),h,q.imp ((s1.trans s2).trans s3) id⟩⟩⟩⟩
theorem turn_str {P : Program} {w : World} {K : PySem.W.Frag} {tg : Expr} (x : Str) (t : Tok) (it : Addr) : Turn P w K tg (Itss x) [it] it (fun i h=>h.IsStrIter it (strIterType x) x t i) where
 mem:=by simp
 obj:=fun i h st b hb=>by
  have e : b = it:=by simpa using hb
  subst e
  obtain ⟨o,e,c,d⟩:=st
  exact ⟨o,e,fun v z=>by rw [d] at z;cases z⟩
 keep:=fun i h h' st k=>by
  obtain ⟨o,e,r⟩:=st
  exact ⟨o,k it (by simp) o e,r⟩
 item:=by
  intro Y hP hw hK hc i pins s σ H E I hf st hg
  subst hP hw hK
  obtain ⟨f0,f1,f2,f3,f4,f5⟩:=hf it (by simp)
  have hx : x.cps[i]? = some x.cps[i]:=Array.getElem?_eq_getElem hg
  have fin : ∀ (h' : Heap) (ty : String),(["enumerate", "zip", "dict_itemiterator", "dict_reverseitemiterator", "odict_iterator", "itertools.zip_longest", "itertools.pairwise"].contains ty = false)->strIterType x = ty->h'.IsStrIter it ty x t (i + 1)->Heap.SameBut it s.heap h'->
    ∃ u,some (Value.str ⟨#[x.cps[i]]⟩ s.toks) = some u/\wpAny (model Y.prog Y.w) Y.A (letOwnedTupleGo tg (.ref it) u) (fun _ s2=>∃ v H',Inv Y pins σ H' s2/\RelV v u/\(Itss x).yld i H v H'/\s2.heap.IsStrIter it (strIterType x) x t (i + 1)/\∀ b ∈ [it],H' b = none) E { s with heap:=h',toks:=s.toks + 1 }:=by
   intro h' ty hn hty st' sb
   have I1 : Inv Y pins σ H { s with heap:=h',toks:=s.toks + 1 }:=I.turned (fun b o hb e=>(sb.2 b hb).trans e) f0 f1 f3 f4 f5
   obtain ⟨o,e,c,d⟩:=id st'
   exact ⟨_,rfl,go_of (s:={ s with heap:=h',toks:=s.toks + 1 }) e c d hn ⟨.str ⟨#[x.cps[i]]⟩,H,I1,⟨_,rfl⟩,⟨rfl,_,hx,rfl⟩,by rw [hty];exact st',fun b hb=>(hf b hb).1⟩⟩
  cases ha : x.cps.all (· < 128)
  ·have hty : strIterType x = "str_iterator":=by simp [strIterType,ha]
   rw [hty] at st
   exact wpAny_pyNext_wide_item st hx fun h' st' sb=>fin h' _ (by decide) hty st' sb
  ·have hty : strIterType x = "str_ascii_iterator":=by simp [strIterType,ha]
   rw [hty] at st
   exact wpAny_pyNext_ascii_item st hx fun h' st' sb=>fin h' _ (by decide) hty st' sb
 done:=by
  intro Y hP hw hK hc i pins s σ H E I hf st hg
  subst hP hw hK
  obtain ⟨f0,f1,f2,f3,f4,f5⟩:=hf it (by simp)
  have hx : x.cps[i]? = none:=Array.getElem?_eq_none hg
  cases ha : x.cps.all (· < 128)
  ·have hty : strIterType x = "str_iterator":=by simp [strIterType,ha]
   rw [hty] at st
   exact wpAny_pyNext_wide_end (I.ok.hd hc) st hx fun h' eb=>⟨rfl,I.turned (t':=s.toks) (fun b o hb e=>eb b o hb e) f0 f1 f3 f4 f5⟩
  ·have hty : strIterType x = "str_ascii_iterator":=by simp [strIterType,ha]
   rw [hty] at st
   exact wpAny_pyNext_ascii_end (I.ok.hd hc) st hx fun h' eb=>⟨rfl,I.turned (t':=s.toks) (fun b o hb e=>eb b o hb e) f0 f1 f3 f4 f5⟩
 self:=fun _ _ _ _ _ st h=>by
  cases ha : x.cps.all (· < 128)
  ·have hty : strIterType x = "str_iterator":=by simp [strIterType,ha]
   rw [hty] at st
   exact wpAny_pyIter_striter_wide st h
  ·have hty : strIterType x = "str_ascii_iterator":=by simp [strIterType,ha]
   rw [hty] at st
   exact wpAny_pyIter_striter_ascii st h
section
variable {tg l a : Expr} {fl fa : FE} {rl ra : Bool} {p pos : Pos}
theorem iter_repX {pins : List (Addr × Obj)} {s1 : Shared} {σ : L2.St} {H1 : Hp} {R : It->Hp->Prop} {v : V} {u : Value} {d : D} {items : List D} (I1 : Inv X pins σ H1 s1) (r : Rep All H1 v d) (ru : RelV v u) (hi : itemsX d = .ok items)
  (q : ∀ J,(∀ P : Addr->Prop,Rep P H1 v d->ItQ X.K P J H1 items)->R J H1) : wpAny (model X.prog X.w) X.A (pyIter u) (PIE X pins σ tg R) X.xe s1:=by
 by_cases hz : ∃ z,d = .str z
 ·obtain ⟨z,rfl⟩:=hz
  simp only [itemsX] at hi
  split at hi
  ·cases hi
   cases r
   obtain ⟨t,rfl⟩:=ru
   refine wpAny_pyIter_strU ?_
   refine ⟨s1.heap.objs.size,[s1.heap.objs.size],_,_,H1,rfl,I1.kept (t':=s1.toks) fun b o e=>Heap.get?_push_of_some _ e,turn_str z t _,⟨_,Heap.get?_push_size _ rfl,rfl,rfl⟩,fun b hb=>?_,q _ fun P r=>.chs z rfl rfl⟩
   have e : b = s1.heap.objs.size:=by simpa using hb
   subst e
   exact I1.fpOk (Nat.le_refl _) (I1.hok.fresh (Nat.le_refl _))
  ·cases hi
 ·have he : itemsX d = itemsD d:=by
   unfold itemsX
   split
   ·exact absurd ⟨_,rfl⟩ hz
   ·rfl
  rw [he] at hi
  exact iter_rep I1 r ru hi q
theorem mi_valX (hl : PE X l (gE fl rl)) : PI X tg l (gI X.K (bItemsX fl rl)):=by
 intro pins s σ H R I ⟨ρ,items,k,E,h,q⟩
 obtain ⟨d,h1,h⟩:=bindE h
 obtain ⟨its,h2,h⟩:=bindE h
 cases h
 refine thn (hl pins s σ H _ I ⟨ρ,d,E,h1,fun v H1 s1 r1 n1=>(show (∃ d',Rep All H1 v d/\d' = d/\∀ J,(∀ P : Addr->Prop,Rep P H1 v d->ItQ X.K P J H1 items)->R J H1) from ⟨d,r1,rfl,fun J hJ=>q J H1 s1 (hJ _ r1) fun hk=>hJ _ ?_⟩)⟩) fun u s1 ⟨v,H1,I1,ru,d',r1,e,q1⟩=>iter_repX I1 r1 ru h2 q1
 rw [Bool.or_eq_true] at hk
 rcases hk with hk | hk
 ·exact n1 hk
 ·exact r1.ofPure hk
end
end
section
variable {X : Cx} {pos p : Pos} {x : Str} {k : Nat} {f : List D->Res D}
end
end Mi
end
section
set_option maxRecDepth 100000
namespace Mi
open PySem L2
theorem asB_bl (b : Bool) : asB (.bl b) = .ok b:=rfl
theorem lim_eq : lim = 1000000:=by unfold lim;exact Eq.refl _
theorem padD_self {n : Nat} {ρ : List D} (h : ρ.length = n) : padD n ρ = ρ:=by
 subst h
 apply List.ext_getElem
 ·simp [padD]
 ·intro i h1 h2
  simp [padD,h2]
theorem argN_ok {n : Nat} {f : List D->Res D} {ds : List D} (h : ds.length = n) : argN n f ds = f ds:=by
 unfold argN
 rw [if_pos (by simp [h])]
theorem b2_ok {f : D->D->Res D} {a b : FE} {ρ : List D} {x y z : D} (h1 : a ρ = .ok x) (h2 : b ρ = .ok y) (h3 : f x y = .ok z) : b2 f a b ρ = .ok z:=by
 unfold b2
 rw [h1,Res.ok_bind,h2,Res.ok_bind,h3]
theorem set_ok {i : Nat} {f : FE} {ρ : List D} {d : D} (h : f ρ = .ok d) : sSet false i f true ρ = .ok (.nx (ρ.set i d)):=by
 unfold sSet
 rw [h,Res.ok_bind]
 rfl
theorem setP_ok {i : Nat} {f : FE} {ρ : List D} {d : D} (h : f ρ = .ok d) (hp : d.pure = true) : sSet false i f false ρ = .ok (.nx (ρ.set i d)):=by
 unfold sSet
 rw [h,Res.ok_bind]
 simp only [hp,Bool.false_or,Bool.false_eq_true,if_false,if_true]
theorem setV_ok {i : Nat} {f : FE} {ρ : List D} {d : D} (h : f ρ = .ok d) (hp : inner d = true) : sSet true i f true ρ = .ok (.nx (ρ.set i d)):=by
 unfold sSet
 rw [h,Res.ok_bind]
 simp only [hp,Bool.and_self,if_true]
theorem seq_ok {f g : FS} {ρ ρ' : List D} {r : Res Fl} (h1 : f ρ = .ok (.nx ρ')) (h2 : g ρ' = r) : sSeq f g ρ = r:=by
 unfold sSeq
 rw [h1,Res.ok_bind]
 exact h2
theorem if_ok {c : FT} {f g : FS} {ρ : List D} {k : Bool} {r : Res Fl} (h1 : c ρ = .ok k) (h2 : (if k then f ρ else g ρ) = r) : sIf c f g ρ = r:=by
 unfold sIf
 rw [h1,Res.ok_bind]
 exact h2
theorem if_t {c : FT} {f g : FS} {ρ : List D} {r : Res Fl} (h1 : c ρ = .ok true) (h2 : f ρ = r) : sIf c f g ρ = r:=if_ok h1 (by rw [if_pos rfl];exact h2)
theorem if_f {c : FT} {f g : FS} {ρ : List D} {r : Res Fl} (h1 : c ρ = .ok false) (h2 : g ρ = r) : sIf c f g ρ = r:=if_ok h1 (by rw [if_neg (by simp)];exact h2)
theorem tb_ok {f : FE} {ρ : List D} {k : Bool} (h1 : f ρ = .ok (.bl k)) : bTB f ρ = .ok k:=by
 unfold bTB
 rw [h1,Res.ok_bind]
 rfl
theorem and_t {a b : FT} {ρ : List D} {r : Res Bool} (h1 : a ρ = .ok true) (h2 : b ρ = r) : bAnd a b ρ = r:=by
 unfold bAnd
 rw [h1,Res.ok_bind,if_pos rfl,h2]
theorem and_f {a b : FT} {ρ : List D} (h1 : a ρ = .ok false) : bAnd a b ρ = .ok false:=by
 unfold bAnd
 rw [h1,Res.ok_bind,if_neg (by simp)]
 rfl
theorem cons_ok {a : FE} {b : FA} {ρ : List D} {x : D} {xs : List D} (h1 : a ρ = .ok x) (h2 : b ρ = .ok xs) : bCons a b ρ = .ok (x :: xs):=by
 unfold bCons
 rw [h1,Res.ok_bind,h2,Res.ok_bind]
 rfl
theorem call_ok {f : List D->Res D} {a : FA} {ρ : List D} {xs : List D} {d : D} (h1 : a ρ = .ok xs) (h2 : f xs = .ok d) : bCall f a ρ = .ok d:=by
 unfold bCall
 rw [h1,Res.ok_bind,h2]
theorem tup_ok {a : FA} {ρ : List D} {xs : List D} (h : a ρ = .ok xs) (hl : xs.length<=lim) : bTup a ρ = .ok (.tup xs):=by
 unfold bTup
 rw [h,Res.ok_bind,if_pos (decide_eq_true hl)]
 rfl
theorem ret_ok {f : FE} {ρ : List D} {d : D} {k : Bool} (h : f ρ = .ok d) (hp : (k || d.pure) = true) : sRet f k ρ = .ok (.rt d):=by
 unfold sRet
 rw [h,Res.ok_bind,if_pos hp]
theorem for_ok {it : FI} {t : D->List D->Res (List D)} {body : FS} {ρ : List D} {xs : List D} {r : Res Fl} (h1 : it ρ = .ok (xs,true)) (h2 : forS t body xs ρ = r) : sFor it t body ρ = r:=by
 unfold sFor
 rw [h1,Res.ok_bind]
 exact h2
theorem rng_ok {f : FA} {ρ : List D} {n : Int} (h : f ρ = .ok [.int n]) (h1 : 0<=n) (h2 : n<=1000000) : bThen f rng1D ρ = .ok ((List.range n.toNat).map fun (k : Nat)=>D.int (0 + (k : Int)),true):=by
 unfold bThen
 rw [h,Res.ok_bind]
 have : bound62 n = true:=by
  simp only [bound62,Bool.and_eq_true,decide_eq_true_eq]
  lia
 simp only [rng1D,this,if_true]
theorem put_ok {i : Nat} {f g : FE} {ρ : List D} {kvs : List (D × D)} {k d : D} (h1 : g ρ = .ok d) (h2 : f ρ = .ok k) (h3 : ρ.getD i .undef = .dct kvs) (h4 : kvs.length < lim) (h5 : fitK kvs k = true) (h6 : d.pure = true) : sPut i f g ρ = .ok (.nx (ρ.set i (.dct (putD kvs k d)))):=by
 unfold sPut
 rw [h1,Res.ok_bind,h2,Res.ok_bind,h3]
 simp only [decide_eq_true h4,h5,h6,Bool.and_self,if_true]
theorem app_ok {i : Nat} {f : FE} {ρ : List D} {xs : List D} {d : D} (h1 : f ρ = .ok d) (h3 : ρ.getD i .undef = .lst xs) (h4 : xs.length < lim) (h5 : d.pure = true) : sApp i f ρ = .ok (.nx (ρ.set i (.lst (xs ++ [d])))):=by
 unfold sApp
 rw [h1,Res.ok_bind,h3]
 simp only [decide_eq_true h4,h5,Bool.and_self,if_true]
theorem fors_cons {t : D->List D->Res (List D)} {body : FS} {x : D} {xs : List D} {ρ ρ1 ρ2 : List D} {r : Res Fl} (h1 : t x ρ = .ok ρ1) (h2 : body ρ1 = .ok (.nx ρ2)) (h3 : forS t body xs ρ2 = r) : forS t body (x :: xs) ρ = r:=by
 rw [forS,h1,Res.ok_bind,h2,Res.ok_bind]
 exact h3
theorem lst_get (L : List D) (i : Int) (h0 : 0<=i) (h1 : i < L.length) : ∃ (h : i.toNat < L.length),getD (.lst L) (.int i) = .ok L[i.toNat]:=by
 have hlt : i.toNat < L.length:=by lia
 refine ⟨hlt,?_⟩
 show Res.ofOpt ((ixD L.length i).bind fun j=>L[j]?) = _
 unfold ixD
 rw [if_pos h0,if_pos h1]
 simp only [Option.bind_some]
 rw [List.getElem?_eq_getElem hlt]
 rfl
theorem len_ok (L : List D) : lenD [.lst L] = .ok (.int L.length):=rfl
theorem comp_ok {n : Nat} {it : FI} {t : D->Res (List D)} {c : FT} {f : FE} {k kk : Bool} {ρ : List D} {xs ys : List D} (h1 : it ρ = .ok (xs,kk)) (h2 : xs.length<=lim) (h3 : cfold (cstep n t c f k ρ) [] xs = .ok ys) : bComp n it t c f k ρ = .ok (.lst ys):=by
 unfold bComp
 rw [h1,Res.ok_bind]
 simp only [decide_eq_true h2,if_true]
 rw [h3]
 rfl
theorem cstep_one {n : Nat} {c : FT} {f : FE} {k : Bool} {ρ acc : List D} {x y : D} {b : Bool} (hρ : ρ.length = n) (h1 : c (ρ ++ [x]) = .ok b) (h2 : b = true->f (ρ ++ [x]) = .ok y/\(k || y.pure) = true) : cstep n oneT c f k ρ acc x = .ok (if b then acc ++ [y] else acc):=by
 unfold cstep
 show (do let ok <- c (padD n ρ ++ [x]);_) = _
 rw [padD_self hρ,h1,Res.ok_bind]
 cases b with
 | true=>
  obtain ⟨e1,e2⟩:=h2 rfl
  rw [if_pos rfl,e1,Res.ok_bind,if_pos e2,if_pos rfl]
  rfl
 | false=>
  rw [if_neg (by simp),if_neg (by simp)]
  rfl
theorem cfold_map {α : Type} (g : List D->D->Res (List D)) (d : α->D) (p : α->Bool) (y : α->D) (h : ∀ acc a,g acc (d a) = .ok (if p a then acc ++ [y a] else acc)) : ∀ (xs : List α) (acc : List D),cfold g acc (xs.map d) = .ok (acc ++ (xs.filter p).map y)
 | [],acc=>by simp [cfold]
 | x :: xs,acc=>by
  rw [List.map_cons,cfold,h]
  show cfold g _ _ = _
  rw [cfold_map g d p y h xs]
  by_cases hp : p x
  ·simp [hp]
  ·simp [hp]
theorem add_ok (a b : Int) : binD .add (.int a) (.int b) = .ok (.int (a + b)):=rfl
theorem sub_ok (a b : Int) : binD .sub (.int a) (.int b) = .ok (.int (a - b)):=rfl
theorem mul_ok (a b : Int) (h : smallB b = true) : binD .mul (.int a) (.int b) = .ok (.int (a * b)):=by
 simp only [binD,h,Bool.or_true,if_true]
theorem mul_okL (a b : Int) (h : smallB a = true) : binD .mul (.int a) (.int b) = .ok (.int (a * b)):=by
 simp only [binD,h,Bool.true_or,if_true]
theorem fdiv_ok (a b : Int) (h1 : 0 < b) (h2 : b < 1073741824) : binD .fdiv (.int a) (.int b) = .ok (.int (a / b)):=by
 simp only [binD,decide_eq_true h1,decide_eq_true h2,Bool.and_self,if_true]
theorem mod_ok (a b : Int) (h1 : 0 < b) : binD .mod (.int a) (.int b) = .ok (.int (a % b)):=by
 simp only [binD,decide_eq_true h1,if_true]
theorem str_add (a b : Str) (h : a.length + b.length<=lim) : binD .add (.str a) (.str b) = .ok (.str (a ++ b)):=by
 simp only [binD,decide_eq_true h,if_true]
theorem str_len (a b : Str) : (a ++ b).length = a.length + b.length:=by
 show (a.cps ++ b.cps).size = _
 rw [Array.size_append]
 rfl
theorem cmp_ord {o : Ordr} {a b : D} {k : Bool} (h1 : a.eqok eqdepth = true) (h2 : b.eqok eqdepth = true) (h : ordD o a b = some k) : cmpD (.ord o) a b = .ok (.bl k):=by
 simp only [cmpD,h1,h2,h,Bool.and_self,if_true]
theorem add_lst (a b : List D) (h : a.length + b.length<=lim) (ha : D.pures a = true) (hb : D.pures b = true) : binD .add (.lst a) (.lst b) = .ok (.lst (a ++ b)):=by
 simp only [binD,decide_eq_true h,ha,hb,Bool.and_self,if_true]
end Mi
end
section
set_option maxRecDepth 100000
namespace Mi
open PySem L2 PySem.SeqAt PySem.Spec PyProof.Rows
section
variable {P : Program} {w : World} {K : PySem.W.Frag} {mg : Str->Option Value} {base : Heap} {N : List Str} {qual : Str} {scope : Scope} {f C : Addr} {cd : Value} {A : Around} {outer : List Env} {s : Shared} {H : Hp} {E : XK}
end
section
variable [KFrag]
end
end Mi
end
section
set_option maxRecDepth 100000
namespace Mi
open PySem L2 PySem.W PySem.SeqAt PySem.Spec PyProof.Rows PySem.Builtin PySem.Builtin.ObjectAttr PySem.Builtin.Getset_descriptor
section
variable {prog : Program} {w : World} {A : Around} {E : Value->Shared->Prop} {s : Shared} {K : Frag} {x C : Addr}
end
end Mi
end
section
set_option maxRecDepth 100000
namespace Mi
open PySem L2 PySem.W PySem.SeqAt PySem.Spec PyProof.Rows
section
variable {X : Cx} {pins : List (Addr × Obj)} {σ : L2.St} {H H1 H2 : Hp} {s : Shared} {h h6 : Heap} {a : Addr}
end
end Mi
end
section
set_option maxRecDepth 100000
namespace Mi
open PySem L2 PySem.W PySem.SeqAt PySem.Spec PyProof.Rows
variable [KFrag]
section
variable {X : Cx} {C : Addr} {i : Nat} {cs : List Addr} {b : Bool} {y : Str} {p np tpos pos : Pos} {es : List Expr} {kk : Nat} {ce : Expr} {v : V} {u : Value}
end
noncomputable def bLstP (a : FA) : FE:=fun ρ=>do let xs <- a ρ;if decide (xs.length<=lim) && D.pures xs then pure (.lst xs) else .bad
theorem me_lstP {X : Cx} {pos : Pos} {es : List Expr} {f : FA} {r : Bool} (h : PA X es (gA f r)) : PE X (.List es pos) (gE (bLstP f) true):=PE.imp (pe_lst h) fun σ H Q ⟨ρ,d,E,h,q⟩=>by
  obtain ⟨xs,h1,h⟩:=bindE h
  split at h
  ·rename_i hl
   rw [Bool.and_eq_true] at hl
   cases h
   refine ⟨ρ,xs,E,h1,fun vs H1 s1 r1 n1=>⟨?_,fun p hp=>?_⟩⟩
   ·rw [r1.length];exact Nat.le_trans (of_decide_eq_true hl.1) (by rw [sizeLine_eq];decide)
   ·have sp : Same H1 (upd H1 p (.lst vs)):=Same.upd hp
    exact q _ _ (s1.trans sp) (.lst upd_same trivial (r1.same sp)) fun _=>.lst upd_same (s1.free hp) ((r1.ofPure hl.2).same sp)
  ·cases h
end Mi
end
section
set_option maxRecDepth 100000
namespace Mi
open PySem L2 PySem.SeqAt PySem.Spec PyProof.Rows
variable [KFrag]
section
variable {X : Cx} {a e : Expr} {es : List Expr} {p p2 pos pos2 : Pos} {fs : FA} {rr : Bool}
end
section
variable {X : Cx} {own : Nat->Bool} {a b e : Expr} {pos : Pos} {fs : FA} {rr re : Bool} {fe : FE}
end
end Mi
end
section
set_option maxRecDepth 100000
namespace Mi
open PySem L2 PySem.SeqAt PySem.Spec PyProof.Rows
variable [KFrag]
noncomputable def DV (H : Hp) (a : Addr) (kvs : List (Key × V)) : Prop:=H a = some (.dK kvs)\/(kvs = []/\H a = some (.dT []))
theorem kv_get {κ : Type} : ∀ {kvs : List (κ × V)} {vs : List (κ × Value)} {i : Nat} {p : κ × V},KV kvs vs->kvs[i]? = some p->∃ u,vs[i]? = some (p.1,u)/\RelV p.2 u
 | _,_,_,_,.nil,h=>by simp at h
 | _,_,0,_,.cons r _,h=>by
  simp at h;subst h
  exact ⟨_,by simp [r.1],r.2⟩
 | _,_,i + 1,_,.cons _ t,h=>by
  obtain ⟨u,h1,h2⟩:=kv_get t (by simpa using h)
  exact ⟨u,by simpa using h1,h2⟩
section
variable {X : Cx} {pins : List (Addr × Obj)} {σ : L2.St} {H : Hp} {s : Shared} {a : Addr} {kvs : List (Key × V)}
theorem dv_mut (hu : DV H a kvs) : L2.Mut (H a):=by
 rcases hu with h | ⟨_,h⟩ <;> rw [h] <;> trivial
theorem dv_dict (I : Inv X pins σ H s) (hu : DV H a kvs) : kvs.length<=sizeLine/\(a == sysModules) = false/\∃ vs,KV kvs vs/\s.heap.DictOf (mixKind X.prog X.w) a vs:=by
 rcases hu with h | ⟨rfl,h⟩
 ·exact dk_of I.hok h
 ·exact dk_of (Inv_emptyK I h).hok upd_same
theorem dv_obj (I : Inv X pins σ H s) (hu : DV H a kvs) {o : Obj} (ho : s.heap.get? a = some o) : ∃ u,H a = some u/\∀ (H' : Hp) (h : Heap),h.get? a = some o->ObjOk X.prog X.w H' h a u:=by
 rcases hu with h | ⟨_,h⟩
 ·obtain ⟨z,hs,vs,rel,o',es,ep,ho',c⟩:=I.hok a _ h
  rw [ho] at ho'
  cases ho'
  exact ⟨_,h,fun H' h' e=>⟨z,hs,vs,rel,o,es,ep,e,c⟩⟩
 ·obtain ⟨z,hs,xs,rel,o',es,ep,ho',c⟩:=I.hok a _ h
  rw [ho] at ho'
  cases ho'
  cases rel
  exact ⟨_,h,fun H' h' e=>⟨z,hs,[],.nil,o,es,ep,e,c⟩⟩
end
mutual
theorem rep_thaw {P : Addr->Prop} {H : Hp} {a : Addr} {u : HO} (ea : ∀ xs,H a ≠ some (.tup xs)) : ∀ {v : V} {d : D},Rep P H v d->d.pure = true->Rep P (upd H a u) v d
 | _,_,.non,_=>.non
 | _,_,.bl b,_=>.bl b
 | _,_,.int i,_=>.int i
 | _,_,.str x,_=>.str x
 | _,_,.tup (a:=b) e r,h=>.tup (by rw [upd_ne (fun z=>by rw [z] at e;exact ea _ e)];exact e) (reps_thaw ea r (by rw [D.pure] at h;exact h))
 | _,_,.lst _ _ _,h=>by rw [D.pure] at h;cases h
 | _,_,.frz _ _,h=>by rw [D.pure] at h;cases h
 | _,_,.dK _ _ _ _,h=>by rw [D.pure] at h;cases h
 | _,_,.dT _ _ _ _,h=>by rw [D.pure] at h;cases h
 | _,_,.fdK _ _ _,h=>by rw [D.pure] at h;cases h
 | _,_,.fdT _ _ _,h=>by rw [D.pure] at h;cases h
theorem reps_thaw {P : Addr->Prop} {H : Hp} {a : Addr} {u : HO} (ea : ∀ xs,H a ≠ some (.tup xs)) : ∀ {v : List V} {d : List D},Reps P H v d->D.pures d = true->Reps P (upd H a u) v d
 | _,_,.nil,_=>.nil
 | _,_,.cons r t,h=>by
  rw [D.pures,Bool.and_eq_true] at h
  exact .cons (rep_thaw ea r h.1) (reps_thaw ea t h.2)
end
theorem pures_snoc : ∀ {acc : List D} {y : D},D.pures acc = true->y.pure = true->D.pures (acc ++ [y]) = true
 | [],y,_,h=>by show (y.pure && true) = true;rw [h];rfl
 | x :: acc,y,h,hy=>by
  rw [D.pures,Bool.and_eq_true] at h
  show (x.pure && D.pures (acc ++ [y])) = true
  rw [h.1,pures_snoc h.2 hy]
  rfl
theorem repk_vals {P : Addr->Prop} {H : Hp} : ∀ {kvs : List (Key × V)} {ds : List (D × D)},RepK P H kvs ds->Reps P H (kvs.map (·.2)) (ds.map (·.2))
 | _,_,.nil=>.nil
 | _,_,.cons r t=>.cons r (repk_vals t)
section
variable {X : Cx} {scope : Scope} {x c : Str} {i n : Nat} {elt : Expr} {fe : FE} {re : Bool} {np ap cp cpos pos : Pos}
end
end Mi
end
section
set_option maxRecDepth 100000
namespace Mi
open PySem L2 PySem.SeqAt PySem.Spec PyProof.Rows AutoSeq1 MeetsSeq MeetsSeq2 MeetsSeq3
section
variable {P : Program} {w : World} {l b : Addr} {xs ys : Array Value} {n m : Nat} {dd de : Option Addr} {sl sm : Array (Option Value)} {e : Nat->Bool}
end
variable [KFrag]
section
variable {X : Cx} {pins : List (Addr × Obj)} {σ : L2.St} {H : Hp} {s : Shared}
end
end Mi
end
section
set_option maxRecDepth 100000
namespace Mi
open PySem L2 PySem.SeqAt PySem.Spec PyProof.Rows
variable [KFrag]
structure FunD (K : PySem.W.Frag) (x qual : Str) (st : Stmt) (f : Addr) (fd : FuncData) (T : Addr) (its : Array Value) : Prop where
 ex : ∃ (oc : Value) (od : Option Addr) (kV doc pm : Value) (an : Option Addr) (cdv ct : Value) (osl : Array (Option Value)),
  fd = PySem.W.fnOf x qual (defArgs st) (defBody st) (defScope st) (.ref T) kV doc pm an cdv ct/\K.lookup f = some ⟨oc,od,.func fd,osl⟩/\PySem.W.codeIn K cdv qual = true
 kp : PySem.W.keepIn K (.ref f) = true
 df : ∃ (tc : Value) (td : Option Addr) (tn : Nat) (tl : Array (Option Value)),K.lookup T = some ⟨tc,td,.seq its tn,tl⟩
section
variable {P : Program} {w : World} {K : PySem.W.Frag} {mg : Str->Option Value} {base : Heap} {x qual : Str} {st : Stmt} {fad T : Addr} {its : Array Value} {fd : FuncData} {N ps : List Str} {k : Nat} {f : FS}
theorem fn_okD (F : FunD K x qual st fad fd T its) (S : FnScope N ps (defScope st)) (own : Nat->Bool) (hown : ∀ i,i < ps.length->own i = false)
  (hbody : ∀ (cdv : Value) (A : Around) (outer : List Env) (s : Shared) (H : Hp) (E : XK),Room k (A.deeper (envOfC qual (defScope st) s.heap.objs.size fad cdv))->PSs (cxOf CX0 P w K mg base N qual (defScope st) fad cdv A outer s H E).nox (defBody st) (tS own f)) : FnOk P w K mg base CX0 (k + 1) fad fd ps (spD (fnS ps.length N.length f) ps.length):=by
 obtain ⟨oc,od,kV,doc,pm,an,cdv,ct,osl,rfl,lk,hcd⟩:=F.ex
 exact fn_of lk hcd S (fun vs H Q E h=>spD_len h) fun A outer s H vs Q E hr h=>⟨_,(hbody cdv A outer s H E hr).nox,fn_body hown h⟩
end
structure CalD (P : Program) (w : World) (K : PySem.W.Frag) (mg : Str->Option Value) (base : Heap) (k : Nat) (x kw : Str) (n : Nat) (df : D) (f : List D->Res D) : Prop where
 ex : ∃ (fad : Addr) (fd : FuncData) (ps : List Str) (u : Value) (v : V),FnOk P w K mg base CX0 k fad fd ps (spD f (n + 1))/\mg x = some (.ref fad)/\PySem.W.keepIn K (.ref fad) = true/\Binds K fd ps []/\Binds K fd ps [u]/\RelV v u/\(∀ H : Hp,Rep All H v df)/\
  ∀ (s : Shared) (us : List Value) (y : Value),K.In s.heap->us.length = n->BindsTo s fd ⟨us,[(kw,y)]⟩ (ps.zip (us ++ [y]))
section
variable {X : Cx} {e ke : Expr} {es : List Expr} {pos p kp : Pos} {fs : FA} {rr re : Bool} {fk : FE} {x kw : Str} {k k' n : Nat} {df : D} {f : List D->Res D}
theorem me_callD1 (C : CalD X.prog X.w X.K X.mg X.base k x kw n df f) (hr : Room k' X.A) (hkk : k<=k') (hg : Gl X x) (ha : PA X (e :: es) (gA fs rr)) (hdb : (x == ("__debug__" : Str)) = false:=by decide) (he : starEach (e :: es) X.env = (false,eval e X.env) :: starEach es X.env:=by rfl) (hpl : (backTo pos (starEach es X.env)).any (·.1) = false:=by rfl) :
  PE X (.Call (.Name x p) (e :: es) [] pos) (gE (bCall (fun ds=>argN (n + 1) f (ds ++ [df])) fs) true):=by
 obtain ⟨fad,fd,ps,u,v,F,hm,hk,hb,hb1,ru,rv,_⟩:=C.ex
 refine PE.imp (pe_call F (hr.mono hkk) hg hm hk hb1 (.cons ru .nil) pass0 ha hdb he hpl) fun σ H Q h0=>?_
 obtain ⟨ρ,d,E,h,q⟩:=h0
 obtain ⟨ds,h1,h⟩:=bindE h
 unfold argN at h
 split at h
 ·rename_i hl
  exact ⟨ρ,ds,E,h1,fun vs H1 s1 r1 _=>⟨ds ++ [df],d,of_decide_eq_true hl,r1.append (.cons (rv H1) .nil),h,q.imp s1 id⟩⟩
 ·cases h
end
end Mi
end
section
set_option maxRecDepth 100000
namespace Mi
open PySem L2 PySem.SeqAt PySem.Spec PyProof.Rows
noncomputable def addT : D->D->Res D
 | .tup a,.tup b=>if decide (a.length + b.length<=lim) then .ok (.tup (a ++ b)) else .bad
 | _,_=>.bad
noncomputable def revD : D->Res D
 | .lst xs=>if D.pures xs then .ok (.lst xs.reverse) else .bad
 | _=>.bad
noncomputable def zipPut : List D->List D->List (D × D)->List (D × D)
 | k :: ks,v :: vs,m=>zipPut ks vs (putD m k v)
 | _,_,m=>m
noncomputable def zipDct : List D->Res D
 | [.tup xs,.tup ys]=>if decide (xs.length<=1000) && decide (ys.length = xs.length) && xs.all flatKey && D.pures ys then .ok (.dct (zipPut xs ys [])) else .bad
 | _=>.bad
noncomputable def whlS (c : FT) (body : FS) : Nat->List D->Res Fl
 | 0,_=>.bad
 | n + 1,ρ=>do
  let k <- c ρ
  if k then (do
   let r <- body ρ
   match r with
   | .nx ρ'=>whlS c body n ρ'
   | .ct ρ'=>whlS c body n ρ'
   | .bk ρ'=>.ok (.nx ρ')
   | .rt d=>.ok (.rt d))
  else .ok (.nx ρ)
noncomputable def sWhl (c : FT) (body : FS) : FS:=fun ρ=>whlS c body 1000 ρ
noncomputable def sPopL (i j : Nat) (f : FE) : FS:=fun ρ=>do
 let k <- f ρ
 match ρ.getD i .undef,k with
 | .lst xs,.int k=>if decide (0<=k) && decide (k<=1000000) then (match xs[k.toNat]? with | some x=>.ok (.nx ((ρ.set i (.lst (xs.eraseIdx k.toNat))).set j x)) | none=>.bad) else .bad
 | _,_=>.bad
noncomputable def sClr (i : Nat) : FS:=fun ρ=>match ρ.getD i .undef with
 | .dct kvs=>if kvs.all (fun p=>!isTup p.1) then .ok (.nx (ρ.set i (.dct []))) else .bad
 | _=>.bad
noncomputable def lenX : List D->Res D
 | [.dct kvs]=>if kvs.all (fun p=>!isTup p.1) then .ok (.int kvs.length) else .bad
 | ds=>lenD ds
noncomputable def fzD (i : Nat) (kvs : List (D × D)) (ρ : List D) : List D:=(ρ.map fun d=>if d.pure then d else .undef).set i (.fdc kvs)
noncomputable def bCompD (n i : Nat) (t : D->Res (List D)) (c : FT) (f : FE) : FE:=fun ρ=>do
 let d <- bVar i ρ
 match d with
 | .dct kvs=>if decide (kvs.length<=lim) && (kvs.all (fun p=>!isTup p.1) && D.pures (kvs.map (·.2))) then (do
   let ys <- cfold (cstep n t c f false (fzD i kvs ρ)) [] (keysD kvs)
   pure (.lst ys)) else .bad
 | _=>.bad
noncomputable def sFzD (i : Nat) (t : D->List D->Res (List D)) (body g : FS) : FS:=fun ρ=>do
 let d <- bVar i ρ
 match d with
 | .dct kvs=>if kvs.all (fun p=>!isTup p.1) then (do
   let r <- forS t body (keysD kvs) (ρ.set i (.fdc kvs))
   match r with
   | .nx ρ'=>(do
    let r2 <- g ρ'
    match r2 with
    | .rt d=>.ok (.rt d)
    | _=>.bad)
   | .rt d=>.ok (.rt d)
   | _=>.bad) else .bad
 | _=>.bad
variable [KFrag]
section
variable {X : Cx} {pos : Pos}
theorem om_addT : OpR X (binaryOp .Add) (r2 addT false):=by
 intro pins s σ H x y v u Q I rx ry h
 obtain ⟨a,b,d,p,q,e,k⟩:=h
 unfold addT at e
 split at e
 ·rename_i da db
  split at e
  ·rename_i hl
   cases e
   cases p with
   | @tup l1 xs1 _ e1 r1=>
    cases q with
    | @tup l2 xs2 _ e2 r2=>
     cases rx
     cases ry
     have hz : xs1.length + xs2.length<=sizeLine:=by rw [r1.length,r2.length];exact lim_line hl
     obtain ⟨its,w1,p1,_⟩:=I.tuple (.of e1)
     obtain ⟨its2,w2,p2,_⟩:=I.tuple (.of e2)
     obtain ⟨⟨cls,dd,data,sl⟩,ho,hc,n,hd⟩:=id p1
     obtain ⟨⟨cls2,dd2,data2,sl2⟩,ho2,hc2,n2,hd2⟩:=id p2
     simp only at hc hd hc2 hd2
     by_cases hv : its = []
     ·have : xs1 = []:=w1.nil_iff.mp hv
      subst this
      cases r1
      refine concat_meets ⟨_,ho,hc⟩ ⟨_,ho2,hc2⟩ noFill_tuple_add seq_tuple_add PySem.F.slot_tuple_add PySem.F.entry_tuple_add (PySem.F.args_tuple_add_2 _ _)
       (tuple_addW0 l1 l2 its.toArray its2.toArray n n2 dd dd2 sl sl2 (by simp [hv])) ⟨by subst hc hd;exact ho,by subst hc2 hd2;exact ho2,.ref l2,H,I,rfl,?_⟩
      exact k.self (.tup e2 r2) (fun z=>by cases z)
     ·refine op_catT pins s σ H (.ref l1) (.ref l2) _ _ Q I rfl rfl ⟨l1,l2,xs1,xs2,rfl,rfl,.of e1,.of e2,fun z=>hv (w1.nil_iff.mpr z),hz,fun z=>?_,fun z p hp=>?_⟩
      ·subst z
       cases r2
       rw [List.append_nil] at k
       exact k.self (.tup e1 r1) (fun z=>by cases z)
      ·have sp : Same H (upd H p (.tup (xs1 ++ xs2))):=Same.upd hp
       exact k _ _ sp (.tup upd_same ((r1.append r2).same sp)) fun z=>by cases z
  ·cases e
 ·cases e
theorem cl_lenX (hK : KFrag.K = X.K) : CallR X (.builtin "len") (rs lenX true):=by
 intro pins s σ H xs us Q I vr ⟨ds,d,r,e,k⟩
 unfold lenX at e
 split at e
 ·rename_i ds
  split at e
  ·rename_i hb
   cases e
   obtain ⟨vv,uu,rfl,rfl,r,v⟩:=one_of r vr
   obtain ⟨a,kvs,rfl,hu,rl⟩ : ∃ a kvs,vv = .ref a/\DV H a kvs/\kvs.length = ds.length:=by
    cases r with
    | dK e _ rk _=>exact ⟨_,_,rfl,.inl e,by have:=(repk_vals rk).length;simpa using this⟩
    | dT e _ rt _=>
     cases rt with
     | nil=>exact ⟨_,[],rfl,.inr ⟨rfl,e⟩,rfl⟩
     | cons r t=>simp [isTup] at hb
   cases v
   obtain ⟨z,hs,vs,rel,dd⟩:=dv_dict I hu
   refine call_len_dict hs dd (by rw [<- rel.length];rw [sizeLine_eq] at z;lia) ?_
   rw [<- rel.length,rl]
   exact ⟨.int _,H,I.tok _,⟨_,rfl⟩,k.int⟩
  ·cases e
 ·exact cl_len hK pins s σ H xs us Q I vr ⟨_,d,r,e,k⟩
theorem ms_whl {own : Nat->Bool} {c : Expr} {body : List Stmt} {gc : FT} {fb : FS} (hp : PassesOwn (model X.prog X.w) X.A X.env X.xe) (hc : PT X c (gT gc)) (hb : PSs X body (tS own fb)) : PS X (.While c body [] pos) (tS own (sWhl gc fb)):=
 PS.imp (ps_while hp hc hb) fun D σ H ⟨ρ,fl,E,h,q⟩=>by
 refine ⟨fun m σ' H'=>∃ ρ' ,ES own H' σ' ρ'/\whlS gc fb m ρ' = .ok fl/\kS own D σ' H' fl,⟨1000,ρ,E,h,q⟩,?_⟩
 rintro m σ H ⟨ρ,E,h,q⟩
 cases m with
 | zero=>cases h
 | succ m=>
  rw [whlS] at h
  obtain ⟨k,h1,h2⟩:=bindE h
  refine ⟨ρ,k,E.er,h1,fun H1 s=>?_⟩
  cases k with
  | true=>
   rw [if_pos rfl]
   rw [if_pos rfl] at h2
   obtain ⟨r,h3,h4⟩:=bindE h2
   refine ⟨fun σ' H'=>∃ ρ',ES own H' σ' ρ'/\whlS gc fb m ρ' = .ok fl/\kS own D σ' H' fl,fun σ' H' w=>⟨m,Nat.lt_succ_self m,w⟩,ρ,r,E.same s,h3,?_⟩
   have q1:=q.step (.same s)
   cases r with
   | nx ρ'=>exact fun σ' H' ku E'=>⟨ρ',E',h4,q1.step ku⟩
   | ct ρ'=>exact fun σ' H' ku E'=>⟨ρ',E',h4,q1.step ku⟩
   | bk ρ'=>cases h4;exact fun σ' H' ku E'=>q1 σ' H' ku E'
   | rt d=>cases h4;exact q1
  | false=>
   rw [if_neg (by simp)]
   rw [if_neg (by simp)] at h2
   cases h2
   exact (q.step (.same s)) σ H1 (fun a o e n=>⟨e,n⟩) (E.same s)
end
end Mi
end
section
set_option maxRecDepth 100000
namespace Mi
open PySem L2 PySem.SeqAt PySem.Spec PyProof.Rows
variable [KFrag]
section
variable {X : Cx} {own : Nat->Bool} {e : Expr} {fe : FE} {re : Bool} {pos : Pos}
theorem ms_popL {i j : Nat} {x y : Str} {p1 py apos cpos : Pos} (ho : own i = true) (hN : X.N[i]? = some x) (hv : Vis X.env.scope x) (hnd : X.N.Nodup) (hj : X.N[j]? = some y) (hy : Loc X.env.scope y) (hoj : own j = false) (he : PE X e (gE fe re)) (hd : (x == ("__debug__" : Str)) = false:=by decide) (hcd : (x == ("__classdict__" : Str)) = false:=by decide)
  (hbase : attributeBase (.Name x p1) "pop" X.env (eval (.Name x p1) X.env) = eval (.Name x p1) X.env:=by rfl)
  (hs1 : starEach [e] X.env = (false,eval e X.env) :: starEach [] X.env:=by rfl)
  (hfew : ((backTo cpos (starEach [e] X.env)).all (fun x=>!x.1) && (backToKw cpos (keywordEach [] X.env)).all (fun x=>x.1.isSome)
   && decide (([e] : List Expr).length + ([] : List Keyword).length + (if ([] : List Keyword).isEmpty then 0 else 1) < 30)) = true:=by rfl)
  (hline : (apos.endLine == cpos.line) = true:=by rfl)
  (hs : swapsWith (.Call (.Attribute (.Name x p1) "pop" apos) [e] [] cpos) (some (.Name y py)) pos.line X.env = pure false:=by rfl) (hf : X.fn y = true\/X.env.scope.names.lookup y = some .local:=by first | exact .inl rfl | exact .inr rfl | assumption) :
  PS X (.Assign [.Name y py] (.Call (.Attribute (.Name x p1) "pop" apos) [e] [] cpos) pos) (tS own (sPopL i j fe)):=
 PS.imp (ps_set hnd hj hy (pe_bm PySem.F.plainAttrs_list PySem.F.slot_list_pop PySem.F.type_list_pop mt_popAt (pe_var hN hv hd hcd) (pa_cons he pa_nil hs1) hbase hfew hline hs1 rfl) hs hf) fun D' σ H ⟨ρ,fl,E,h,q⟩=>by
 obtain ⟨d,h1,h2⟩:=bindE h
 split at h2
 ·rename_i xs k hx
  split at h2
  ·rename_i hk
   rw [Bool.and_eq_true,decide_eq_true_eq,decide_eq_true_eq] at hk
   split at h2
   ·rename_i dx hdx
    cases h2
    obtain ⟨a,o,hσ,r,hin,ha,hm⟩:=E.ownAt ho (by rw [hx];intro z;cases z)
    rw [hx] at r hin
    obtain ⟨vs,hl,rr⟩:=lst_at r
    obtain ⟨v,hvx,rv⟩:=rr.get hdx
    refine ⟨_,hσ,.inl ⟨rfl,vs,.of hl⟩,ρ,_,E.er,h1,fun u H' s ru _=>?_⟩
    cases ru
    have hlt : k.toNat < vs.length:=(List.getElem?_eq_some_iff.mp hvx).1
    refine ⟨a,vs,k,k.toNat,v,rfl,rfl,s _ _ hl,by lia,by lia,?_,hvx,?_⟩
    ·unfold seqIndex?
     have h3 : ¬ k < 0:=by lia
     have h4 : k < vs.length:=by lia
     first
      | (simp only [h3,if_false,hk.1,h4,and_self,if_true];done)
      | (simp [h3,hk.1,h4];done)
      | (simp [h3,hk.1,h4,hlt])
    ·have E':=E.same s
     have hl':=s _ _ hl
     have hin' : D.pures xs = true:=hin
     have pall : ∀ y ∈ xs,y.pure = true:=fun y hy=>pures_mem.mp hin' y hy
     have pdx : dx.pure = true:=pall dx (List.mem_of_getElem? hdx)
     have pe : D.pures (xs.eraseIdx k.toNat) = true:=pures_mem.mpr fun y hy=>pall y (List.mem_of_mem_eraseIdx hy)
     have er : ∀ {vs : List V} {ds : List D} (n : Nat),Reps All H' vs ds->Reps All H' (vs.eraseIdx n) (ds.eraseIdx n):=by
      intro vs ds n r
      induction n generalizing vs ds with
      | zero=>cases r with
       | nil=>exact .nil
       | cons _ t=>exact t
      | succ n ih=>cases r with
       | nil=>exact .nil
       | cons r t=>exact .cons r (ih t)
     obtain ⟨E2,k2⟩:=E'.mut (o:=.lst (vs.eraseIdx k.toNat)) (d:=.lst (xs.eraseIdx k.toNat)) ho hσ rfl (.lst upd_same trivial ((er k.toNat (rr.same s)).upd pe hl' rfl)) pe
     have r1:=(Reps.cons (rv.same s) .nil).upd (o:=.lst (vs.eraseIdx k.toNat)) (by rw [D.pures,pdx];rfl) hl' rfl
     cases r1 with
     | cons r1 _=>
      have E3:=E2.set hoj (v:=v) (d:=dx) (r1.ofPure pdx)
      exact q _ _ (((KU.same s).trans k2).trans fun b ob eb nb=>⟨eb,by rw [own_set hoj];exact nb⟩) E3
   ·cases h2
  ·cases h2
 ·cases h2
theorem upd_upd {H : Hp} {a : Addr} {o o' : HO} : upd (upd H a o) a o' = upd H a o':=by
 funext b
 by_cases h : b = a
 ·subst h;rw [upd_same,upd_same]
 ·rw [upd_ne h,upd_ne h,upd_ne h]
theorem mt_dclear : MtR X "dict.clear" (fun x xs H Q=>∃ a kvs,x = .ref a/\xs = []/\DV H a kvs/\Q .non (upd H a (.dK []))):=by
 intro pins s σ H x xs v us Q I rx rxs ⟨a,kvs,e1,e2,hu,q⟩
 subst e1 e2
 cases rx
 cases rxs
 rcases hu with h | ⟨_,h⟩
 ·exact d_clear I h fun s' I'=>⟨.non,_,I',rfl,q⟩
 ·refine d_clear (Inv_emptyK I h) upd_same fun s' I'=>⟨.non,_,I',rfl,?_⟩
  rw [upd_upd]
  exact q
theorem ms_clr {i : Nat} {x : Str} {p1 apos cpos : Pos} (ho : own i = true) (hN : X.N[i]? = some x) (hv : Vis X.env.scope x) (hd : (x == ("__debug__" : Str)) = false:=by decide) (hcd : (x == ("__classdict__" : Str)) = false:=by decide)
  (hbase : attributeBase (.Name x p1) "clear" X.env (eval (.Name x p1) X.env) = eval (.Name x p1) X.env:=by rfl)
  (hline : (apos.endLine == cpos.line) = true:=by rfl)
  (hs : swapsWith (.Call (.Attribute (.Name x p1) "clear" apos) [] [] cpos) none pos.line X.env = pure false:=by rfl) :
  PS X (.Expr (.Call (.Attribute (.Name x p1) "clear" apos) [] [] cpos) pos) (tS own (sClr i)):=
 PS.imp (ps_expr (pe_bm0 PySem.F.plainAttrs_dict PySem.F.slot_dict_clear PySem.F.type_dict_clear mt_dclear (pe_var hN hv hd hcd) hbase hline) hs) fun D' σ H ⟨ρ,fl,E,h,q⟩=>by
 unfold sClr at h
 split at h
 ·rename_i ds hx
  split at h
  ·rename_i hb
   cases h
   obtain ⟨a,o,hσ,r,hin,ha,hm⟩:=E.ownAt ho (by rw [hx];intro z;cases z)
   rw [hx] at r hin
   obtain ⟨kvs,hu⟩ : ∃ kvs,DV H a kvs:=by
    cases r with
    | dK e _ rk _=>exact ⟨_,.inl e⟩
    | dT e _ rt _=>
     cases rt with
     | nil=>exact ⟨[],.inr ⟨rfl,e⟩⟩
     | cons r t=>simp [isTup] at hb
   have ty : tyV X.K "dict" (.ref a) H:=by
    rcases hu with h | ⟨_,h⟩
    ·exact .inr (.inr (.inl ⟨rfl,.inl ⟨_,h⟩⟩))
    ·exact .inr (.inr (.inl ⟨rfl,.inr ⟨_,h⟩⟩))
   refine ⟨.ref a,hσ,ty,a,kvs,rfl,rfl,hu,?_⟩
   obtain ⟨E2,k2⟩:=E.mut (o:=.dK []) (d:=.dct []) ho hσ rfl (.dK upd_same trivial .nil List.nodup_nil) rfl
   exact q _ _ k2 E2
  ·cases h
 ·cases h
theorem me_dct2 {k1 k2 : Str} {v1 v2 : Int} {j1 j2 j3 j4 : Nat} {p1 p2 p3 p4 : Pos} (hne : k1 ≠ k2) : PE X (.Dict [some (.Constant (.str k1) j1 p1),some (.Constant (.str k2) j2 p2)] [.Constant (.int v1) j3 p3,.Constant (.int v2) j4 p4] pos) (gE (bC (.dct [(.str k1,.int v1),(.str k2,.int v2)])) true):=
 PE.imp (pe_disp (pps_cons pe_str pe_int (pps_cons pe_str pe_int pps_nil)) rfl rfl (by simp) (Nat.le_of_ble_eq_true rfl)) fun σ H Q ⟨ρ,d,E,h,q⟩=>by
 cases h
 intro p hp
 refine ⟨upd_same,[(.inr k1,.int v1),(.inr k2,.int v2)],rfl,Nat.le_of_ble_eq_true rfl,?_⟩
 have e : mergeK [] [(Sum.inr k1,V.int v1),(Sum.inr k2,V.int v2)] = [(Sum.inr k1,V.int v1),(Sum.inr k2,V.int v2)]:=by
  show putK (putK [] (Sum.inr k1) (V.int v1)) (Sum.inr k2) (V.int v2) = _
  rw [show putK ([] : List (Key × V)) (Sum.inr k1) (V.int v1) = [(Sum.inr k1,V.int v1)] from rfl,putK_neg (by intro z;cases z;exact hne rfl)]
  rfl
 rw [e,upd_upd]
 have nd : (([(Sum.inr k1,V.int v1),(Sum.inr k2,V.int v2)] : List (Key × V)).map (·.1)).Nodup:=by
  simp only [List.map_cons,List.map_nil,List.nodup_cons,List.mem_singleton,List.not_mem_nil,not_false_eq_true,List.nodup_nil,and_true]
  intro z
  cases z
  exact hne rfl
 exact q _ _ (Same.upd hp) (.dK upd_same trivial (.cons (k:=.inr k1) (.int v1) (.cons (k:=.inr k2) (.int v2) .nil)) nd) fun _=>.dK upd_same hp (.cons (k:=.inr k1) (.int v1) (.cons (k:=.inr k2) (.int v2) .nil)) nd
theorem fm_congr {α β : Type} {f g : α->Option β} : ∀ l : List α,(∀ a ∈ l,f a = g a)->l.filterMap f = l.filterMap g
 | [],_=>rfl
 | a :: l,h=>by rw [List.filterMap_cons,List.filterMap_cons,h a (List.mem_cons_self ..),fm_congr l fun b hb=>h b (List.mem_cons_of_mem _ hb)]
theorem rev_pick : ∀ its : List Value,(List.range its.length).filterMap (fun k=>its[its.length - 1 - k]?) = its.reverse
 | []=>rfl
 | a :: r=>by
  rw [List.length_cons,List.range_succ,List.filterMap_append,List.reverse_cons]
  have e1 : (List.range r.length).filterMap (fun k=>(a :: r)[r.length + 1 - 1 - k]?) = (List.range r.length).filterMap (fun k=>r[r.length - 1 - k]?):=by
   apply fm_congr
   intro k hk
   have hk:=List.mem_range.mp hk
   have : r.length + 1 - 1 - k = (r.length - 1 - k) + 1:=by lia
   rw [this,List.getElem?_cons_succ]
  rw [e1,rev_pick r]
  congr 1
  simp
theorem slicePick_rev (its : List Value) : slicePick its.toArray none none (some (-1)) = its.reverse.toArray:=by
 have hr : sliceRange ((its.length : Int) - 1) (-1) (-1) = (List.range its.length).map fun k=>its.length - 1 - k:=picked_rev its.length
 have hb : sliceBounds none none (some (-1)) its.toArray.size = (((its.length : Int) - 1),-1,-1):=rfl
 unfold slicePick
 rw [hb]
 show ((sliceRange ((its.length : Int) - 1) (-1) (-1)).filterMap (its.toArray[·]?)).toArray = _
 rw [hr,List.filterMap_map,<- rev_pick its]
 exact congrArg List.toArray (fm_congr _ fun k _=>by simp)
theorem me_rev {j : Nat} {p1 p2 p3 : Pos} (he : PE X e (gE fe re)) : PE X (.Subscript e (.Slice none none (some (.UnaryOp .USub (.Constant (.int 1) j p1) p3)) p2) pos) (gE (b1 revD fe) true):=by
 intro pins s σ H Q I ⟨ρ,d,E,h,q⟩
 obtain ⟨x,h1,h2⟩:=bindE h
 refine Subscript_ (thn (he pins s σ H (fun v H1=>Same H H1/\Rep All H1 v x) I ⟨ρ,x,E,h1,fun v H1 s1 r1 _=>⟨s1,r1⟩⟩) fun v s1 ⟨xv,H1,I1,r1,sm,rx⟩=>?_)
 refine wpAny_Slice ?_
 rw [evalPart_none]
 refine wpAny_pure (wpAny_pure ?_)
 refine thn (po_some (me_un om_neg (me_int (X:=X) (i:=1) (j:=j) (pos:=p1))) pins s1 σ H1 (fun st H2=>st = some (-1)/\Same H1 H2) I1 ⟨ρ,.int (-1),E.same sm,rfl,fun v H2 s2 r2 _=>by cases r2;exact ⟨-1,rfl,rfl,s2⟩⟩) fun vs s2 ⟨st,H2,I2,ps,est,sm2⟩=>?_
 subst est
 have I4 : Inv X pins σ H2 { s2 with heap:=s2.heap.push { cls:=.type "slice",data:=.fields #[.none,.none,vs] } }:=I2.kept (t':=s2.toks) fun b ob q=>Heap.get?_push_of_some _ q
 unfold revD at h2
 split at h2
 ·rename_i ds
  split at h2
  ·rename_i hp
   cases h2
   obtain ⟨l,xs,rfl,hl,rr⟩:=(rx.same sm2).lstAt (K:=X.K)
   cases r1
   obtain ⟨its,r,ht,hz⟩:=I4.list hl
   have hlen:=r.length
   refine tail_any (ops:=[.ref l,.ref s2.heap.objs.size]) (T := "list") ht.isList.typeIs slot_list_getitem.lookup ?_ (by with_unfolding_all rfl)
   refine wpAny_getItem_list_slice ht.isList (Heap.IsSliceOf.new ..) .none .none ps (by simp) ?_ (by rw [List.size_toArray] <;> lia)
   rw [slicePick_rev]
   refine ⟨.ref _,_,I4.laid (t':=s2.toks) (o:=.lst xs.reverse) (fun b ob q=>Heap.get?_push_of_some _ q) (Nat.le_refl _) ⟨by rw [List.length_reverse];exact hz,_,0,r.reverse,Heap.get?_push_size _ rfl⟩,rfl,?_⟩
   have hfr : H2 (s2.heap.push { cls:=.type "slice",data:=.fields #[.none,.none,vs] }).objs.size = none:=I4.hok.fresh (Nat.le_refl _)
   have sp:=Same.upd (o:=.lst xs.reverse) hfr
   have rev : ∀ {P : Addr->Prop} {vs : List V} {ds : List D},Reps P H2 vs ds->Reps P H2 vs.reverse ds.reverse:=by
    intro P vs ds r
    induction vs generalizing ds with
    | nil=>cases r;exact .nil
    | cons v vs ih=>cases r with
     | cons r t=>
      rw [List.reverse_cons,List.reverse_cons]
      exact (ih t).snoc r
   refine q _ _ ((sm.trans sm2).trans sp) (.lst upd_same trivial ((rev rr).same sp)) fun _=>.lst upd_same ?_ ((rev (rr.ofPure hp)).same sp)
   exact (sm.trans sm2).free hfr
  ·cases h2
 ·cases h2
end
end Mi
end
section
set_option maxRecDepth 100000
namespace Mi
open PySem L2 PySem.SeqAt PySem.Spec PyProof.Rows
variable [KFrag]
noncomputable def Itk (a : Addr) (o : Obj) (u : HO) (kvs : List (Key × V)) : It where
 go:=fun i H=>H a = some (.frz o u)/\∃ p,kvs[i]? = some p
 yld:=fun i H x H'=>H' = H/\∃ p,kvs[i]? = some p/\x = kV p.1
 stop:=fun i H=>H a = some (.frz o u)/\kvs.length<=i
theorem is_rel {P : Program} {w : World} {k : Key} {v : Value} (h : (mixKind P w).is k v = true) : RelV (kV k) v:=by
 have h : keyIs k v = true:=h
 rcases keyIs_shape h with ⟨i,t,rfl,rfl⟩ | ⟨x,t,rfl,rfl⟩
 ·exact ⟨t,rfl⟩
 ·exact ⟨t,rfl⟩
theorem turn_keys {P : Program} {w : World} {K : PySem.W.Frag} {tg : Expr} {a it : Addr} {o : Obj} {u : HO} {kvs : List (Key × V)} {vs : List (Key × Value)} {ep : Nat} (hd : ∀ h : Heap,h.get? a = some o->h.DictAt (mixKind P w) a vs ep) (rel : KV kvs vs) :
  Turn P w K tg (Itk a o u kvs) [it] it (fun i h=>h.IsKeyIter it a i vs.length ep) where
 mem:=by simp
 obj:=fun i h st b hb=>by
  have e : b = it:=by simpa using hb
  subst e
  obtain ⟨o,e,c,d⟩:=st
  exact ⟨o,e,fun v z=>by rw [d] at z;cases z⟩
 keep:=fun i h h' st k=>st.at fun o e=>k it (by simp) o e
 item:=by
  intro X hP hw hK hc i pins s σ H E I hf st hg
  subst hP hw hK
  obtain ⟨ea,⟨k,x⟩,hx⟩:=hg
  obtain ⟨px,_⟩:=I.hok a _ ea
  obtain ⟨v,hv,rv⟩:=kv_get rel hx
  obtain ⟨f0,f1,f2,f3,f4,f5⟩:=hf it (by simp)
  refine wpAny_pyNext_dict_item st (hd _ px) hv fun key h' hk st' sb=>?_
  have I1 : Inv X pins σ H { s with heap:=h' }:=I.turned (t':=s.toks) (fun b o hb e=>(sb.2 b hb).trans e) f0 f1 f3 f4 f5
  obtain ⟨o',e,c,d⟩:=id st'
  exact ⟨key,rfl,go_of (s:={ s with heap:=h' }) e c d (by decide) ⟨kV k,H,I1,is_rel hk,⟨rfl,_,hx,rfl⟩,st',fun b hb=>(hf b hb).1⟩⟩
 done:=by
  intro X hP hw hK hc i pins s σ H E I hf st hg
  subst hP hw hK
  obtain ⟨ea,hx⟩:=hg
  obtain ⟨px,_⟩:=I.hok a _ ea
  obtain ⟨f0,f1,f2,f3,f4,f5⟩:=hf it (by simp)
  have hl : kvs.length = vs.length:=Paired.length rel
  exact wpAny_pyNext_dict_end (I.ok.hd hc) st (hd _ px) (List.getElem?_eq_none_iff.mpr (by lia)) fun h' eb=>⟨rfl,I.turned (t':=s.toks) (fun b o hb e=>eb b o hb e) f0 f1 f3 f4 f5⟩
 self:=fun _ _ _ _ _ st h=>wpAny_pyIter_keyiter st h
section
variable {X : Cx} {pins : List (Addr × Obj)} {σ : L2.St} {H : Hp} {s : Shared} {a : Addr} {kvs : List (Key × V)}
theorem Inv_thaw {o : Obj} {u : HO} (I : Inv X pins σ H s) (e : H a = some (.frz o u)) (hn : ∀ o u,X.H₀ a ≠ some (.frz o u)) : Inv X pins σ (upd H a u) s:=by
 have ne : ∀ b,H b = none->b ≠ a:=fun b h z=>by subst z;rw [e] at h;cases h
 have keepT : ∀ b xs,H b = some (.tup xs)->upd H a u b = some (.tup xs):=fun b xs h=>by
  rw [upd_ne (fun z=>by subst z;rw [e] at h;cases h)];exact h
 have keepO : ∀ b x,H b = some (.own x)->upd H a u b = some (.own x):=fun b x h=>by
  rw [upd_ne (fun z=>by subst z;rw [e] at h;cases h)];exact h
 refine ⟨I.ok,I.os,I.bare,⟨I.base.keep,I.base.slot,fun b o h1 h2 h3=>?_,I.base.there,fun b xs h=>?_,fun b o' u' h=>?_,fun b ps h=>?_⟩,I.loc,I.cell,?_,fun x c h=>?_,fun p hp=>?_,fun b ob h=>?_,I.len⟩
 ·have:=I.base.free b o h1 h2 h3
  rw [upd_ne (ne b this)];exact this
 ·exact keepT b xs (I.base.tups b xs h)
 ·have:=I.base.frzs b o' u' h
  rw [upd_ne (fun z=>by subst z;exact hn _ _ h)];exact this
 ·obtain ⟨more,h1⟩:=I.base.tbls b ps h
  refine ⟨more,?_⟩
  rw [upd_ne (fun z=>by subst z;rw [e] at h1;cases h1)];exact h1
 ·rw [upd_ne (ne _ I.free)];exact I.free
 ·have:=I.freeC x c h
  rw [upd_ne (ne _ this)];exact this
 ·obtain ⟨h1,h2,h3⟩:=I.pin p hp
  exact ⟨h1,by rw [upd_ne (ne _ h2)];exact h2,h3⟩
 ·by_cases hb : b = a
  ·subst hb
   rw [upd_same] at h
   cases h
   obtain ⟨_,h2⟩:=I.hok b _ e
   exact h2.stay (fun _ _ _ q=>q) (fun c hc=>keepO c b hc) keepT
  ·rw [upd_ne hb] at h
   exact (I.hok b _ h).stay (fun _ _ _ q=>q) (fun c hc=>keepO c b hc) keepT
theorem dv_nofrz (I : Inv X pins σ H s) (hu : DV H a kvs) : ∀ o u,X.H₀ a ≠ some (.frz o u):=fun o u h=>by
 have:=I.base.frzs a o u h
 rcases hu with h | ⟨_,h⟩ <;> (rw [h] at this;cases this)
theorem pi_keys {tg : Expr} {x : Str} {i : Nat} {np : Pos} (hN : X.N[i]? = some x) (hv : Vis X.env.scope x) (hd : (x == ("__debug__" : Str)) = false:=by decide) (hcd : (x == ("__classdict__" : Str)) = false:=by decide) :
  PI X tg (.Name x np) (fun σ H R=>∃ a kvs u,σ[i]? = some (some (.ref a))/\DV H a kvs/\H a = some u/\∀ o,R (Itk a o u kvs) (upd H a (.frz o u))):=by
 intro pins s σ H R I ⟨a,kvs,u,hσ,hu,hua,q⟩
 refine thn (pe_var (pos:=np) hN hv hd hcd pins s σ H (fun v H1=>v = .ref a/\H1 = H) I ⟨_,hσ,rfl,rfl⟩) fun v s1 ⟨w,H1,I1,r1,e1,e2⟩=>?_
 subst e1 e2
 cases r1
 obtain ⟨z,hs,vs,rel,dd⟩:=dv_dict I1 hu
 obtain ⟨ep,da⟩:=dd.dictAt
 obtain ⟨o,es,ho,r⟩:=id da
 have hda : ∀ h : Heap,h.get? a = some o->h.DictAt (mixKind X.prog X.w) a vs ep:=fun h e=>⟨o,es,e,r⟩
 obtain ⟨u',hu2,fu⟩:=dv_obj I1 hu ho
 rw [hua] at hu2
 cases hu2
 have If : Inv X pins σ (upd H1 a (.frz o u)) s1:=I1.write (t':=s1.toks) (x:=a) (e:=a) (h':=s1.heap) (o:=.frz o u) (dv_mut hu) (.inl rfl) (fun _ _ _ q=>q) ⟨o,ho⟩ ⟨ho,fu _ _ ho⟩
 refine wpAny_pyIter_dict hs da ?_
 have I2 : Inv X pins σ (upd H1 a (.frz o u)) { s1 with heap:=s1.heap.push { cls:=.type "dict_keyiterator",data:=.fields #[.ref a,.int 0 0,.int vs.length 0,.int ep 0] } }:=If.kept (t':=s1.toks) fun b o e=>Heap.get?_push_of_some _ e
 refine ⟨s1.heap.objs.size,[s1.heap.objs.size],fun i h=>h.IsKeyIter s1.heap.objs.size a i vs.length ep,Itk a o u kvs,_,rfl,I2,turn_keys hda rel,⟨_,Heap.get?_push_size _ rfl,rfl,rfl⟩,fun b hb=>?_,q o⟩
 have e : b = s1.heap.objs.size:=by simpa using hb
 subst e
 exact If.fpOk (Nat.le_refl _) (If.hok.fresh (Nat.le_refl _))
end
theorem rep_fz {P P' : Addr->Prop} {H : Hp} {a : Addr} {ds : List (D × D)} {o : Obj} {u : HO} (r : Rep P H (.ref a) (.dct ds)) (hua : H a = some u) (hp : D.pures (ds.map (·.2)) = true) : Rep P' (upd H a (.frz o u)) (.ref a) (.fdc ds):=by
 have hna : ∀ xs,H a ≠ some (.tup xs):=fun xs z=>by
  cases r with
  | dK e _ _ _=>rw [e] at z;cases z
  | dT e _ _ _=>rw [e] at z;cases z
 have goK : ∀ {kvs : List (Key × V)} {ds : List (D × D)},RepK P H kvs ds->D.pures (ds.map (·.2)) = true->RepK P' (upd H a (.frz o u)) kvs ds:=by
  intro kvs ds r
  induction kvs generalizing ds with
  | nil=>cases r;intro _;exact .nil
  | cons p kvs ih=>cases r with
   | cons r t=>
    intro h
    rw [List.map_cons,D.pures,Bool.and_eq_true] at h
    exact .cons ((rep_thaw hna r h.1).ofPure h.1) (ih t h.2)
 have goT : ∀ {kvs : List (List Key × V)} {ds : List (D × D)},RepT P H kvs ds->D.pures (ds.map (·.2)) = true->RepT P' (upd H a (.frz o u)) kvs ds:=by
  intro kvs ds r
  induction kvs generalizing ds with
  | nil=>cases r;intro _;exact .nil
  | cons p kvs ih=>cases r with
   | cons r t=>
    intro h
    rw [List.map_cons,D.pures,Bool.and_eq_true] at h
    exact .cons ((rep_thaw hna r h.1).ofPure h.1) (ih t h.2)
 cases r with
 | dK e _ r n=>rw [e] at hua;cases hua;exact .fdK upd_same (goK r hp) n
 | dT e _ r n=>rw [e] at hua;cases hua;exact .fdT upd_same (goT r hp) n
theorem dv_of {P : Addr->Prop} {H : Hp} {v : V} {ds : List (D × D)} (r : Rep P H v (.dct ds)) (hb : ds.all (fun p=>!isTup p.1) = true) : ∃ a kvs u,v = .ref a/\DV H a kvs/\H a = some u/\mutO u = true/\∀ {P'},∀ H',Reps P' H' (kvs.map fun p=>kV p.1) (keysD ds):=by
 cases r with
 | dK e _ rk _=>
  refine ⟨_,_,_,rfl,.inl e,e,rfl,fun {P'} H'=>?_⟩
  clear e
  rename_i n
  clear n
  have go : ∀ {kvs : List (Key × V)} {ds : List (D × D)},RepK P H kvs ds->Reps P' H' (kvs.map fun p=>kV p.1) (keysD ds):=by
   intro kvs ds r
   induction kvs generalizing ds with
   | nil=>cases r;exact .nil
   | cons p kvs ih=>cases r with
    | @cons k v d r ds h t=>exact .cons (by cases k <;> first | exact .int _ | exact .str _) (ih t)
  exact go rk
 | dT e _ rt _=>
  cases rt with
  | nil=>exact ⟨_,[],_,rfl,.inr ⟨rfl,e⟩,e,rfl,fun H'=>.nil⟩
  | cons r t=>simp [isTup] at hb
end Mi
end
section
set_option maxRecDepth 100000
namespace Mi
open PySem L2 PySem.SeqAt PySem.Spec PyProof.Rows
variable [KFrag]
theorem getD_map {ρ : List D} {f : D->D} (h : f .undef = .undef) (j : Nat) : (ρ.map f).getD j .undef = f (ρ.getD j .undef):=by
 rw [List.getD_eq_getElem?_getD,List.getD_eq_getElem?_getD,List.getElem?_map]
 cases ρ[j]? with
 | none=>exact h.symm
 | some d=>rfl
theorem er_fz {H : Hp} {σ : L2.St} {ρ : List D} {i : Nat} {a : Addr} {ds : List (D × D)} {o : Obj} {u : HO} (E : ER H σ ρ) (hσ : σ[i]? = some (some (.ref a))) (r : Rep All H (.ref a) (.dct ds)) (hua : H a = some u) (hmu : mutO u = true) (hp : D.pures (ds.map (·.2)) = true) : ER (upd H a (.frz o u)) σ (fzD i ds ρ):=by
 have hna : ∀ xs,H a ≠ some (.tup xs):=fun xs z=>by rw [hua] at z;cases z;cases hmu
 intro j hj
 unfold fzD at hj ⊢
 rw [getD_set] at hj ⊢
 by_cases h : i = j/\i < (ρ.map fun d=>if d.pure then d else .undef).length
 ·rw [if_pos h]
  obtain ⟨rfl,_⟩:=h
  exact ⟨_,hσ,rep_fz r hua hp⟩
 ·rw [if_neg h] at hj ⊢
  rw [getD_map (by rfl)] at hj ⊢
  by_cases hpu : (ρ.getD j .undef).pure = true
  ·rw [if_pos hpu] at hj ⊢
   obtain ⟨v,h1,h2⟩:=E j hj
   exact ⟨v,h1,rep_thaw hna h2 hpu⟩
  ·rw [if_neg hpu] at hj
   exact absurd rfl hj
section
variable {X : Cx} {scope : Scope} {own : Nat->Bool} {x c y : Str} {i n iy : Nat} {elt cnd : Expr} {fe : FE} {gc : FT} {re o : Bool} {np cpos pos py pos2 : Pos}
theorem ms_compD (S : CompSc X.N X.env.scope scope [c]) (hn : X.N.length = n) (hcalm : X.calm = true) (hN : X.N[i]? = some x) (hv : Vis X.env.scope x) (hg : ∀ y,PG (mkC X scope [c] y) (.Name c cpos) (gName n)) (hc : ∀ y,PT (mkC X scope [c] y) cnd (gT gc)) (he : ∀ y,PE (mkC X scope [c] y) elt (gE fe re))
  (hs : ∀ z,foldedSetIterable (.Name x np) X.env z = pure z) (ho : own iy = o) (hNn : X.N.Nodup) (hiy : X.N[iy]? = some y) (hxy : Loc X.env.scope y) (hfy : X.fn y = true\/X.env.scope.names.lookup y = some .local) (hsw : swapsWith (.ListComp elt [⟨.Name c cpos,.Name x np,[cnd],0⟩] scope pos) (some (.Name y py)) pos2.line X.env = pure true)
  (hd : (x == ("__debug__" : Str)) = false:=by decide) (hcd : (x == ("__classdict__" : Str)) = false:=by decide) :
  PS X (.Assign [.Name y py] (.ListComp elt [⟨.Name c cpos,.Name x np,[cnd],0⟩] scope pos) pos2) (tS own (sSet o iy (bCompD n i oneT gc fe) true)):=by
 intro pins s σ H Dn I h
 obtain ⟨ρ,d,E,hcomp,q⟩:=set_imp ho h
 obtain ⟨d0,h1,h2⟩:=bindE hcomp
 obtain ⟨v,hσ,r,ed⟩:=E.var h1
 split at h2
 ·rename_i ds
  split at h2
  ·rename_i hb
   rw [Bool.and_eq_true,Bool.and_eq_true] at hb
   obtain ⟨ys,h3,h4⟩:=bindE h2
   cases h4
   obtain ⟨a,kvs,u,rfl,hu,hua,hmu,rk⟩:=dv_of r hb.2.1
   have hlen : kvs.length = (keysD ds).length:=by have:=(rk (P':=All) H).length;simpa using this
   have hlim : (keysD ds).length<=lim:=by unfold keysD;rw [List.length_map];exact of_decide_eq_true hb.1
   have hno:=dv_nofrz I hu
   have hσl : σ.length = n:=I.len.trans hn
   have tg:=tgc_one n
   refine thn (ps_compif S hcalm (pi_keys (tg:=.Name c cpos) (np:=np) hN hv hd hcd) (fun X' cc=>by obtain ⟨y,rfl⟩:=mkC_of cc;exact hg y) (fun X' cc=>by obtain ⟨y,rfl⟩:=mkC_of cc;exact hc y) (fun X' cc=>by obtain ⟨y,rfl⟩:=mkC_of cc;exact he y) hs hNn hiy hxy hfy hsw pins s σ H
    { Dn with nx:=fun σ' H'=>∃ o,H' a = some (.frz o u)/\Dn.nx σ' (upd H' a u) } I ⟨a,kvs,u,hσ,hu,hua,fun o p hp=>?_⟩) fun f s' hq=>?_
   ·have hpa : p ≠ a:=fun z=>by subst z;rw [upd_same] at hp;cases hp
    have hp0 : H p = none:=by rw [upd_ne hpa] at hp;exact hp
    have EF : ER (upd H a (.frz o u)) σ (fzD i ds ρ):=er_fz E hσ r hua hmu hb.2.2
    refine ⟨fun i' n' vs H'=>n' = kvs.length - i'/\i'<=kvs.length/\H' p = some (.lst vs)/\Same (upd H a (.frz o u)) H'/\∃ acc,acc.length<=i'/\D.pures acc = true/\Reps All H' vs acc/\cfold (cstep n oneT gc fe false (fzD i ds ρ)) acc ((keysD ds).drop i') = .ok ys,⟨kvs.length,rfl,Nat.zero_le _,upd_same,Same.upd hp,[],Nat.zero_le _,rfl,.nil,h3⟩,?_⟩
    rintro i' n' vs H' ⟨rfl,hi,hH,sm,acc,hal,pacc,racc,hf⟩
    have ea : H' a = some (.frz o u):=sm a _ upd_same
    refine ⟨hH,?_⟩
    rcases Nat.lt_or_ge i' kvs.length with hlt | hge
    ·refine .inr ⟨⟨ea,_,List.getElem?_eq_getElem hlt⟩,?_,fun x H2 hy=>?_⟩
     ·rw [racc.length]
      exact Nat.lt_of_le_of_lt hal (Nat.lt_of_lt_of_le (hlen ▸ hlt) (Nat.le_trans hlim (by rw [sizeLine_eq];decide)))
     ·obtain ⟨rfl,pr,hx,rfl⟩:=hy
      have hlt2 : i' < (keysD ds).length:=hlen ▸ hlt
      obtain ⟨dx,hdx,rx⟩:=(rk (P':=All) H2).at (i:=i') (v:=kV pr.1) (by simp [hx])
      have edx : (keysD ds)[i'] = dx:=by
       have:=List.getElem?_eq_getElem hlt2
       rw [hdx] at this
       exact (Option.some.inj this).symm
      rw [List.drop_eq_getElem_cons hlt2,edx] at hf
      obtain ⟨acc2,hs,hf⟩:=bindE hf
      obtain ⟨bs,hbs,hs⟩:=bindE hs
      obtain ⟨ok,hok,hs⟩:=bindE hs
      refine tg (kV pr.1) dx bs σ H2 _ hσl rx hbs fun σ2 hx2 hbs2=>⟨hx2,?_⟩
      have E2 : ER H2 σ2 (padD n (fzD i ds ρ) ++ bs):=(EF.same sm).ext hσl hx2 hbs2
      refine ⟨_,ok,E2,hok,fun H4 s4=>?_⟩
      cases ok with
      | true=>
       rw [if_pos rfl]
       rw [if_pos rfl] at hs
       obtain ⟨yy,hy2,hs⟩:=bindE hs
       split at hs
       ·rename_i hk
        cases hs
        have py : yy.pure = true:=by simpa using hk
        refine ⟨_,yy,E2.same s4,hy2,fun w H5 s5 r5 n5=>⟨s5 p _ (s4 p _ hH),kvs.length - (i' + 1),by lia,rfl,hlt,upd_same,?_,acc ++ [yy],?_,pures_snoc pacc py,?_,hf⟩⟩
        ·exact fun b ob e=>by
          rw [upd_ne (ne_of_none e hp)]
          exact s5 b ob (s4 b ob (sm b ob e))
        ·rw [List.length_append,List.length_singleton];lia
        ·have hp5 : H5 p = some (.lst vs):=s5 p _ (s4 p _ hH)
         have hpn : ∀ xs,H5 p ≠ some (.tup xs):=fun xs z=>by rw [hp5] at z;cases z
         exact reps_thaw hpn ((racc.same (s4.trans s5)).snoc r5) (pures_snoc pacc py)
       ·cases hs
      | false=>
       rw [if_neg (by simp)]
       rw [if_neg (by simp)] at hs
       cases hs
       exact ⟨kvs.length - (i' + 1),by lia,rfl,hlt,s4 p _ hH,sm.trans s4,acc,by lia,pacc,racc.same s4,hf⟩
    ·refine .inl ⟨⟨ea,hge⟩,o,ea,?_⟩
     rw [List.drop_eq_nil_of_le (by lia)] at hf
     cases hf
     have hna : ∀ xs,H' a ≠ some (.tup xs):=fun xs z=>by rw [ea] at z;cases z
     have sF : Same H (upd H' a u):=fun b ob e=>by
      by_cases hba : b = a
      ·subst hba;rw [upd_same,<- hua];exact e
      ·rw [upd_ne hba];exact sm b ob (by rw [upd_ne hba];exact e)
     have hpF : upd H' a u p = some (.lst vs):=by rw [upd_ne hpa];exact hH
     have rF : ∀ {P : Addr->Prop},Reps P (upd H' a u) vs ys:=fun {P}=>(reps_thaw hna racc pacc).ofPure pacc
     exact q _ _ sF (.lst hpF trivial rF) fun _=>.lst hpF hp0 rF
   ·cases f with
    | next=>
     obtain ⟨σ',H',I',o,ea,q'⟩:=hq
     exact ⟨σ',_,Inv_thaw I' ea hno,q'⟩
    | brk=>exact hq
    | cont=>exact hq
    | ret u=>exact hq
  ·cases h2
 ·cases h2
end
section
variable {own : Nat->Bool}
noncomputable def ownBut (own : Nat->Bool) (i : Nat) : Nat->Bool:=fun j=>own j && !(j == i)
theorem ownBut_of {i j : Nat} (h : ownBut own i j = true) : own j = true/\j ≠ i:=by
 unfold ownBut at h
 simpa using h
theorem Own.of {i : Nat} {σ : L2.St} {b : Addr} (h : Own (ownBut own i) σ b) : Own own σ b:=by
 obtain ⟨j,hj,e⟩:=h
 exact ⟨j,(ownBut_of hj).1,e⟩
theorem es_fz {H : Hp} {σ : L2.St} {ρ : List D} {i : Nat} {a : Addr} {ds : List (D × D)} {o : Obj} {u : HO} (E : ES own H σ ρ) (ho : own i = true) (hσ : σ[i]? = some (some (.ref a))) (hd : ρ.getD i .undef = .dct ds) (hua : H a = some u) (hmu : mutO u = true) : ES (ownBut own i) (upd H a (.frz o u)) σ (ρ.set i (.fdc ds))/\¬ Own (ownBut own i) σ a:=by
 obtain ⟨a',oa,ea,ra,hin,hHa,hma,huq⟩:=E.own i _ ho hσ
 cases ea
 rw [hd] at ra hin
 have hna : ¬ Own (ownBut own i) σ a:=fun ⟨j,hj,e⟩=>(ownBut_of hj).2 (huq j (ownBut_of hj).1 e)
 have hOa : Own own σ a:=⟨i,ho,hσ⟩
 have hl : i < ρ.length:=by rw [<- E.len];exact (List.getElem?_eq_some_iff.mp hσ).1
 refine ⟨⟨by simp [E.len],fun j hj=>?_,fun j w hj hw=>?_⟩,hna⟩
 ·rw [getD_set] at hj ⊢
  by_cases h : i = j/\i < ρ.length
  ·rw [if_pos h]
   obtain ⟨rfl,_⟩:=h
   exact ⟨_,hσ,fun _=>rep_fz ra hua hin⟩
  ·rw [if_neg h] at hj ⊢
   have hij : i ≠ j:=fun z=>h ⟨z,hl⟩
   obtain ⟨w,h1,h2⟩:=E.at_ j hj
   refine ⟨w,h1,fun hj2=>?_⟩
   have hoj : own j = false:=by
    unfold ownBut at hj2
    cases hq : own j with
    | false=>rfl
    | true=>rw [hq] at hj2;simp at hj2;exact absurd hj2.symm hij
   refine (h2 hoj).keep (fun b ob hb hp=>?_) fun b hb hq=>hb hq.of
   rw [upd_ne]
   ·exact hb
   ·intro z
    subst z
    rcases hp with hp | hp
    ·exact hp hOa
    ·rw [hua] at hb;cases hb;rw [hmu] at hp;cases hp
 ·obtain ⟨hoj,hji⟩:=ownBut_of hj
  rw [getD_set,if_neg fun z=>hji z.1.symm]
  obtain ⟨b,ob,h1,h2,h3,h4,h5,h6⟩:=E.own j w hoj hw
  subst h1
  have hba : b ≠ a:=fun z=>by subst z;exact hji (huq j hoj hw)
  refine ⟨b,ob,rfl,?_,h3,by rw [upd_ne hba];exact h4,h5,fun k hk hs=>h6 k (ownBut_of hk).1 hs⟩
  refine (h2.ownP (P':=fun c=>c = b) h3 rfl).keep (fun c oc hc hp=>?_) fun _ _=>trivial
  rw [upd_ne]
  ·exact hc
  ·intro z
   subst z
   rcases hp with hp | hp
   ·exact hba hp.symm
   ·rw [hHa] at hc;cases hc;rw [hma] at hp;cases hp
theorem mss_fzD {X : Cx} {tg : Expr} {body rest : List Stmt} {g : TG} {t : D->List D->Res (List D)} {i : Nat} {x : Str} {px pos : Pos} {fb fr : FS} (ho : own i = true) (hp : PassesOwn (model X.prog X.w) X.A X.env X.xe) (hc : X.calm = true) (hN : X.N[i]? = some x) (hv : Vis X.env.scope x) (ht : TgS (ownBut own i) g t) (hg : PG X tg g) (hb : PSs X body (tS (ownBut own i) fb)) (hr : PSs X rest (tS (ownBut own i) fr))
  (hs : ∀ z,foldedSetIterable (.Name x px) X.env z = pure z:=by intro _;rfl) (hd : (x == ("__debug__" : Str)) = false:=by decide) (hcd : (x == ("__classdict__" : Str)) = false:=by decide) : PSs X (.For tg (.Name x px) body [] pos :: rest) (tS own (sFzD i t fb fr)):=
 PSs.imp (pss_cons (ps_for hp hc (pi_keys hN hv hd hcd) hg hb hs) hr) fun D' σ H ⟨ρ,fl,E,h,q⟩=>by
 obtain ⟨d,h1,h2⟩:=bindE h
 obtain ⟨v,hσ,r,ed⟩:=E.er.var h1
 split at h2
 ·rename_i ds
  split at h2
  ·rename_i hb
   obtain ⟨rr,h3,h4⟩:=bindE h2
   obtain ⟨a,kvs,u,rfl,hu,hua,hmu,rk⟩:=dv_of r hb
   have hlen : kvs.length = (keysD ds).length:=by have:=(rk (P':=All) H).length;simpa using this
   refine ⟨a,kvs,u,hσ,hu,hua,fun o=>?_⟩
   obtain ⟨EF,hna⟩:=es_fz (o:=o) E ho hσ ed hua hmu
   have hOa : Own own σ a:=⟨i,ho,hσ⟩
   have qrt : ∀ d2,fl = .rt d2->kS (ownBut own i) D' σ (upd H a (.frz o u)) (.rt d2):=fun d2 e=>by
    subst e
    refine fun v H' hk rv=>q v H' (fun b ob hb hn=>hk b ob ?_ fun z=>hn z.of) (rv.mono fun b hb=>?_)
    ·rw [upd_ne (fun z=>by subst z;exact hn hOa)];exact hb
    ·rcases hb with hb | hb
     ·exact .inl hb.of
     ·exact .inr (by
       have : b ≠ a:=fun z=>by subst z;rw [upd_same] at hb;cases hb
       rw [upd_ne this] at hb
       exact hb)
   have qr : kS (ownBut own i) { D' with nx:=fun σ' H'=>tS (ownBut own i) fr D' σ' H' } σ (upd H a (.frz o u)) rr:=by
    cases rr with
    | nx ρ'=>
     obtain ⟨r2,h5,h6⟩:=bindE h4
     cases r2 with
     | rt d2=>
      cases h6
      exact fun σ' H' ku E'=>⟨ρ',.rt d2,E',h5,(qrt d2 rfl).step ku⟩
     | nx _=>cases h6
     | bk _=>cases h6
     | ct _=>cases h6
    | rt d2=>cases h4;exact qrt d2 rfl
    | bk _=>cases h4
    | ct _=>cases h4
   refine ⟨fun i' m σ' H'=>m = kvs.length - i'/\i'<=kvs.length/\(H' a = some (.frz o u)/\¬ Own (ownBut own i) σ' a)/\∃ ρ',ES (ownBut own i) H' σ' ρ'/\forS t fb ((keysD ds).drop i') ρ' = .ok rr/\kS (ownBut own i) { D' with nx:=fun σ' H'=>tS (ownBut own i) fr D' σ' H' } σ' H' rr,⟨kvs.length,rfl,Nat.zero_le _,⟨upd_same,hna⟩,_,EF,h3,qr⟩,?_⟩
   rintro i' m σ' H' ⟨rfl,hi,hJ,ρ',E',hf',q'⟩
   rcases Nat.lt_or_ge i' kvs.length with hlt | hge
   ·refine .inr ?_
    have hlt2 : i' < (keysD ds).length:=hlen ▸ hlt
    rw [List.drop_eq_getElem_cons hlt2] at hf'
    obtain ⟨ρ1,h1,hf2⟩:=bindE hf'
    obtain ⟨r,h2,hf3⟩:=bindE hf2
    refine ⟨⟨hJ.1,_,List.getElem?_eq_getElem hlt⟩,fun σ2 H2=>(H2 a = some (.frz o u)/\¬ Own (ownBut own i) σ2 a)/\∃ ρ',ES (ownBut own i) H2 σ2 ρ'/\forS t fb ((keysD ds).drop (i' + 1)) ρ' = .ok rr/\kS (ownBut own i) { D' with nx:=fun σ' H'=>tS (ownBut own i) fr D' σ' H' } σ2 H2 rr,fun σ2 H2 ⟨n1,n2⟩=>⟨kvs.length - (i' + 1),by lia,rfl,hlt,n1,n2⟩,fun x H2 hy=>?_⟩
    obtain ⟨rfl,pr,hx,rfl⟩:=hy
    obtain ⟨dx,hdx,rx⟩:=(rk (P':=fun a=>¬ Own (ownBut own i) σ' a) H2).at (i:=i') (v:=kV pr.1) (by simp [hx])
    have edx : (keysD ds)[i'] = dx:=by
     have:=List.getElem?_eq_getElem hlt2
     rw [hdx] at this
     exact (Option.some.inj this).symm
    rw [edx] at h1
    refine ht (kV pr.1) dx ρ' ρ1 σ' H2 _ E' rx h1 fun σ2 E2 hO=>?_
    have k0 : KU (ownBut own i) σ' H2 σ2 H2:=fun a o e n=>⟨e,by rw [hO];exact n⟩
    have hJ2 : H2 a = some (.frz o u)/\¬ Own (ownBut own i) σ2 a:=k0 a _ hJ.1 hJ.2
    have q2:=q'.step k0
    refine ⟨ρ1,r,E2,h2,?_⟩
    cases r with
    | nx ρ2=>exact fun σ3 H3 k3 E3=>⟨k3 a _ hJ2.1 hJ2.2,ρ2,E3,hf3,q2.step k3⟩
    | ct ρ2=>exact fun σ3 H3 k3 E3=>⟨k3 a _ hJ2.1 hJ2.2,ρ2,E3,hf3,q2.step k3⟩
    | bk ρ2=>cases hf3;exact fun σ3 H3 k3 E3=>q2 σ3 H3 k3 E3
    | rt d=>cases hf3;exact q2
   ·refine .inl ⟨⟨hJ.1,hge⟩,?_⟩
    rw [List.drop_eq_nil_of_le (by lia)] at hf'
    cases hf'
    exact q' σ' H' (fun a o e n=>⟨e,n⟩) E'
  ·cases h2
 ·cases h2
end
end Mi
end
section
set_option maxRecDepth 100000
namespace Wz
open PySem PySem.Spec
noncomputable abbrev itO (t : Addr) (i : Nat) : Obj:={ cls:=.type "tuple_iterator",data:=.fields #[.ref t,.int i 0] }
noncomputable abbrev tuO (xs : Array Value) (n : Nat) (dd : Option Addr) (sl : Array (Option Value)) : Obj:={ cls:=.type "tuple",dict:=dd,data:=.seq xs n,slots:=sl }
noncomputable abbrev zpO (f0 f1 : Value) (TI TO : Addr) : Obj:={ cls:=.type "zip",data:=.fields #[f0,f1,.bool false,.ref TI,.ref TO] }
noncomputable abbrev prO (a b : Value) : Obj:={ cls:=.type "tuple",data:=.seq #[a,b] }
theorem meets_draw (it t : Addr) (i : Nat) (xs : Array Value) (n : Nat) (dd : Option Addr) (sl : Array (Option Value)) (x : Value) (hx : xs[i]? = some x) :
  Meets (Builtin.«tuple_iterator.__next__» ⟨[.ref it],[]⟩) (fun _ R s=>s.heap.get? it = some (itO t i)/\s.heap.get? t = some (tuO xs n dd sl)/\R (.ok (.ret x)) { s with heap:=s.heap.update it (Obj.mapFields (·.setIfInBounds 1 (rawInt (i + 1)))) }):=.of_wp fun prog w A R s hs=>by
 obtain ⟨hp,g,d,tk,os⟩:=s
 obtain ⟨e1,e2,hq⟩:=hs
 wp_walk
 rw [Int.toNat_natCast,hx]
 wp_walk
 exact ⟨_,rfl,hq⟩
theorem meets_over (it t : Addr) (i : Nat) (xs : Array Value) (n : Nat) (dd : Option Addr) (sl : Array (Option Value)) (hx : xs[i]? = none) :
  Meets (Builtin.«tuple_iterator.__next__» ⟨[.ref it],[]⟩) (fun A R s=>A.handled = none/\s.heap.get? it = some (itO t i)/\s.heap.get? t = some (tuO xs n dd sl)/\∀ h' e,Heap.ExtBut it s.heap h'->(∃ o,h'.get? e = some o/\o.cls = .type "StopIteration")->R (.error (.ref e)) { s with heap:=h' }):=.of_wp fun prog w A R s hs=>by
 obtain ⟨hp,g,d,tk,os⟩:=s
 obtain ⟨hh,e1,e2,hq⟩:=hs
 wp_walk
 rw [Int.toNat_natCast,hx]
 wp_walk
 have hh1 : A.in1.handled = none:=hh
 unfold raiseNew
 wp_walk
 exact hq _ _ (((Heap.SameBut.update ..).extBut.push _).push _) ⟨_,Heap.get?_push_size _ rfl,rfl⟩
section
variable {prog : Program} {w : World} {A : Around} {E : Value->Shared->Prop} {s : Shared} {it t : Addr} {i : Nat} {xs : Array Value} {x : Value} {n : Nat} {dd : Option Addr} {sl : Array (Option Value)}
theorem drawn {Q : Value->Shared->Prop} (e1 : s.heap.get? it = some (itO t i)) (e2 : s.heap.get? t = some (tuO xs n dd sl)) (hx : xs[i]? = some x)
  (q : ∀ h',h'.get? it = some (itO t (i + 1))->Heap.SameBut it s.heap h'->Q x { s with heap:=h' }) : wpAny (model prog w) A (Builtin.SmallTypes.nextOf (.ref it)) Q E s:=by
 have ty : s.TypeIs (.ref it) "tuple_iterator":=⟨_,e1,rfl⟩
 refine wpAny_bind (wpAny_callSpecial?_slot ty F.slot_tuple_iterator_next ?_)
 refine call_meets F.slot_tuple_iterator_next ty F.entry_tuple_iterator_next (F.args_tuple_iterator_next_1 _) (meets_draw it t i xs n dd sl x hx) ⟨e1,e2,wpAny_pure (q _ ?_ (Heap.SameBut.update ..))⟩
 exact Heap.get?_update_self _ e1 rfl
theorem over {Q : Value->Shared->Prop} (hh : A.handled = none) (e1 : s.heap.get? it = some (itO t i)) (e2 : s.heap.get? t = some (tuO xs n dd sl)) (hx : xs[i]? = none)
  (q : ∀ h' e,Heap.ExtBut it s.heap h'->(∃ o,h'.get? e = some o/\o.cls = .type "StopIteration")->E (.ref e) { s with heap:=h' }) : wpAny (model prog w) A (Builtin.SmallTypes.nextOf (.ref it)) Q E s:=by
 have ty : s.TypeIs (.ref it) "tuple_iterator":=⟨_,e1,rfl⟩
 refine wpAny_bind (wpAny_callSpecial?_slot ty F.slot_tuple_iterator_next ?_)
 exact call_meets F.slot_tuple_iterator_next ty F.entry_tuple_iterator_next (F.args_tuple_iterator_next_1 _) (meets_over it t i xs n dd sl hx) ⟨hh,e1,e2,fun h' e k o=>q h' e k o⟩
end
structure Apart (z TI TO i1 i2 l1 l2 : Addr) : Prop where
 zTI : z ≠ TI
 zTO : z ≠ TO
 z1 : z ≠ i1
 z2 : z ≠ i2
 zl : z ≠ l1
 zm : z ≠ l2
 TT : TI ≠ TO
 T1 : TI ≠ i1
 T2 : TI ≠ i2
 O1 : TO ≠ i1
 O2 : TO ≠ i2
 Ol : TO ≠ l1
 Om : TO ≠ l2
 ij : i1 ≠ i2
 il : i1 ≠ l1
 im : i1 ≠ l2
 jl : i2 ≠ l1
 jm : i2 ≠ l2
structure W (z TI TO i1 i2 l1 l2 : Addr) (o1 o2 : Obj) (f0 f1 a b : Value) (k1 k2 : Nat) (h : Heap) : Prop where
 z_ : h.get? z = some (zpO f0 f1 TI TO)
 ti : h.get? TI = some (prO (.ref i1) (.ref i2))
 to : h.get? TO = some (prO a b)
 j1 : h.get? i1 = some (itO l1 k1)
 j2 : h.get? i2 = some (itO l2 k2)
 t1 : h.get? l1 = some o1
 t2 : h.get? l2 = some o2
section
variable {z TI TO i1 i2 l1 l2 : Addr} {o1 o2 : Obj} {f0 f1 g0 g1 a b c d : Value} {k1 k2 : Nat} {h h' : Heap}
theorem W.onZ (x : W z TI TO i1 i2 l1 l2 o1 o2 f0 f1 a b k1 k2 h) (ap : Apart z TI TO i1 i2 l1 l2) (e : h'.get? z = some (zpO g0 g1 TI TO)) (k : Heap.SameBut z h h') : W z TI TO i1 i2 l1 l2 o1 o2 g0 g1 a b k1 k2 h':=
 ⟨e,(k.2 _ ap.zTI.symm).trans x.ti,(k.2 _ ap.zTO.symm).trans x.to,(k.2 _ ap.z1.symm).trans x.j1,(k.2 _ ap.z2.symm).trans x.j2,(k.2 _ ap.zl.symm).trans x.t1,(k.2 _ ap.zm.symm).trans x.t2⟩
theorem W.onT (x : W z TI TO i1 i2 l1 l2 o1 o2 f0 f1 a b k1 k2 h) (ap : Apart z TI TO i1 i2 l1 l2) (e : h'.get? TO = some (prO c d)) (k : Heap.SameBut TO h h') : W z TI TO i1 i2 l1 l2 o1 o2 f0 f1 c d k1 k2 h':=
 ⟨(k.2 _ ap.zTO).trans x.z_,(k.2 _ ap.TT).trans x.ti,e,(k.2 _ ap.O1.symm).trans x.j1,(k.2 _ ap.O2.symm).trans x.j2,(k.2 _ ap.Ol.symm).trans x.t1,(k.2 _ ap.Om.symm).trans x.t2⟩
theorem W.on1 {k : Nat} (x : W z TI TO i1 i2 l1 l2 o1 o2 f0 f1 a b k1 k2 h) (ap : Apart z TI TO i1 i2 l1 l2) (e : h'.get? i1 = some (itO l1 k)) (s : Heap.SameBut i1 h h') : W z TI TO i1 i2 l1 l2 o1 o2 f0 f1 a b k k2 h':=
 ⟨(s.2 _ ap.z1).trans x.z_,(s.2 _ ap.T1).trans x.ti,(s.2 _ ap.O1).trans x.to,e,(s.2 _ ap.ij.symm).trans x.j2,(s.2 _ ap.il.symm).trans x.t1,(s.2 _ ap.im.symm).trans x.t2⟩
theorem W.on2 {k : Nat} (x : W z TI TO i1 i2 l1 l2 o1 o2 f0 f1 a b k1 k2 h) (ap : Apart z TI TO i1 i2 l1 l2) (e : h'.get? i2 = some (itO l2 k)) (s : Heap.SameBut i2 h h') : W z TI TO i1 i2 l1 l2 o1 o2 f0 f1 a b k1 k h':=
 ⟨(s.2 _ ap.z2).trans x.z_,(s.2 _ ap.T2).trans x.ti,(s.2 _ ap.O2).trans x.to,(s.2 _ ap.ij).trans x.j1,e,(s.2 _ ap.jl.symm).trans x.t1,(s.2 _ ap.jm.symm).trans x.t2⟩
theorem W.up (x : W z TI TO i1 i2 l1 l2 o1 o2 f0 f1 a b k1 k2 h) (k : ∀ c o,c = z\/c = TI\/c = TO\/c = i1\/c = i2\/c = l1\/c = l2->h.get? c = some o->h'.get? c = some o) : W z TI TO i1 i2 l1 l2 o1 o2 f0 f1 a b k1 k2 h':=
 ⟨k _ _ (by simp) x.z_,k _ _ (by simp) x.ti,k _ _ (by simp) x.to,k _ _ (by simp) x.j1,k _ _ (by simp) x.j2,k _ _ (by simp) x.t1,k _ _ (by simp) x.t2⟩
end
noncomputable def Side (z TO i1 i2 : Addr) (h h' : Heap) : Prop:=∀ c o,c ≠ z->c ≠ TO->c ≠ i1->c ≠ i2->h.get? c = some o->h'.get? c = some o
section
variable {prog : Program} {w : World} {A : Around} {E : Value->Shared->Prop} {s : Shared} {z TI TO i1 i2 l1 l2 : Addr} {n1 n2 : Nat} {d1 d2 : Option Addr} {s1 s2 : Array (Option Value)} {f0 f1 a b x y : Value} {k : Nat} {xs ys : Array Value}
theorem W.ty {o1 o2 : Obj} {k1 k2 : Nat} (hw : W z TI TO i1 i2 l1 l2 o1 o2 f0 f1 a b k1 k2 s.heap) : s.TypeIs (.ref z) "zip":=⟨_,hw.z_,rfl⟩
end
end Wz
end
section
set_option maxRecDepth 100000
namespace Wz
open PySem PySem.Spec
noncomputable abbrev nxt (z : Addr) : Sem PySem.Fin:=Builtin.«zip.__next__» ⟨[.ref z],[]⟩
noncomputable abbrev Got (Q : Value->Shared->Prop) : PySem.Fin->Shared->Prop:=fun r t=>∃ v,r = .done (.ret v)/\Q v t
section
variable {prog : Program} {w : World} {A : Around} {E : Value->Shared->Prop} {s : Shared} {z TI TO i1 i2 l1 l2 : Addr} {n1 n2 : Nat} {d1 d2 : Option Addr} {s1 s2 : Array (Option Value)} {f0 f1 a b x y : Value} {k : Nat} {xs ys : Array Value}
theorem there {c : Addr} {o : Obj} {Q : Option Obj->Shared->Prop} (e : s.heap.get? c = some o) (q : Q (some o) s) : wpAny (model prog w) A (loadIfAlive c) Q E s:=fun Γ p _=>by
 show Sem.wp _ Γ (.loadIfAlive c pure) _ _ p s
 rw [Sem.wp_loadIfAlive,e]
 exact q
theorem keptAt {o1 o2 : Obj} {k1 k2 : Nat} {Q : Unit->Shared->Prop} (j : Nat) (v c d : Value) (hw : W z TI TO i1 i2 l1 l2 o1 o2 f0 f1 a b k1 k2 s.heap) (ap : Apart z TI TO i1 i2 l1 l2) (hj : (#[a,b] : Array Value).setIfInBounds j v = #[c,d])
  (q : ∀ h',W z TI TO i1 i2 l1 l2 o1 o2 f0 f1 c d k1 k2 h'->Heap.SameBut TO s.heap h'->Q () { s with heap:=h' }) : wpAny (model prog w) A (updateSeq TO (·.setIfInBounds j v)) Q E s:=
 wpAny_updateSeq_pair hw.to fun h' e sb=>q h' (hw.onT ap (by rw [e,hj]) sb) sb
theorem first {Q : Value->Shared->Prop} (ap : Apart z TI TO i1 i2 l1 l2) (hw : W z TI TO i1 i2 l1 l2 (tuO xs n1 d1 s1) (tuO ys n2 d2 s2) .none (.bool false) a b k k s.heap) (hx : xs[k]? = some x) (hy : ys[k]? = some y)
  (q : ∀ (h' : Heap) (p : Addr),W z TI TO i1 i2 l1 l2 (tuO xs n1 d1 s1) (tuO ys n2 d2 s2) (rawInt p) (.bool false) x y (k + 1) (k + 1) h'->h'.get? p = some (prO x y)->p = s.heap.objs.size->Side z TO i1 i2 s.heap h'->Q (.ref p) { s with heap:=h' }) :
  wpAny (model prog w) A (nxt z) (Got Q) E s:=by
 refine wpAny_bind (m:=field (.ref z) 2) (wpAny_field hw.z_ rfl (x:=.bool false) rfl (wpAny_bind (m:=field (.ref z) 3) (wpAny_field hw.z_ rfl (x:=.ref TI) rfl (wpAny_bind (wpAny_seqItems hw.ti rfl ?_)))))
 refine wpAny_bind (m:=Builtin.SmallTypes.ownedTupleIsFree (.ref z)) (wpAny_bind (wpAny_field hw.z_ rfl (x:=.none) rfl (wpAny_pure ?_)))
 rw [if_pos rfl]
 refine wpAny_bind (wpAny_rule (wpAny_bind (wpAny_field hw.z_ rfl (x:=.ref TO) rfl (wpAny_bind (wpAny_setField_rec hw.z_ (by simp) fun h1 e1 k1=>?_)))))
 have w1 : W z TI TO i1 i2 l1 l2 (tuO xs n1 d1 s1) (tuO ys n2 d2 s2) .ellipsis (.bool false) a b k k h1:=hw.onZ ap e1 k1
 simp only [List.zipIdx_cons,List.zipIdx_nil,List.forIn_cons,List.forIn_nil]
 refine wpAny_bind (wpAny_bind (wpAny_bind (wpAny_onRaise (wpAny_bind (m:=Builtin.SmallTypes.nextOf (.ref i1)) (drawn w1.j1 w1.t1 hx fun h2 e2 k2=>wpAny_pure ?_)))))
 have w2:=w1.on1 ap e2 k2
 refine wpAny_bind (wpAny_seqItems w2.to rfl (wpAny_bind (keptAt 0 x x b w2 ap rfl fun h3 w3 k3=>wpAny_bind (wpAny_letGo (wpAny_pure ?_)))))
 refine wpAny_bind (wpAny_bind (wpAny_onRaise (wpAny_bind (m:=Builtin.SmallTypes.nextOf (.ref i2)) (drawn w3.j2 w3.t2 hy fun h4 e4 k4=>wpAny_pure ?_))))
 have w4:=w3.on2 ap e4 k4
 refine wpAny_bind (wpAny_seqItems w4.to rfl (wpAny_bind (keptAt 1 y x y w4 ap rfl fun h5 w5 k5=>wpAny_bind (wpAny_letGo (wpAny_pure (wpAny_pure ?_))))))
 have sd : Side z TO i1 i2 s.heap h5:=fun c o c1 c2 c3 c4 e=>(k5.2 c c2).trans ((k4.2 c c4).trans ((k3.2 c c2).trans ((k2.2 c c3).trans ((k1.2 c c1).trans e))))
 have sz : h5.objs.size = s.heap.objs.size:=by rw [k5.1,k4.1,k3.1,k2.1,k1.1]
 refine wpAny_bind (wpAny_seqItems w5.to rfl (wpAny_bind (wpAny_newTuple ?_)))
 have w6 : W z TI TO i1 i2 l1 l2 (tuO xs n1 d1 s1) (tuO ys n2 d2 s2) .ellipsis (.bool false) x y (k + 1) (k + 1) (h5.push (prO x y)):=w5.up fun c o _ e=>Heap.get?_push_of_some _ e
 refine wpAny_bind (m:=Builtin.SmallTypes.ownedTupleHandOut (.ref z) (.ref h5.objs.size)) (wpAny_bind (wpAny_setField_rec w6.z_ (by simp) fun h7 e7 k7=>?_))
 have w7 : W z TI TO i1 i2 l1 l2 (tuO xs n1 d1 s1) (tuO ys n2 d2 s2) (rawInt h5.objs.size) (.bool false) x y (k + 1) (k + 1) h7:=w6.onZ ap e7 k7
 refine wpAny_setField_rec w7.z_ (by simp) fun h8 e8 k8=>wpAny_pure ⟨_,rfl,?_⟩
 have w8 : W z TI TO i1 i2 l1 l2 (tuO xs n1 d1 s1) (tuO ys n2 d2 s2) (rawInt h5.objs.size) (.bool false) x y (k + 1) (k + 1) h8:=w7.onZ ap e8 k8
 have nz : h5.objs.size ≠ z:=Nat.ne_of_gt (Heap.lt_size w5.z_)
 exact q h8 _ w8 ((k8.2 _ nz).trans ((k7.2 _ nz).trans (Heap.get?_push_size _ rfl))) sz fun c o c1 c2 c3 c4 e=>(k8.2 c c1).trans ((k7.2 c c1).trans (Heap.get?_push_of_some _ (sd c o c1 c2 c3 c4 e)))
theorem firstEnd {Q : Fin->Shared->Prop} (hh : A.handled = none) (ap : Apart z TI TO i1 i2 l1 l2) (hw : W z TI TO i1 i2 l1 l2 (tuO xs n1 d1 s1) (tuO ys n2 d2 s2) .none (.bool false) a b k k s.heap) (hx : xs[k]? = none)
  (q : ∀ h' e,Side z TO i1 i2 s.heap h'->(∃ o,h'.get? e = some o/\o.cls = .type "StopIteration")->E (.ref e) { s with heap:=h' }) :
  wpAny (model prog w) A (nxt z) Q E s:=by
 refine wpAny_bind (m:=field (.ref z) 2) (wpAny_field hw.z_ rfl (x:=.bool false) rfl (wpAny_bind (m:=field (.ref z) 3) (wpAny_field hw.z_ rfl (x:=.ref TI) rfl (wpAny_bind (wpAny_seqItems hw.ti rfl ?_)))))
 refine wpAny_bind (m:=Builtin.SmallTypes.ownedTupleIsFree (.ref z)) (wpAny_bind (wpAny_field hw.z_ rfl (x:=.none) rfl (wpAny_pure ?_)))
 rw [if_pos rfl]
 refine wpAny_bind (wpAny_rule (wpAny_bind (wpAny_field hw.z_ rfl (x:=.ref TO) rfl (wpAny_bind (wpAny_setField_rec hw.z_ (by simp) fun h1 e1 k1=>?_)))))
 have w1 : W z TI TO i1 i2 l1 l2 (tuO xs n1 d1 s1) (tuO ys n2 d2 s2) .ellipsis (.bool false) a b k k h1:=hw.onZ ap e1 k1
 simp only [List.zipIdx_cons,List.zipIdx_nil,List.forIn_cons,List.forIn_nil]
 refine wpAny_bind (wpAny_bind (wpAny_bind (wpAny_onRaise (wpAny_bind (m:=Builtin.SmallTypes.nextOf (.ref i1)) (over hh w1.j1 w1.t1 hx fun h2 e k2 he=>?_)))))
 obtain ⟨oe,he,hc⟩:=he
 have ez : h2.get? z = some (zpO .ellipsis (.bool false) TI TO):=k2 _ _ ap.z1 w1.z_
 have hez : e ≠ z:=fun v=>by
  rw [v,ez] at he
  cases he
  exact absurd (show Value.type "zip" = Value.type "StopIteration" from hc) (by decide)
 exact wpAny_setField_rec ez (by simp) fun h3 _ k3=>q h3 e (fun c o c1 _ c3 _ v=>(k3.2 c c1).trans (k2 c o c3 ((k1.2 c c1).trans v))) ⟨oe,(k3.2 e hez).trans he,hc⟩
theorem taken {o1 o2 oT : Obj} {k1 k2 : Nat} {T : Addr} {bb : Bool} {Q : Bool->Shared->Prop} (ap : Apart z TI TO i1 i2 l1 l2) (hw : W z TI TO i1 i2 l1 l2 o1 o2 (rawInt T) (.bool bb) a b k1 k2 s.heap) (hT : s.heap.get? T = some oT)
  (q : ∀ h',W z TI TO i1 i2 l1 l2 o1 o2 (rawInt T) (.bool true) a b k1 k2 h'->Heap.SameBut z s.heap h'->Q false { s with heap:=h' }) : wpAny (model prog w) A (Builtin.SmallTypes.ownedTupleIsFree (.ref z)) Q E s:=by
 refine wpAny_bind (wpAny_field hw.z_ rfl (x:=rawInt T) rfl (wpAny_bind (m:=loadIfAlive T) (there hT ?_)))
 refine wpAny_bind (wpAny_field hw.z_ rfl (x:=.bool bb) rfl ?_)
 cases bb
 ·exact wpAny_bind (wpAny_setField_rec hw.z_ (by simp) fun h1 e1 k1=>wpAny_pure (q h1 (hw.onZ ap e1 k1) k1))
 ·exact wpAny_pure (q _ hw (Heap.SameBut.refl _ _))
theorem more {T : Addr} {bb : Bool} {oT : Obj} {Q : Value->Shared->Prop} (ap : Apart z TI TO i1 i2 l1 l2) (hw : W z TI TO i1 i2 l1 l2 (tuO xs n1 d1 s1) (tuO ys n2 d2 s2) (rawInt T) (.bool bb) a b k k s.heap) (hT : s.heap.get? T = some oT) (hx : xs[k]? = some x) (hy : ys[k]? = some y)
  (q : ∀ h' p,W z TI TO i1 i2 l1 l2 (tuO xs n1 d1 s1) (tuO ys n2 d2 s2) (rawInt T) (.bool true) a b (k + 1) (k + 1) h'->h'.get? p = some (prO x y)->Side z TO i1 i2 s.heap h'->Q (.ref p) { s with heap:=h' }) :
  wpAny (model prog w) A (nxt z) (Got Q) E s:=by
 refine wpAny_bind (m:=field (.ref z) 2) (wpAny_field hw.z_ rfl (x:=.bool false) rfl (wpAny_bind (m:=field (.ref z) 3) (wpAny_field hw.z_ rfl (x:=.ref TI) rfl (wpAny_bind (wpAny_seqItems hw.ti rfl ?_)))))
 refine wpAny_bind (m:=Builtin.SmallTypes.ownedTupleIsFree (.ref z)) (taken ap hw hT fun h1 w1 k1=>?_)
 rw [if_neg Bool.false_ne_true]
 dsimp only
 rw [<- Array.forIn_toList]
 simp only [List.forIn_cons,List.forIn_nil]
 refine wpAny_bind (wpAny_bind (wpAny_bind (wpAny_holding (wpAny_bind (m:=Builtin.SmallTypes.nextOf (.ref i1)) (drawn w1.j1 w1.t1 hx fun h2 e2 k2=>wpAny_pure (wpAny_pure ?_))))))
 have w2:=w1.on1 ap e2 k2
 refine wpAny_bind (wpAny_bind (wpAny_holding (wpAny_bind (m:=Builtin.SmallTypes.nextOf (.ref i2)) (drawn w2.j2 w2.t2 hy fun h3 e3 k3=>wpAny_pure (wpAny_pure (wpAny_pure ?_))))))
 have w3:=w2.on2 ap e3 k3
 refine wpAny_bind (wpAny_newTuple (wpAny_pure ⟨_,rfl,?_⟩) (hsz:=by show (2 : Nat)<=sizeLine;decide))
 exact q _ _ (w3.up fun c o _ e=>Heap.get?_push_of_some _ e) (Heap.get?_push_size _ rfl) fun c o c1 c2 c3 c4 e=>Heap.get?_push_of_some _ ((k3.2 c c4).trans ((k2.2 c c3).trans ((k1.2 c c1).trans e)))
theorem moreEnd {T : Addr} {bb : Bool} {oT : Obj} {Q : Fin->Shared->Prop} (hh : A.handled = none) (ap : Apart z TI TO i1 i2 l1 l2) (hw : W z TI TO i1 i2 l1 l2 (tuO xs n1 d1 s1) (tuO ys n2 d2 s2) (rawInt T) (.bool bb) a b k k s.heap) (hT : s.heap.get? T = some oT) (hx : xs[k]? = none)
  (q : ∀ h' e,Side z TO i1 i2 s.heap h'->(∃ o,h'.get? e = some o/\o.cls = .type "StopIteration")->E (.ref e) { s with heap:=h' }) :
  wpAny (model prog w) A (nxt z) Q E s:=by
 refine wpAny_bind (m:=field (.ref z) 2) (wpAny_field hw.z_ rfl (x:=.bool false) rfl (wpAny_bind (m:=field (.ref z) 3) (wpAny_field hw.z_ rfl (x:=.ref TI) rfl (wpAny_bind (wpAny_seqItems hw.ti rfl ?_)))))
 refine wpAny_bind (m:=Builtin.SmallTypes.ownedTupleIsFree (.ref z)) (taken ap hw hT fun h1 w1 k1=>?_)
 rw [if_neg Bool.false_ne_true]
 dsimp only
 rw [<- Array.forIn_toList]
 simp only [List.forIn_cons,List.forIn_nil]
 exact wpAny_bind (wpAny_bind (wpAny_bind (wpAny_holding (wpAny_bind (m:=Builtin.SmallTypes.nextOf (.ref i1)) (over hh w1.j1 w1.t1 hx fun h2 e k2 he=>q h2 e (fun c o c1 _ c3 _ v=>k2 c o c3 ((k1.2 c c1).trans v)) he)))))
end
end Wz
end
section
set_option maxRecDepth 100000
namespace Wz
open PySem PySem.Spec
theorem five (h : Heap) (a b c d e : Obj) (fa : a.isFreed = false) (fb : b.isFreed = false) (fc : c.isFreed = false) (fd : d.isFreed = false) (fe : e.isFreed = false) :
  (((((h.push a).push b).push c).push d).push e).get? h.objs.size = some a/\(((((h.push a).push b).push c).push d).push e).get? (h.objs.size + 1) = some b/\(((((h.push a).push b).push c).push d).push e).get? (h.objs.size + 2) = some c/\(((((h.push a).push b).push c).push d).push e).get? (h.objs.size + 3) = some d/\(((((h.push a).push b).push c).push d).push e).get? (h.objs.size + 4) = some e/\
  (∀ x o,h.get? x = some o->(((((h.push a).push b).push c).push d).push e).get? x = some o)/\(((((h.push a).push b).push c).push d).push e).objs.size = h.objs.size + 5:=by
 have z1 : (h.push a).objs.size = h.objs.size + 1:=Heap.size_push ..
 have z2 : ((h.push a).push b).objs.size = h.objs.size + 2:=(Heap.size_push ..).trans (by rw [z1])
 have z3 : (((h.push a).push b).push c).objs.size = h.objs.size + 3:=(Heap.size_push ..).trans (by rw [z2])
 have z4 : ((((h.push a).push b).push c).push d).objs.size = h.objs.size + 4:=(Heap.size_push ..).trans (by rw [z3])
 have up : ∀ {h : Heap} {x : Addr} {o q : Obj},h.get? x = some o->(h.push q).get? x = some o:=fun e=>Heap.get?_push_of_some _ e
 have g2:=Heap.get?_push_size (h.push a) (o:=b) fb
 have g3:=Heap.get?_push_size ((h.push a).push b) (o:=c) fc
 have g4:=Heap.get?_push_size (((h.push a).push b).push c) (o:=d) fd
 have g5:=Heap.get?_push_size ((((h.push a).push b).push c).push d) (o:=e) fe
 rw [z1] at g2
 rw [z2] at g3
 rw [z3] at g4
 rw [z4] at g5
 exact ⟨up (up (up (up (Heap.get?_push_size h fa)))),up (up (up g2)),up (up g3),up g4,g5,fun x o q=>up (up (up (up (up q)))),(Heap.size_push ..).trans (by rw [z4])⟩
theorem meets_zip (t u : Addr) (xs ys : Array Value) :
  Meets (Builtin.«zip.__new__» ⟨[.type "zip",.ref t,.ref u],[]⟩) (fun _ R s=>s.heap.IsTuple t xs/\s.heap.IsTuple u ys/\∀ h' n,n = s.heap.objs.size->h'.get? n = some (itO t 0)->h'.get? (n + 1) = some (itO u 0)->h'.get? (n + 2) = some (prO (.ref n) (.ref (n + 1)))->h'.get? (n + 3) = some (prO .none .none)->h'.get? (n + 4) = some (zpO .none (.bool false) (n + 2) (n + 3))->
   (∀ x o,s.heap.get? x = some o->h'.get? x = some o)->h'.objs.size = n + 5->R (.ok (.ret (.ref (n + 4)))) { s with heap:=h' }):=
 .of_wp fun prog w A R s hs=>by
  obtain ⟨hp,g,d,tk,os⟩:=s
  obtain ⟨ht,hu,q⟩:=hs
  have sub:=sub_zip
  have p1 : Heap.IsTuple (Shared.heap ⟨hp,g,d,tk,os⟩) t xs:=ht
  have p2 : Heap.IsTuple (Shared.heap ⟨hp.push { cls:=.type "tuple_iterator",data:=.fields #[.ref t,.int 0 0] },g,d,tk,os⟩) u ys:=Heap.IsTuple.push hu _
  have f:=five hp (itO t 0) (itO u 0) (prO (.ref hp.objs.size) (.ref (hp.objs.size + 1))) (prO .none .none) (zpO .none (.bool false) (hp.objs.size + 2) (hp.objs.size + 3)) rfl rfl rfl rfl rfl
  wp_walk using wpAny_pyIter_tuple p1,wpAny_pyIter_tuple p2
  refine ⟨_,rfl,?_⟩
  have fin:=q _ hp.objs.size rfl f.1 f.2.1 f.2.2.1 f.2.2.2.1 f.2.2.2.2.1 f.2.2.2.2.2.1 f.2.2.2.2.2.2
  have gen : ∀ m1 m2 m3 m4 : Nat,m1 = hp.objs.size + 1->m2 = hp.objs.size + 2->m3 = hp.objs.size + 3->m4 = hp.objs.size + 4->R (.ok (.ret (.ref m4))) ⟨((((hp.push (itO t 0)).push (itO u 0)).push (prO (.ref hp.objs.size) (.ref m1))).push (prO .none .none)).push (zpO .none (.bool false) m2 m3),g,d,tk,os⟩:=by
   intro m1 m2 m3 m4 q1 q2 q3 q4
   subst q1 q2 q3 q4
   exact fin
  exact gen _ _ _ _ (Heap.size_push ..) ((Heap.size_push ..).trans (congrArg (· + 1) (Heap.size_push ..))) ((Heap.size_push ..).trans (congrArg (· + 1) ((Heap.size_push ..).trans (congrArg (· + 1) (Heap.size_push ..))))) ((Heap.size_push ..).trans (congrArg (· + 1) ((Heap.size_push ..).trans (congrArg (· + 1) ((Heap.size_push ..).trans (congrArg (· + 1) (Heap.size_push ..)))))))
section
variable {prog : Program} {w : World} {A : Around} {E : Value->Shared->Prop} {s : Shared}
theorem zipped {t u : Addr} {xs ys : Array Value} {Q : Value->Shared->Prop} (ht : s.heap.IsTuple t xs) (hu : s.heap.IsTuple u ys)
  (q : ∀ h' n,n = s.heap.objs.size->h'.get? n = some (itO t 0)->h'.get? (n + 1) = some (itO u 0)->h'.get? (n + 2) = some (prO (.ref n) (.ref (n + 1)))->h'.get? (n + 3) = some (prO .none .none)->h'.get? (n + 4) = some (zpO .none (.bool false) (n + 2) (n + 3))->
   (∀ x o,s.heap.get? x = some o->h'.get? x = some o)->h'.objs.size = n + 5->Q (.ref (n + 4)) { s with heap:=h' }) :
  wpAny (model prog w) A (call (.type "zip") [.ref t,.ref u]) Q E s:=
 callType_new F.called_zip (by decide) (F.typeCall_zip_2 _ _) (F.newCall_zip_2 _ _) (fun obj=>F.args_object_init_3 obj _ _) F.entry_zip_new (meets_zip t u xs ys)
  ⟨ht,hu,fun h' n e a1 a2 a3 a4 a5 k z=>⟨⟨_,a5,rfl⟩,q h' n e a1 a2 a3 a4 a5 k z⟩⟩
end
theorem noKeys : typeLookup (.type "zip") "keys" = pure none:=by rw [typeLookup_type,builtinLookup_eq_fast];kernel_rfl
theorem noGet : typeLookup (.type "zip") "__getattr__" = pure none:=by rw [typeLookup_type,builtinLookup_eq_fast];kernel_rfl
theorem getsBy : entryFor table "zip.__getattribute__" = some Builtin.«object.__getattribute__»:=entryFor_alias (id' := "object.__getattribute__") (by kernel_rfl) (by decide +kernel) (by decide +kernel) (by kernel_rfl)
theorem meets_lacks (a : Addr) (f0 f1 : Value) (TI TO : Addr) (u : Tok) : Meets (Builtin.«object.__getattribute__» ⟨[.ref a,.str "keys" u],[]⟩) (fun A R s=>s.heap.get? a = some (zpO f0 f1 TI TO)/\raisesAttr (.ref a) "keys" A R s):=.of_wp fun prog w A R s hs=>by
 obtain ⟨hp,g,d,tk,os⟩:=s
 obtain ⟨e,hh,q⟩:=hs
 have ty : (⟨hp,g,d,tk,os⟩ : Shared).TypeIs (.ref a) "zip":=⟨_,e,rfl⟩
 have no:=noKeys
 wp_walk
 exact wpAny_raiseAttrError hh q (attrMsg_fits (by decide +kernel) (by size_fits))
section
variable {prog : Program} {w : World} {A : Around} {E : Value->Shared->Prop} {hp : Heap} {g : Array GenState} {d : Drawn} {tk : Nat} {os : OsState} {a TI TO : Addr} {f0 f1 : Value}
theorem gone {u : Tok} {kw : List (Str × Value)} {Q : Value->Shared->Prop} (e : hp.get? a = some (zpO f0 f1 TI TO)) (hh : A.handled = none) (hk : kw = []) (q : ∀ h' tk' x,Heap.NewAttrErr hp h' x (.ref a) "keys"->E (.ref x) ⟨h',g,d,tk',os⟩) :
  wpAny (model prog w) A (call (.builtin "zip.__getattribute__") ([.ref a] ++ [.str "keys" u]) kw) Q E ⟨hp,g,d,tk,os⟩:=by
 subst hk
 exact call_meets F.slot_zip_getattribute ⟨_,e,rfl⟩ getsBy (F.args_zip_getattribute_2 _ _) (meets_lacks a f0 f1 TI TO u) ⟨e,hh,fun h' tk' x hx=>q h' tk' x hx⟩
theorem lacks {Q : Option Value->Shared->Prop} (e : hp.get? a = some (zpO f0 f1 TI TO)) (hh : A.handled = none) (q : ∀ h' tk',(∀ b o,hp.get? b = some o->h'.get? b = some o)->Q none ⟨h',g,d,tk',os⟩) : wpAny (model prog w) A (getAttr? (.ref a) "keys") Q E ⟨hp,g,d,tk,os⟩:=by
 have ty : ∀ tk',(⟨hp,g,d,tk',os⟩ : Shared).TypeIs (.ref a) "zip":=fun _=>⟨_,e,rfl⟩
 have f3:=F.slot_zip_getattribute.lookup
 have f4:=F.slot_zip_getattribute.bind (.ref a)
 have f5:=noGet
 have sub:=sub_AttributeError
 wp_walk using gone e hh
 case hk=>rfl
 intro h' tk' x hx
 obtain ⟨t,u,ex⟩:=hx.there
 show wpAny _ _ (getattributeRaised _ _ _ _ _ _ _) _ _ _
 wp_walk
 exact q _ _ hx.keeps
end
end Wz
end
section
set_option maxRecDepth 100000
namespace Wz
open PySem PySem.Spec
noncomputable def ZS (z TI TO i1 i2 l1 l2 : Addr) (o1 o2 : Obj) (k : Nat) (h : Heap) : Prop:=∃ f0 f1 a b,W z TI TO i1 i2 l1 l2 o1 o2 f0 f1 a b k k h/\
 ((f0 = .none/\f1 = .bool false)\/∃ (T : Addr) (bb : Bool) (u v : Value),f0 = rawInt T/\f1 = .bool bb/\h.get? T = some (prO u v)/\T ≠ z/\T ≠ TO/\T ≠ i1/\T ≠ i2)
section
variable {prog : Program} {w : World} {A : Around} {E : Value->Shared->Prop} {s : Shared} {z TI TO i1 i2 l1 l2 d : Addr} {n1 n2 : Nat} {d1 d2 : Option Addr} {s1 s2 : Array (Option Value)} {x y : Value} {k : Nat} {xs ys : Array Value}
theorem apart {h : Heap} {c d : Addr} {o od : Obj} {T : String} (e : h.get? c = some o) (hc : o.cls = .type T) (ed : h.get? d = some od) (hd : od.cls = .type "dict") (ne : (Value.type T == Value.type "dict") = false) : c ≠ d:=fun q=>by
 subst q
 rw [e] at ed
 cases ed
 rw [hc] at hd
 rw [hd] at ne
 simp at ne
theorem ZS.keep {h h' : Heap} {od : Obj} (Z : ZS z TI TO i1 i2 l1 l2 (tuO xs n1 d1 s1) (tuO ys n2 d2 s2) k h) (ed : h.get? d = some od) (hd : od.cls = .type "dict") (e : ∀ c o,c ≠ d->h.get? c = some o->h'.get? c = some o) : ZS z TI TO i1 i2 l1 l2 (tuO xs n1 d1 s1) (tuO ys n2 d2 s2) k h':=by
 obtain ⟨f0,f1,a,b,hw,hf⟩:=Z
 refine ⟨f0,f1,a,b,⟨e _ _ (apart hw.z_ rfl ed hd (by decide)) hw.z_,e _ _ (apart hw.ti rfl ed hd (by decide)) hw.ti,e _ _ (apart hw.to rfl ed hd (by decide)) hw.to,e _ _ (apart hw.j1 rfl ed hd (by decide)) hw.j1,e _ _ (apart hw.j2 rfl ed hd (by decide)) hw.j2,e _ _ (apart hw.t1 rfl ed hd (by decide)) hw.t1,e _ _ (apart hw.t2 rfl ed hd (by decide)) hw.t2⟩,?_⟩
 rcases hf with hf | ⟨T,bb,u,v,h1,h2,h3,h4⟩
 ·exact .inl hf
 ·exact .inr ⟨T,bb,u,v,h1,h2,e _ _ (apart h3 rfl ed hd (by decide)) h3,h4⟩
theorem zs_next {Q : Option Value->Shared->Prop} (ap : Apart z TI TO i1 i2 l1 l2) (Z : ZS z TI TO i1 i2 l1 l2 (tuO xs n1 d1 s1) (tuO ys n2 d2 s2) k s.heap) (hx : xs[k]? = some x) (hy : ys[k]? = some y)
  (q : ∀ h' p,ZS z TI TO i1 i2 l1 l2 (tuO xs n1 d1 s1) (tuO ys n2 d2 s2) (k + 1) h'->h'.get? p = some (prO x y)->Side z TO i1 i2 s.heap h'->Q (some (.ref p)) { s with heap:=h' }) : wpAny (model prog w) A (pyNext (.ref z)) Q E s:=by
 obtain ⟨f0,f1,a,b,hw,hf⟩:=Z
 refine wpAny_bind (wpAny_attempt (wpAny_callSpecial?_slot hw.ty F.slot_zip_next (wpAny_call_entry F.slot_zip_next hw.ty F.entry_zip_next ?_ (F.args_zip_next_1 _))))
 rcases hf with ⟨rfl,rfl⟩ | ⟨T,bb,u,v,rfl,rfl,hT,t1,t2,t3,t4⟩
 ·refine first ap hw hx hy fun h' p w' ep pp sd=>wpAny_pure (q h' p ⟨_,_,_,_,w',.inr ⟨p,false,x,y,rfl,rfl,ep,?_⟩⟩ ep sd)
  subst pp
  have lt : ∀ {c o},s.heap.get? c = some o->s.heap.objs.size ≠ c:=fun e=>Nat.ne_of_gt (Heap.lt_size e)
  exact ⟨lt hw.z_,lt hw.to,lt hw.j1,lt hw.j2⟩
 ·exact more ap hw hT hx hy fun h' p w' ep sd=>wpAny_pure (q h' p ⟨_,_,_,_,w',.inr ⟨T,true,u,v,rfl,rfl,sd _ _ t1 t2 t3 t4 hT,t1,t2,t3,t4⟩⟩ ep sd)
theorem zs_end {Q : Option Value->Shared->Prop} (hh : A.handled = none) (ap : Apart z TI TO i1 i2 l1 l2) (Z : ZS z TI TO i1 i2 l1 l2 (tuO xs n1 d1 s1) (tuO ys n2 d2 s2) k s.heap) (hx : xs[k]? = none)
  (q : ∀ h',Side z TO i1 i2 s.heap h'->Q none { s with heap:=h' }) : wpAny (model prog w) A (pyNext (.ref z)) Q E s:=by
 obtain ⟨f0,f1,a,b,hw,hf⟩:=Z
 refine wpAny_bind (wpAny_attempt (wpAny_callSpecial?_slot hw.ty F.slot_zip_next (wpAny_call_entry F.slot_zip_next hw.ty F.entry_zip_next ?_ (F.args_zip_next_1 _))))
 have stop : ∀ h' e,Side z TO i1 i2 s.heap h'->(∃ o,h'.get? e = some o/\o.cls = .type "StopIteration")->wpAny (model prog w) A (do if <- isInstance (.ref e) (.type "StopIteration") then pure none else throw (.ref e)) Q E { s with heap:=h' }:=fun h' e sd he=>wpAny_bind (wpAny_isInstance (T := "StopIteration") (b:=true) he isSubtype_stop (wpAny_pure (q h' sd)))
 rcases hf with ⟨rfl,rfl⟩ | ⟨T,bb,u,v,rfl,rfl,hT,_⟩
 ·exact firstEnd hh ap hw hx fun h' e sd he=>stop h' e sd he
 ·exact moreEnd hh ap hw hT hx fun h' e sd he=>stop h' e sd he
end
theorem entry_dul : entryFor table "dict.update.loop" = some Builtin.«dict.update.loop»:=entryFor_of_tree (by kernel_rfl)
section
variable {prog : Program} {w : World} {K : Type} [DecidableEq K] {knd : KeyKind prog w K} {A : Around} {R : Except Value Flow->Shared->Prop} {z TI TO i1 i2 l1 l2 d : Addr} {n1 n2 : Nat} {d1 d2 : Option Addr} {s1 s2 : Array (Option Value)} {xs ys : Array Value} {ks : List K}
theorem upd_loop (hh : A.handled = none) (ap : Apart z TI TO i1 i2 l1 l2) (hdz : d ≠ z) (hdT : d ≠ TO) (hd1 : d ≠ i1) (hd2 : d ≠ i2) (hsz : ys.size = xs.size) (hk : ∀ (i : Nat) (x : Value),xs[i]? = some x->∃ k,ks[i]? = some k/\knd.is k x = true) :
  ∀ (m k : Nat) (s : Shared) (kvs : List (K × Value)),k + m = xs.size->kvs.length + m<=sizeLine->ZS z TI TO i1 i2 l1 l2 (tuO xs n1 d1 s1) (tuO ys n2 d2 s2) k s.heap->s.heap.DictOf knd d kvs->
  (∀ h' tk,h'.DictOf knd d (merged kvs ((ks.zip ys.toList).drop k))->(∀ c o,c ≠ d->c ≠ z->c ≠ TO->c ≠ i1->c ≠ i2->s.heap.get? c = some o->h'.get? c = some o)->R (.ok (.ret .none)) { s with heap:=h',toks:=tk })->
  codeAny (model prog w) A (.builtin "dict.update.loop" ⟨[.ref d,.ref z,rawInt k,.none],[]⟩) R s:=by
 intro m
 induction m with
 | zero=>
  intro k s kvs hkm hl Z hd q
  refine codeAny_builtin entry_dul ?_
  rw [Around.under_plainId (show plainId "dict.update.loop" = true by decide +kernel) _]
  refine wpAny_bind (m:=pyNext (.ref z)) (zs_end hh ap Z (Array.getElem?_eq_none (by lia)) fun h' kp=>?_)
  refine wpAny_bind (m:=Builtin.Dict.addKeywords d []) ?_
  unfold Builtin.Dict.addKeywords
  rw [List.forIn_nil]
  refine wpAny_bind (wpAny_pure (wpAny_pure (wpAny_pure ?_)))
  have e : (ks.zip ys.toList).drop k = []:=List.drop_eq_nil_of_le (by rw [List.length_zip];have : ys.toList.length = ys.size:=Array.length_toList;lia)
  rw [e] at q
  obtain ⟨o,es,ep,ho,r⟩:=hd
  exact q _ s.toks ⟨o,es,ep,kp d o hdz hdT hd1 hd2 ho,r⟩ fun c o _ c1 c2 c3 c4 e=>kp c o c1 c2 c3 c4 e
 | succ m ih=>
  intro k s kvs hkm hl Z hd q
  have hlt : k < xs.size:=by lia
  have hlt2 : k < ys.size:=by lia
  have hx : xs[k]? = some xs[k]:=Array.getElem?_eq_getElem hlt
  have hy : ys[k]? = some ys[k]:=Array.getElem?_eq_getElem hlt2
  obtain ⟨key,hkey,his⟩:=hk k _ hx
  refine codeAny_builtin entry_dul ?_
  rw [Around.under_plainId (show plainId "dict.update.loop" = true by decide +kernel) _]
  refine wpAny_bind (m:=pyNext (.ref z)) (zs_next ap Z hx hy fun h' p Z' hp kp=>?_)
  refine wpAny_bind (wpAny_holding (wpAny_bind (wpAny_tryCatch ?_)))
  refine wpAny_bind (wpAny_typeOf (T := "tuple") ⟨_,hp,rfl⟩ ?_)
  rw [if_pos (by decide)]
  refine wpAny_bind (wpAny_seqItems hp rfl (wpAny_pure ?_))
  show wpAny _ _ (holding [xs[k],ys[k]] (dictSet d xs[k] ys[k])) _ _ _
  have hd' : h'.DictOf knd d kvs:=let ⟨o,es,ep,ho,r⟩:=hd;⟨o,es,ep,kp d o hdz hdT hd1 hd2 ho,r⟩
  obtain ⟨od,es,ep,ho,hc,_⟩:=id hd'
  refine wpAny_holding (wpAny_dictSet_pairs his hd' (fun h2 hd2' sb=>?_) (by lia))
  refine wpAny_pure ⟨Code.quiet_builtin _ (by decide +kernel),?_⟩
  have ek : (rawInt (k + 1) : Value) = rawInt ((k + 1 : Nat) : Int):=rfl
  rw [ek]
  have hzip : (ks.zip ys.toList).drop k = (key,ys[k]) :: (ks.zip ys.toList).drop (k + 1):=by
   have hlz : (ks.zip ys.toList)[k]? = some (key,ys[k]):=by
    rw [List.getElem?_zip_eq_some]
    exact ⟨hkey,by rw [Array.getElem?_toList];exact hy⟩
   obtain ⟨h1,h2⟩:=List.getElem?_eq_some_iff.mp hlz
   rw [List.drop_eq_getElem_cons h1,h2]
  have ls : (stored kvs key ys[k]).length<=kvs.length + 1:=by
   unfold stored
   split
   ·rw [List.length_map];lia
   ·rw [List.length_append];exact Nat.le_refl _
  refine ih (k + 1) _ (stored kvs key ys[k]) (by lia) (by lia) (Z'.keep ho hc.1 fun c o hcd e=>(sb.2 c hcd).trans e) hd2' fun h3 tk hd3 kp3=>?_
  refine q h3 tk (by rw [hzip];exact hd3) fun c o c0 c1 c2 c3 c4 e=>kp3 c o c0 c1 c2 c3 c4 ((sb.2 c c0).trans (kp c o c1 c2 c3 c4 e))
end
section
variable {prog : Program} {w : World} {K : Type} [DecidableEq K] {knd : KeyKind prog w K} {A : Around} {E : Value->Shared->Prop} {hp : Heap} {g : Array GenState} {dr : Drawn} {tk : Nat} {os : OsState} {z TI TO i1 i2 l1 l2 : Addr} {n1 n2 : Nat} {d1 d2 : Option Addr} {s1 s2 : Array (Option Value)} {xs ys : Array Value} {ks : List K}
theorem dict_zip {Q : Value->Shared->Prop} (hh : A.handled = none) (ap : Apart z TI TO i1 i2 l1 l2) {a b : Value} (hw : W z TI TO i1 i2 l1 l2 (tuO xs n1 d1 s1) (tuO ys n2 d2 s2) .none (.bool false) a b 0 0 hp) (hsz : ys.size = xs.size) (hxs : xs.size<=1000) (hk : ∀ (i : Nat) (x : Value),xs[i]? = some x->∃ k,ks[i]? = some k/\knd.is k x = true)
  (q : ∀ h' tk',h'.DictOf knd hp.objs.size (merged [] (ks.zip ys.toList))->Side z TO i1 i2 hp h'->Q (.ref hp.objs.size) ⟨h',g,dr,tk',os⟩) :
  wpAny (model prog w) A (call (.type "dict") [.ref z]) Q E ⟨hp,g,dr,tk,os⟩:=by
 have hnew : (hp.push { cls:=.type "dict",data:=.dict #[] }).DictOf knd hp.objs.size []:=Heap.DictOf.new hp
 have up : ∀ c o,hp.get? c = some o->(hp.push { cls:=.type "dict",data:=.dict #[] }).get? c = some o:=fun c o e=>Heap.get?_push_of_some _ e
 have lt : ∀ {c o},hp.get? c = some o->hp.objs.size ≠ c:=fun e=>Nat.ne_of_gt (Heap.lt_size e)
 refine callType_codes (Q₁:=fun v s₁=>v = .ref hp.objs.size/\s₁ = ⟨hp.push { cls:=.type "dict",data:=.dict #[] },g,dr,tk,os⟩) F.kt_called_dict (F.kt_typeCall_dict_1 _) F.entry_dict_init (kt_code_dict_new _ ⟨rfl,rfl⟩) fun v s₁ hv=>?_
 obtain ⟨rfl,rfl⟩:=hv
 have ty : (⟨hp.push { cls:=.type "dict",data:=.dict #[] },g,dr,tk,os⟩ : Shared).TypeIs (.ref hp.objs.size) "dict":=hnew.typeIs
 have ez:=up _ _ hw.z_
 have tz : (⟨hp.push { cls:=.type "dict",data:=.dict #[] },g,dr,tk,os⟩ : Shared).TypeIs (.ref z) "zip":=⟨_,ez,rfl⟩
 refine ⟨ty,F.args_dict_init_2 _ _,wpAny_bind (m:=Builtin.Dict.selfAndRest "__init__" _) (wpAny_bind (wpAny_notOrdered_dict ty (wpAny_pure ?_)))⟩
 refine wpAny_bind (m:=typeOf (.ref z)) (wpAny_typeOf tz ?_)
 rw [if_pos (by decide)]
 refine wpAny_bind (lacks ez hh fun h' tk' kp=>?_)
 rw [if_pos (show (none : Option Value).isNone = true from rfl)]
 refine wpAny_bind (wpAny_rule (wpAny_bind (wpAny_pyIter_zip (TI:=TI) (TO:=TO) (f0:=.none) (kp _ _ ez) (wpAny_pure ⟨Code.quiet_builtin _ (by decide +kernel),?_⟩))))
 have hd' : h'.DictOf knd hp.objs.size []:=let ⟨o,es,ep,ho,r⟩:=hnew;⟨o,es,ep,kp _ _ ho,r⟩
 refine upd_loop (A:=A.in1) (ks:=ks) (show A.in1.handled = none from hh) ap (lt hw.z_) (lt hw.to) (lt hw.j1) (lt hw.j2) hsz hk xs.size 0 ⟨h',g,dr,tk',os⟩ [] (by lia) (by rw [List.length_nil,sizeLine_eq];lia) ⟨_,_,_,_,hw.up fun c o _ e=>kp c o (up c o e),.inl ⟨rfl,rfl⟩⟩ hd' fun h2 tk2 hd2 kp2=>?_
 exact ⟨rfl,q h2 tk2 hd2 fun c o c1 c2 c3 c4 e=>kp2 c o (fun x=>lt e x.symm) c1 c2 c3 c4 (kp c o (up c o e))⟩
end
end Wz
end
section
set_option maxRecDepth 100000
namespace Mi
open PySem L2 PySem.SeqAt PySem.Spec PyProof.Rows
variable [KFrag]
theorem boot_zip : bootBuiltins "zip" = some (.type "zip"):=by decide +kernel
theorem boot_dct : bootBuiltins "dict" = some (.type "dict"):=by decide +kernel
theorem keys_of {P : Addr->Prop} {H : Hp} {pr : Program} {w : World} : ∀ {vs : List V} {us : List Value} {ds : List D},Reps P H vs ds->Vals vs us->ds.all flatKey = true->∃ ks : List Key,ks.map kD = ds/\ks.length = us.length/\∀ (i : Nat) (u : Value),us[i]? = some u->∃ k,ks[i]? = some k/\(mixKind pr w).is k u = true
 | _,_,_,.nil,.nil,_=>⟨[],rfl,rfl,fun i u h=>by simp at h⟩
 | v :: vs,u :: us,d :: ds,.cons r t,.cons rv tv,h=>by
  rw [List.all_cons,Bool.and_eq_true] at h
  obtain ⟨ks,h1,h2,h3⟩:=keys_of (pr:=pr) (w:=w) t tv h.2
  obtain ⟨k,hk1,hk2⟩ : ∃ k : Key,kD k = d/\(mixKind pr w).is k u = true:=by
   cases r with
   | int i=>exact ⟨.inl i,rfl,kV_is (k:=.inl i) rv⟩
   | str x=>exact ⟨.inr x,rfl,kV_is (k:=.inr x) rv⟩
   | _=>cases h.1
  refine ⟨k :: ks,by rw [List.map_cons,hk1,h1],by rw [List.length_cons,List.length_cons,h2],fun i u' hu=>?_⟩
  cases i with
  | zero=>simp at hu;subst hu;exact ⟨k,rfl,hk2⟩
  | succ i=>exact h3 i u' (by simpa using hu)
theorem repk_put {P : Addr->Prop} {H : Hp} {k : Key} {v : V} {d : D} (r : Rep P H v d) : ∀ {kvs : List (Key × V)} {ds : List (D × D)},RepK P H kvs ds->(kvs.map (·.1)).Nodup->RepK P H (putK kvs k v) (putD ds (kD k) d)
 | _,_,.nil,_=>.cons r .nil
 | _,_,.cons (k:=k') (v:=v') (r:=kvs) (ds:=ds) r' t,hn=>by
  rw [List.map_cons,List.nodup_cons] at hn
  rw [putD,kD_eq]
  by_cases h : k' = k
  ·rw [putK_pos h (by rw [<- h];exact hn.1),if_pos (decide_eq_true h),h]
   exact .cons r t
  ·rw [putK_neg h,if_neg (by simpa using h)]
   exact .cons r' (repk_put r t hn.2)
theorem repk_zip {P : Addr->Prop} {H : Hp} : ∀ {ks : List Key} {vs : List V} {ds : List D} {kvs : List (Key × V)} {es : List (D × D)},Reps P H vs ds->RepK P H kvs es->(kvs.map (·.1)).Nodup->RepK P H (mergeK kvs (ks.zip vs)) (zipPut (ks.map kD) ds es)/\((mergeK kvs (ks.zip vs)).map (·.1)).Nodup
 | [],_,_,_,_,_,r,n=>by
  rw [List.zip_nil_left]
  exact ⟨by cases ‹List D› <;> exact r,n⟩
 | k :: ks,_,_,kvs,es,.nil,r,n=>⟨r,n⟩
 | k :: ks,_,_,kvs,es,.cons rv tv,r,n=>repk_zip (ks:=ks) tv (repk_put rv r n) (putK_keys n)
theorem kv_zip {vs : List V} {us : List Value} (r : Vals vs us) : ∀ ks : List Key,KV (ks.zip vs) (ks.zip us):=by
 induction r with
 | nil=>intro ks;rw [List.zip_nil_right,List.zip_nil_right];exact .nil
 | cons h t ih=>
  intro ks
  cases ks with
  | nil=>exact .nil
  | cons k ks=>exact .cons ⟨rfl,h⟩ (ih ks)
theorem zip_apart {n l m : Nat} (hl : l < n) (hm : m < n) : Wz.Apart (n + 4) (n + 2) (n + 3) n (n + 1) l m:=by
 constructor <;> (intro h;replace h : @Eq Nat _ _:=h;lia)
section
variable {X : Cx} {a b : Expr} {fs : FA} {rr : Bool} {p p2 pos pos2 : Pos}
theorem me_dzip (hg : Gl X "dict") (hm : X.mg "dict" = none) (hg2 : Gl X "zip") (hm2 : X.mg "zip" = none) (ha : PA X [a,b] (gA fs rr)) (hc : X.calm = true:=by rfl) (hs2 : starEach [a,b] X.env = (false,eval a X.env) :: starEach [b] X.env:=by rfl) (hpl2 : (backTo pos2 (starEach [b] X.env)).any (·.1) = false:=by rfl)
  (hs : starEach [.Call (.Name "zip" p2) [a,b] [] pos2] X.env = (false,eval (.Call (.Name "zip" p2) [a,b] [] pos2) X.env) :: starEach [] X.env:=by rfl) :
  PE X (.Call (.Name "dict" p) [.Call (.Name "zip" p2) [a,b] [] pos2] [] pos) (gE (bCall zipDct fs) true):=by
 intro pins s σ H Q I ⟨ρ,d,E,h,q⟩
 obtain ⟨xs,h1,h2⟩:=bindE h
 unfold zipDct at h2
 split at h2
 ·rename_i xs ys
  split at h2
  ·rename_i hb
   cases h2
   simp only [Bool.and_eq_true,decide_eq_true_eq] at hb
   obtain ⟨⟨⟨hb1,hb2⟩,hb3⟩,hb4⟩:=hb
   refine wpAny_Call_Name_kw (ld_blt I hg hm boot_dct ?_)
   refine PyProof.Rows.callWith_type1 ?_ hs rfl
   rw [hs]
   show wpAny _ _ (spliced ((false,eval (.Call (.Name "zip" p2) [a,b] [] pos2) X.env) :: backTo pos (starEach [] X.env))) _ _ s
   refine Calls.spliced_cons ?_
   refine wpAny_Call_Name_kw (ld_blt I hg2 hm2 boot_zip ?_)
   refine PyProof.Rows.callWith_type1 (thn (ha pos2 pins s σ H (fun vs H1=>Same H H1/\Reps All H1 vs [.tup xs,.tup ys]) I ⟨ρ,_,E,h1,fun vs H1 s1 r1 _=>⟨s1,r1⟩⟩) fun us s1 ⟨vs,H1,I1,r1,sm,rp⟩=>?_) hs2 hpl2
   cases rp with
   | cons rp1 rp=>
    cases rp with
    | cons rp2 rp=>
     cases rp
     obtain ⟨l1,vs1,rfl,e1,rr1⟩:=rp1.tupAt
     obtain ⟨l2,vs2,rfl,e2,rr2⟩:=rp2.tupAt
     cases r1 with
     | cons q1 r1=>
      cases r1 with
      | cons q2 r1=>
       cases r1
       cases q1
       cases q2
       obtain ⟨its1,w1,p1,_⟩:=I1.tuple (.of e1)
       obtain ⟨its2,w2,p2,_⟩:=I1.tuple (.of e2)
       have t1 : s1.heap.IsTuple l1 its1.toArray:=p1
       have t2 : s1.heap.IsTuple l2 its2.toArray:=p2
       obtain ⟨⟨c1,dd1,da1,sl1⟩,g1,hc1,m1,hd1⟩:=id p1
       obtain ⟨⟨c2,dd2,da2,sl2⟩,g2,hc2,m2,hd2⟩:=id p2
       simp only at hc1 hd1 hc2 hd2
       subst hc1 hd1 hc2 hd2
       have hl1:=Heap.lt_size g1
       have hl2:=Heap.lt_size g2
       refine Wz.zipped t1 t2 fun h' n hn z1 z2 z3 z4 z5 kp zsz=>?_
       subst hn
       refine Calls.spliced_nil ?_
       have n1:=w1.length
       have n2:=w2.length
       have m1:=rr1.length
       have m2:=rr2.length
       obtain ⟨ks,k1,k2,k3⟩:=keys_of (pr:=X.prog) (w:=X.w) rr1 w1 hb3
       refine Wz.dict_zip (knd:=mixKind X.prog X.w) (ks:=ks) (I1.ok.hd hc) (zip_apart hl1 hl2) ⟨z5,z3,z4,z1,z2,kp _ _ g1,kp _ _ g2⟩ (by simp only [List.size_toArray];lia) (by simp only [List.size_toArray];lia) (fun i u hu=>k3 i u (by simpa using hu)) fun h2 tk dd kp2=>?_
       have hfr : H1 h'.objs.size = none:=I1.hok.fresh (by rw [zsz];lia)
       have kall : ∀ c o,s1.heap.get? c = some o->h2.get? c = some o:=fun c o e=>by
        have:=Heap.lt_size e
        exact kp2 c o (Nat.ne_of_lt (Nat.lt_of_lt_of_le this (Nat.le_add_right _ 4))) (Nat.ne_of_lt (Nat.lt_of_lt_of_le this (Nat.le_add_right _ 3))) (Nat.ne_of_lt this) (Nat.ne_of_lt (Nat.lt_of_lt_of_le this (Nat.le_add_right _ 1))) (kp c o e)
       have rel : KV (mergeK [] (ks.zip vs2)) (merged [] (ks.zip its2)):=(kv_zip w2 ks).merge .nil
       have hz : (mergeK [] (ks.zip vs2)).length<=sizeLine:=by
        have:=length_mergeK (ks.zip vs2) []
        rw [List.length_nil,List.length_zip] at this
        rw [sizeLine_eq]
        lia
       obtain ⟨rk,nd⟩:=repk_zip (ks:=ks) (P:=All) (rr2) RepK.nil List.nodup_nil
       rw [k1] at rk
       have sp : Same H1 (upd H1 h'.objs.size (.dK (mergeK [] (ks.zip vs2)))):=Same.upd hfr
       have pv : D.pures ((zipPut xs ys []).map (·.2)) = true:=by
        have go : ∀ (a b : List D) (m : List (D × D)),D.pures b = true->D.pures (m.map (·.2)) = true->D.pures ((zipPut a b m).map (·.2)) = true:=by
         intro a
         induction a with
         | nil=>intro b m _ hm;cases b <;> exact hm
         | cons x a ih=>
          intro b m hb hm
          cases b with
          | nil=>exact hm
          | cons y b=>
           rw [D.pures,Bool.and_eq_true] at hb
           refine ih b _ hb.2 ?_
           have hp:=putD_pures (ds:=m) (k:=x) hb.1 hm
           exact hp
        exact go xs ys [] hb4 rfl
       have rk2 : ∀ {P : Addr->Prop},RepK P (upd H1 h'.objs.size (.dK (mergeK [] (ks.zip vs2)))) (mergeK [] (ks.zip vs2)) (zipPut xs ys []):=fun {P}=>(rk.keep (.same sp) fun _ h=>h).ofPure pv
       refine ⟨.ref h'.objs.size,_,I1.laid (a:=h'.objs.size) (t':=tk) (o:=.dK (mergeK [] (ks.zip vs2))) kall (by rw [zsz];lia) (dk_new hz (beq_eq_false_iff_ne.mpr ?_) rel (by simpa using dd)),rfl,?_⟩
       ·exact Ne.symm (Nat.ne_of_lt (Nat.lt_of_lt_of_le I1.big (by rw [zsz];exact Nat.le_add_right _ 5)))
       ·exact q _ _ (sm.trans sp) (.dK upd_same trivial rk2 nd) fun _=>.dK upd_same (sm.free hfr) rk2 nd
  ·cases h2
 ·cases h2
end
end Mi
end
section
local macro_rules | `(tactic| trivial) => `(tactic| first | exact Or.inl rfl | exact Or.inr rfl | exact Or.inr (Or.inl rfl) | exact Or.inr (Or.inr rfl))
set_option maxRecDepth 100000
namespace Lk61
open PySem L2 Mi PySem.W
noncomputable def top (i : Nat) : Stmt:=PySem.Challenge.pw_hookmill_k61_stock.main.body.getD i (.Pass ⟨0,0,0,0⟩)
noncomputable abbrev s__law_draw : Stmt:=top 3
noncomputable def o__law_draw : Nat->Bool:=fun i=>false
noncomputable def b__law_draw : FS:=sSeq (sSet false 2 (bC (.int 0)) true) (sSeq (sIf (bTB (b2 (cmpD (.ord .gt)) (bCall lenD (bCons (bVar 0) (bNil))) (bC (.int 0)))) (sSet false 2 (b2 (binD .mod) (b2 getD (bVar 0) (b2 (binD .mod) (bVar 1) (bCall lenD (bCons (bVar 0) (bNil))))) (bC (.int 2147483647))) true) (sNil)) (sSeq (sSet false 3 (b2 (binD .mod) (b2 mulX (b2 (binD .add) (b2 (binD .add) (bVar 2) (bC (.int 1))) (b2 mulX (bC (.int 104729)) (b2 (binD .fdiv) (bVar 1) (bCall (minmax .gt) (bCons (bC (.int 1)) (bCons (bCall lenD (bCons (bVar 0) (bNil))) (bNil))))))) (bC (.int 48271))) (bC (.int 2147483647))) true) (sRet (b2 (binD .mod) (b2 mulX (bVar 3) (bVar 3)) (bC (.int 2147483629))) true)))
noncomputable def v__law_draw : List D->Res D:=fnS 2 4 b__law_draw
noncomputable abbrev s__law_word : Stmt:=top 4
noncomputable def o__law_word : Nat->Bool:=fun i=>false
noncomputable def b__law_word : FS:=sSeq (sSet false 2 (bC (.str "abcdefghijklmnopqrstuvwxyz")) true) (sSeq (sIf (bAnd (bTB (b2 inX (bVar 1) (bTup (bCons (bC (.int 4)) (bCons (bC (.int 17)) (bNil)))))) (bTB (b2 (cmpD .eq) (b2 (binD .mod) (bCall (argN 2 v__law_draw) (bCons (bVar 0) (bCons (bC (.int 36)) (bNil)))) (bC (.int 5))) (bC (.int 1))))) (sRet (b2 (binD .add) (b2 getD (bLst (bCons (bC (.str "drop")) (bCons (bC (.str "copy")) (bNil)))) (b2 (binD .fdiv) (bVar 1) (bC (.int 17)))) (b2 getD (bVar 2) (b2 (binD .mod) (bCall (argN 2 v__law_draw) (bCons (bVar 0) (bCons (bC (.int 37)) (bNil)))) (bC (.int 26))))) true) (sNil)) (sSeq (sSet false 3 (bCall (argN 2 v__law_draw) (bCons (bVar 0) (bCons (bC (.int 0)) (bNil)))) true) (sSeq (sSet false 4 (b2 getD (bLst (bCons (b2 getD (bVar 2) (b2 (binD .mod) (bVar 3) (bC (.int 26)))) (bCons (b2 getD (bC (.str "abdz")) (b2 (binD .mod) (b2 (binD .fdiv) (bVar 3) (bC (.int 26))) (bC (.int 4)))) (bNil)))) (b2 (binD .mod) (b2 (binD .fdiv) (bVar 3) (bC (.int 104))) (bC (.int 2)))) false) (sSeq (sSet false 5 (b2 (binD .mod) (bCall (argN 2 v__law_draw) (bCons (bVar 0) (bCons (bC (.int 1)) (bNil)))) (bC (.int 8))) true) (sSeq (sSet false 6 (b2 (binD .mod) (bCall (argN 2 v__law_draw) (bCons (bVar 0) (bCons (bC (.int 2)) (bNil)))) (b2 (binD .sub) (bC (.int 8)) (bVar 5))) true) (sSeq (sIf (bTB (b2 (cmpD .eq) (b2 (binD .mod) (b2 (binD .fdiv) (bCall (argN 2 v__law_draw) (bCons (bVar 0) (bCons (bC (.int 1)) (bNil)))) (bC (.int 8))) (bC (.int 2))) (bC (.int 1)))) (sSet false 6 (b2 (binD .mod) (bCall (argN 2 v__law_draw) (bCons (bVar 0) (bCons (b2 (binD .add) (bC (.int 4)) (bVar 1)) (bNil)))) (b2 (binD .sub) (bC (.int 8)) (bVar 5))) true) (sNil)) (sRet (b2 (binD .add) (b2 (binD .add) (b2 mulX (bVar 4) (bVar 5)) (b2 getD (bVar 2) (b2 (binD .mod) (b2 (binD .add) (bVar 1) (bCall (argN 2 v__law_draw) (bCons (bVar 0) (bCons (bC (.int 3)) (bNil))))) (bC (.int 26))))) (b2 mulX (bVar 4) (bVar 6))) true)))))))
noncomputable def v__law_word : List D->Res D:=fnS 2 7 b__law_word
noncomputable abbrev s__law_makers : Stmt:=top 5
noncomputable def o__law_makers : Nat->Bool:=fun i=>i == 2
noncomputable def b__law_makers : FS:=sSeq (sSet true 2 (bLst (bNil)) true) (sSeq (sFor (bThen (bCons (bVar 1) (bNil)) rng1D) (tg1 3) (sSeq (sSet false 4 (bTup (bNil)) true) (sSeq (sIf (bAnd (bTB (b2 (cmpD (.ord .gt)) (bVar 3) (bC (.int 0)))) (bTB (b2 (cmpD (.ord .gt)) (b2 (binD .mod) (b2 (binD .fdiv) (bCall (argN 2 v__law_draw) (bCons (bVar 0) (bCons (bC (.int 38)) (bNil)))) (bVar 3)) (bC (.int 3))) (bC (.int 0))))) (sSet false 4 (bTup (bCons (bCall (argN 2 v__law_word) (bCons (bVar 0) (bCons (bC (.int 0)) (bNil)))) (bNil))) true) (sNil)) (sSeq (sApp 2 (bTup (bCons (bCall (argN 2 v__law_word) (bCons (bVar 0) (bCons (b2 (binD .add) (bC (.int 3)) (b2 mulX (bC (.int 3)) (bVar 3))) (bNil)))) (bCons (bCall (argN 2 v__law_word) (bCons (bVar 0) (bCons (bVar 3) (bNil)))) (bCons (bVar 4) (bNil)))))) (sFor (bThen (bCons (bC (.int 1)) (bCons (b2 (binD .add) (bC (.int 2)) (b2 (binD .mod) (bCall (argN 2 v__law_draw) (bCons (bVar 0) (bCons (b2 (binD .add) (bC (.int 40)) (b2 mulX (bC (.int 3)) (bVar 3))) (bNil)))) (bC (.int 2)))) (bNil))) rng2D) (tg1 5) (sSeq (sSet false 6 (bCall (argN 2 v__law_draw) (bCons (bVar 0) (bCons (b2 (binD .add) (b2 (binD .add) (bC (.int 40)) (b2 mulX (bC (.int 3)) (bVar 3))) (bVar 5)) (bNil)))) true) (sSeq (sSet false 7 (b2 getD (bLst (bCons (bC (.int 1)) (bCons (b2 (binD .mod) (bVar 6) (bC (.int 4))) (bNil)))) (b2 (binD .sub) (bVar 5) (bC (.int 1)))) false) (sSeq (sSet false 8 (bCall tupleD (bCons (bComp 9 (bThen (bCons (bVar 7) (bNil)) rng1D) oneT (bTrue) (bCall (argN 2 v__law_word) (bCons (bVar 0) (bCons (b2 (binD .mod) (b2 (binD .fdiv) (bVar 6) (b2 (binD .add) (bC (.int 6)) (b2 mulX (bC (.int 7)) (bVar 9)))) (bVar 1)) (bNil)))) true) (bNil))) false) (sApp 2 (bTup (bCons (bCall (argN 2 v__law_word) (bCons (bVar 0) (bCons (b2 (binD .add) (b2 (binD .add) (bC (.int 3)) (b2 mulX (bC (.int 3)) (bVar 3))) (bVar 5)) (bNil)))) (bCons (bCall (argN 2 v__law_word) (bCons (bVar 0) (bCons (bVar 3) (bNil)))) (bCons (bVar 8) (bNil)))))))))))))) (sRet (bCall tupleD (bCons (bVar 2) (bNil))) false))
noncomputable def v__law_makers : List D->Res D:=fnS 2 9 b__law_makers
noncomputable abbrev s__law_takers : Stmt:=top 6
noncomputable def o__law_takers : Nat->Bool:=fun i=>i == 2
noncomputable def b__law_takers : FS:=sSeq (sSet true 2 (bLst (bNil)) true) (sSeq (sFor (bThen (bCons (b2 (binD .mod) (bCall (argN 2 v__law_draw) (bCons (bVar 0) (bCons (bC (.int 50)) (bNil)))) (bC (.int 4))) (bNil)) rng1D) (tg1 3) (sSeq (sSet false 4 (bCall (argN 2 v__law_draw) (bCons (bVar 0) (bCons (b2 (binD .add) (bC (.int 51)) (bVar 3)) (bNil)))) true) (sSeq (sSet false 5 (bCall tupleD (bCons (bComp 7 (bThen (bCons (b2 (binD .mod) (b2 (binD .fdiv) (bVar 4) (bC (.int 4))) (bC (.int 3))) (bNil)) rng1D) oneT (bTrue) (bCall (argN 2 v__law_word) (bCons (bVar 0) (bCons (b2 (binD .mod) (b2 (binD .fdiv) (bVar 4) (b2 (binD .add) (bC (.int 12)) (b2 mulX (bC (.int 7)) (bVar 7)))) (bVar 1)) (bNil)))) true) (bNil))) false) (sSeq (sSet false 6 (bTup (bCons (bCall (argN 2 v__law_word) (bCons (bVar 0) (bCons (b2 (binD .mod) (bVar 4) (bVar 1)) (bNil)))) (bCons (bCall (argN 2 v__law_word) (bCons (bVar 0) (bCons (b2 (binD .mod) (b2 (binD .fdiv) (bVar 4) (bC (.int 2))) (bVar 1)) (bNil)))) (bNil)))) true) (sApp 2 (b2 addT (b2 addT (bTup (bCons (bCall (argN 2 v__law_word) (bCons (bVar 0) (bCons (b2 (binD .add) (bC (.int 17)) (bVar 3)) (bNil)))) (bNil))) (bVar 6)) (bTup (bCons (bVar 5) (bNil))))))))) (sRet (bCall tupleD (bCons (bVar 2) (bNil))) false))
noncomputable def v__law_takers : List D->Res D:=fnS 2 7 b__law_takers
noncomputable abbrev s__law_words : Stmt:=top 7
noncomputable def o__law_words : Nat->Bool:=fun i=>i == 7 || i == 8
noncomputable def b__law_words : FS:=sSeq (sSet true 7 (bLst (bNil)) true) (sSeq (sSet true 8 (bLstP (bCons (bTup (bCons (bVar 4) (bCons (bC (.bl false)) (bNil)))) (bNil))) true) (sSeq (sWhl (bTB (b2 (cmpD (.ord .gt)) (bCall lenD (bCons (bVar 8) (bNil))) (bC (.int 0)))) (sSeq (sPopL 8 9 (bC (.int 0))) (sSeq (sSet false 10 (bCall (argN 2 v__law_draw) (bCons (bVar 0) (bCons (b2 (binD .add) (bVar 1) (bCall lenD (bCons (bVar 7) (bNil)))) (bNil)))) true) (sSeq (sSet false 11 (bCompD 17 3 oneT (bTB (b2 (cmpD .eq) (b2 getD (bVar 3) (bVar 17)) (b2 getD (bVar 9) (bC (.int 0))))) (bVar 17)) true) (sSeq (sSet false 12 (bComp 17 (bItemsX (b2 getD (bVar 2) (bC (.int 0))) false) oneT (bTB (b2 (cmpD .eq) (b2 getD (bVar 17) (bC (.int 1))) (b2 getD (bVar 9) (bC (.int 0))))) (bVar 17) false) true) (sSeq (sSet false 13 (bComp 17 (bItemsX (b2 getD (bVar 2) (bC (.int 1))) false) oneT (bTB (b2 (cmpD .eq) (b2 getD (bVar 17) (bC (.int 1))) (b2 getD (bVar 9) (bC (.int 0))))) (bVar 17) false) true) (sIf (bAnd (bTB (b2 (cmpD (.ord .lt)) (bCall lenD (bCons (bVar 7) (bNil))) (bVar 6))) (bTB (b2 (cmpD .eq) (bCall lenD (bCons (bVar 8) (bNil))) (bC (.int 0))))) (sSeq (sApp 7 (b2 getD (b2 getD (bVar 12) (bC (.int 1))) (bC (.int 0)))) (sSet true 8 (bLstP (bCons (bTup (bCons (b2 getD (b2 getD (b2 getD (bVar 12) (bC (.int 1))) (bC (.int 2))) (bC (.int 0))) (bCons (bC (.bl false)) (bNil)))) (bNil))) true)) (sIf (bOr (bTr (b2 getD (bVar 9) (bC (.int 1)))) (bOr (bTB (b2 (cmpD (.ord .ge)) (b2 (binD .add) (bCall lenD (bCons (bVar 7) (bNil))) (bCall lenD (bCons (bVar 8) (bNil)))) (bVar 5))) (bTB (b2 (cmpD .eq) (b2 (binD .mod) (bVar 10) (bC (.int 4))) (bC (.int 0)))))) (sSeq (sApp 7 (b2 getD (b2 (binD .add) (bVar 11) (bLstP (bCons (b2 getD (b2 getD (bVar 12) (bC (.int 0))) (bC (.int 0))) (bNil)))) (b2 (binD .mod) (b2 (binD .fdiv) (bVar 10) (bC (.int 4))) (bCall (minmax .gt) (bCons (bC (.int 1)) (bCons (bCall lenD (bCons (bVar 11) (bNil))) (bNil))))))) (sIf (bTB (b2 (cmpD .eq) (bCall lenD (bCons (bVar 11) (bNil))) (bC (.int 0)))) (sSet true 8 (b2 (binD .add) (bComp 17 (bItemsX (b2 getD (b2 getD (bVar 12) (bC (.int 0))) (bC (.int 2))) false) oneT (bTrue) (bTup (bCons (bVar 17) (bCons (bC (.bl true)) (bNil)))) false) (bVar 8)) true) (sNil))) (sIf (bOr (bTB (b2 (cmpD (.ord .lt)) (b2 (binD .mod) (bVar 10) (bC (.int 4))) (bC (.int 3)))) (bTB (b2 (cmpD .eq) (bCall lenD (bCons (bVar 13) (bNil))) (bC (.int 0))))) (sSeq (sSet false 14 (b2 getD (bVar 12) (b2 (binD .mod) (b2 (binD .fdiv) (bVar 10) (bC (.int 4))) (bCall lenD (bCons (bVar 12) (bNil))))) false) (sSeq (sApp 7 (b2 getD (bVar 14) (bC (.int 0)))) (sSet true 8 (b2 (binD .add) (bComp 17 (bItemsX (b2 getD (bVar 14) (bC (.int 2))) false) oneT (bTrue) (bTup (bCons (bVar 17) (bCons (bC (.bl false)) (bNil)))) false) (bVar 8)) true))) (sSeq (sSet false 15 (b2 getD (bVar 13) (b2 (binD .mod) (b2 (binD .fdiv) (bVar 10) (bC (.int 4))) (bCall lenD (bCons (bVar 13) (bNil))))) false) (sSeq (sApp 7 (b2 getD (bVar 15) (bC (.int 0)))) (sSeq (sSet false 16 (bAndV (b2 (cmpD (.ord .gt)) (bCall lenX (bCons (bVar 3) (bNil))) (bC (.int 0))) (b2 (cmpD (.ord .gt)) (b2 (binD .mod) (b2 (binD .fdiv) (bVar 10) (bC (.int 64))) (bC (.int 4))) (bC (.int 0)))) true) (sSet true 8 (b2 (binD .add) (b2 (binD .add) (bLstP (bCons (bTup (bCons (b2 getD (bVar 15) (bC (.int 2))) (bCons (bVar 16) (bNil)))) (bNil))) (bComp 17 (bItemsX (b2 getD (bVar 15) (bC (.int 3))) false) oneT (bTrue) (bTup (bCons (bVar 17) (bCons (bC (.bl false)) (bNil)))) false)) (bVar 8)) true))))))))))))) (sRet (bCall tupleD (bCons (bVar 7) (bNil))) false)))
noncomputable def v__law_words : List D->Res D:=fnS 7 17 b__law_words
noncomputable abbrev s__law_rules : Stmt:=top 8
noncomputable def o__law_rules : Nat->Bool:=fun i=>i == 2
noncomputable def b__law_rules : FS:=sSeq (sSet true 2 (bLst (bNil)) true) (sSeq (sFor (bItemsX (b2 getD (bVar 1) (bC (.int 1))) false) (tg1 3) (sFor (bItemsX (b2 getD (bVar 1) (bC (.int 0))) false) (tg1 4) (sIf (bTB (b2 (cmpD .eq) (b2 getD (bVar 4) (bC (.int 1))) (b2 getD (bVar 3) (bC (.int 2))))) (sSeq (sSet false 5 (b2 addT (b2 getD (bVar 4) (bC (.int 2))) (b2 getD (bVar 3) (bC (.int 3)))) false) (sSeq (sSet false 6 (bCall (argN 2 v__law_draw) (bCons (bVar 0) (bCons (b2 (binD .add) (bC (.int 26)) (bCall lenD (bCons (bVar 2) (bNil)))) (bNil)))) true) (sSeq (sSet false 7 (bComp 11 (bThen (bCons (bCall lenD (bCons (bVar 5) (bNil))) (bNil)) rng1D) oneT (bTrue) (bCall (argN 2 v__law_word) (bCons (bVar 0) (bCons (b2 (binD .add) (bC (.int 12)) (b2 (binD .mod) (b2 (binD .add) (bVar 6) (bVar 11)) (bC (.int 5)))) (bNil)))) true) true) (sSeq (sSet false 7 (bCall tupleD (bCons (b2 getD (bLst (bCons (bVar 7) (bCons (b1 revD (bVar 7)) (bNil)))) (b2 (binD .mod) (b2 (binD .fdiv) (bVar 6) (bC (.int 5))) (bC (.int 2)))) (bNil))) false) (sSeq (sSet false 8 (bCall zipDct (bCons (bVar 7) (bCons (bVar 5) (bNil)))) true) (sSeq (sSet false 9 (bCall (fun ds=>argN 7 v__law_words (ds ++ [.int 0])) (bCons (bVar 0) (bCons (b2 (binD .add) (bC (.int 100)) (b2 mulX (bC (.int 20)) (bCall lenD (bCons (bVar 2) (bNil))))) (bCons (bVar 1) (bCons (bVar 8) (bCons (b2 getD (bVar 3) (bC (.int 1))) (bCons (bC (.int 5)) (bNil)))))))) true) (sApp 2 (bTup (bCons (b2 getD (bVar 3) (bC (.int 0))) (bCons (b2 getD (bVar 4) (bC (.int 0))) (bCons (bVar 7) (bCons (bVar 9) (bNil))))))))))))) (sNil)))) (sSeq (sSet false 10 (b2 (binD .mod) (bCall (argN 2 v__law_draw) (bCons (bVar 0) (bCons (bC (.int 35)) (bNil)))) (bCall (minmax .gt) (bCons (bC (.int 1)) (bCons (bCall lenD (bCons (bVar 2) (bNil))) (bNil))))) true) (sRet (bCall tupleD (bCons (b2 (binD .add) (bSlX (bVar 2) (bSome (bVar 10)) (bNone)) (bSlX (bVar 2) (bNone) (bSome (bVar 10)))) (bNil))) false)))
noncomputable def v__law_rules : List D->Res D:=fnS 2 11 b__law_rules
noncomputable abbrev s__law_program : Stmt:=top 9
noncomputable def o__law_program : Nat->Bool:=fun i=>false
noncomputable def b__law_program : FS:=sSeq (sSet false 1 (b2 (binD .add) (bC (.int 1)) (b2 (binD .mod) (bCall (argN 2 v__law_draw) (bCons (bVar 0) (bCons (bC (.int 39)) (bNil)))) (bC (.int 3)))) true) (sSeq (sSet false 2 (bTup (bCons (bCall (argN 2 v__law_makers) (bCons (bVar 0) (bCons (bVar 1) (bNil)))) (bCons (bCall (argN 2 v__law_takers) (bCons (bVar 0) (bCons (bVar 1) (bNil)))) (bNil)))) true) (sSeq (sSet false 3 (bCall tupleD (bCons (bComp 4 (bThen (bCons (bVar 1) (bNil)) rng1D) oneT (bTrue) (bCall (argN 2 v__law_word) (bCons (bVar 0) (bCons (bVar 4) (bNil)))) true) (bNil))) false) (sRet (bTup (bCons (bVar 3) (bCons (b2 getD (bVar 2) (bC (.int 0))) (bCons (b2 getD (bVar 2) (bC (.int 1))) (bCons (bCall (argN 2 v__law_rules) (bCons (bVar 0) (bCons (bVar 2) (bNil)))) (bNil)))))) false)))
noncomputable def v__law_program : List D->Res D:=fnS 1 4 b__law_program
noncomputable abbrev s_stock_of : Stmt:=top 1
noncomputable def o_stock_of : Nat->Bool:=fun i=>i == 1
noncomputable def b_stock_of : FS:=sSeq (sSet true 1 (bC (.dct [])) true) (sSeq (sFor (bItemsX (b2 getD (bVar 0) (bC (.int 1))) false) (tgN [2,3,4]) (sPut 1 (bVar 2) (bCall lenD (bCons (bVar 4) (bNil))))) (sSeq (sFor (bItemsX (b2 getD (bVar 0) (bC (.int 2))) false) (tgN [2,3,5,6]) (sPut 1 (bVar 2) (b2 (binD .add) (bC (.int 1)) (bCall lenD (bCons (bVar 6) (bNil)))))) (sSeq (sPut 1 (bC (.str "copy")) (bC (.int 2))) (sSeq (sPut 1 (bC (.str "drop")) (bC (.int 0))) (sRetV 1)))))
noncomputable def v_stock_of : List D->Res D:=fnS 1 7 b_stock_of
noncomputable abbrev s__law_whole : Stmt:=top 10
noncomputable def o__law_whole : Nat->Bool:=fun i=>false
noncomputable def b__law_whole : FS:=sRet (bAndV (b1 (isTyD .int) (bVar 0)) (bNotV (b1 (isTyD .bool) (bVar 0)))) true
noncomputable def v__law_whole : List D->Res D:=fnS 1 1 b__law_whole
noncomputable abbrev s__law_right : Stmt:=top 11
noncomputable def o__law_right : Nat->Bool:=fun i=>i == 2
noncomputable def b__law_right : FS:=sSeq (sIf (bNot (bTr (b1 (isTyD .dict) (bVar 0)))) (sRet (bC (.bl false)) true) (sNil)) (sSeq (sSet true 2 (bC (.dct [(.str "copy",.int 2),(.str "drop",.int 0)])) true) (sSeq (sFor (bItemsX (b2 getD (bVar 1) (bC (.int 1))) false) (tg1 3) (sPut 2 (b2 getD (bVar 3) (bC (.int 0))) (bCall lenD (bCons (b2 getD (bVar 3) (bC (.int 2))) (bNil))))) (sSeq (sFor (bItemsX (b2 getD (bVar 1) (bC (.int 2))) false) (tg1 4) (sPut 2 (b2 getD (bVar 4) (bC (.int 0))) (b2 (binD .add) (bCall lenD (bCons (b2 getD (bVar 4) (bC (.int 3))) (bNil))) (bC (.int 1))))) (sSeq (sIf (bTB (b2 (cmpD .ne) (bCall lenX (bCons (bVar 0) (bNil))) (bCall lenX (bCons (bVar 2) (bNil))))) (sRet (bC (.bl false)) true) (sNil)) (sFzD 2 (tg1 5) (sIf (bOr (bTB (b2 (cmpD .notin) (bVar 5) (bVar 0))) (bOr (bNot (bTr (bCall (argN 1 v__law_whole) (bCons (b2 getD (bVar 0) (bVar 5)) (bNil))))) (bTB (b2 (cmpD .ne) (b2 getD (bVar 0) (bVar 5)) (b2 getD (bVar 2) (bVar 5)))))) (sRet (bC (.bl false)) true) (sNil)) (sRet (bC (.bl true)) true))))))
noncomputable def v__law_right : List D->Res D:=fnS 2 6 b__law_right
noncomputable abbrev s_law : Stmt:=top 12
noncomputable def o_law : Nat->Bool:=fun i=>i == 2
noncomputable def b_law : FS:=sSeq (sSet false 1 (bCall (argN 1 v__law_program) (bCons (bVar 0) (bNil))) true) (sSeq (sSet true 2 (bCall (argN 1 v_stock_of) (bCons (bVar 1) (bNil))) true) (sSeq (sIf (bNot (bTr (bCall (argN 2 v__law_right) (bCons (bVar 2) (bCons (bVar 1) (bNil)))))) (sRet (bC (.bl false)) true) (sNil)) (sSeq (sClr 2) (sRet (bCall (argN 2 v__law_right) (bCons (bCall (argN 1 v_stock_of) (bCons (bVar 1) (bNil))) (bCons (bVar 1) (bNil)))) true))))
noncomputable def v_law : List D->Res D:=fnS 1 3 b_law
theorem sc__law_draw : FnScope (["script", "k", "cell", "mixed"] : List Str) ["script", "k"] (defScope s__law_draw):=⟨rfl,rfl,rfl,by decide +kernel,rfl,by decide +kernel,by decide +kernel⟩
set_option maxHeartbeats 4000000 in
theorem cal__law_draw [KFrag] {P : Program} {w : World} {K : Frag} {mg : Str->Option Value} {base : Heap} {fad : Addr} {fd : FuncData} (hK : KFrag.K = K) (B : Bt mg)  (F : Fun K "_law_draw" "_law_draw" s__law_draw fad fd) (hm : mg "_law_draw" = some (.ref fad)) : CalOk P w K mg base 1 "_law_draw" 2 v__law_draw:=by
 have sc:=sc__law_draw
 refine cal_mk (ps:=["script", "k"]) (N:=(["script", "k", "cell", "mixed"] : List Str)) (k:=0) F hm (F.binds fun _ _ _ _ _ _ us hl=>match us,hl with | [_,_],_=>rfl) sc o__law_draw (by decide) (by decide) fun cdv A outer s H E hr=>?_
 have hu:=hu20 hr
 exact mss_cons (ms_set (i:=2) (o:=false) rfl sc.nd rfl (by trivial) (me_int)) (mss_cons (ms_if (mt_cmp (om_gt hu) (me_callB (cl_len hK) (by rfl) B.len vb_len (ma_cons (me_var (i:=0) rfl (by trivial)) (ma_nil))) (me_int) (nomark _)) (mss_one (ms_set (i:=2) (o:=false) rfl sc.nd rfl (by trivial) (me_op om_mod (me_ix (om_ix hK hu) (me_var (i:=0) rfl (by trivial)) (me_op om_mod (me_var (i:=1) rfl (by trivial)) (me_callB (cl_len hK) (by rfl) B.len vb_len (ma_cons (me_var (i:=0) rfl (by trivial)) (ma_nil)))) (fun _ _=>rfl)) (me_int)))) (mss_nil)) (mss_cons (ms_set (i:=3) (o:=false) rfl sc.nd rfl (by trivial) (me_op om_mod (me_op om_mulX (me_op om_add (me_op om_add (me_var (i:=2) rfl (by trivial)) (me_int)) (me_op om_mulX (me_int) (me_op om_fdiv (me_var (i:=1) rfl (by trivial)) (me_callB (om_max hu (by rfl)) (by rfl) B.max vb_max (ma_cons (me_int) (ma_cons (me_callB (cl_len hK) (by rfl) B.len vb_len (ma_cons (me_var (i:=0) rfl (by trivial)) (ma_nil))) (ma_nil))))))) (me_int)) (me_int))) (mss_one (ms_ret (me_op om_mod (me_op om_mulX (me_var (i:=3) rfl (by trivial)) (me_var (i:=3) rfl (by trivial))) (me_int))))))
theorem sc__law_word : FnScope (["script", "i", "letters", "draw", "pad", "place", "tail"] : List Str) ["script", "i"] (defScope s__law_word):=⟨rfl,rfl,rfl,by decide +kernel,rfl,by decide +kernel,by decide +kernel⟩
set_option maxHeartbeats 4000000 in
theorem cal__law_word [KFrag] {P : Program} {w : World} {K : Frag} {mg : Str->Option Value} {base : Heap} {fad : Addr} {fd : FuncData} (hK : KFrag.K = K) (B : Bt mg) (c__law_draw : CalOk P w K mg base 1 "_law_draw" 2 v__law_draw) (F : Fun K "_law_word" "_law_word" s__law_word fad fd) (hm : mg "_law_word" = some (.ref fad)) : CalOk P w K mg base 2 "_law_word" 2 v__law_word:=by
 have sc:=sc__law_word
 refine cal_mk (ps:=["script", "i"]) (N:=(["script", "i", "letters", "draw", "pad", "place", "tail"] : List Str)) (k:=1) F hm (F.binds fun _ _ _ _ _ _ us hl=>match us,hl with | [_,_],_=>rfl) sc o__law_word (by decide) (by decide) fun cdv A outer s H E hr=>?_
 have hu:=hu20 hr
 exact mss_cons (ms_set (i:=2) (o:=false) rfl sc.nd rfl (by trivial) (me_str)) (mss_cons (ms_if (PW.pt (mw_and (mt_cmp (om_inX hu) (me_var (i:=1) rfl (by trivial)) (me_tup (ma_cons (me_int) (ma_cons (me_int) (ma_nil)))) (by with_unfolding_all rfl)) (mw_and1 (mt_cmp (om_eq hu) (me_op om_mod (me_callC c__law_draw hr (by decide) (by rfl) (ma_cons (me_var (i:=0) rfl (by trivial)) (ma_cons (me_int) (ma_nil)))) (me_int)) (me_int) (nomark _))))) (mss_one (ms_ret (me_op om_add (me_ix (om_ix hK hu) (me_lst (ma_cons (me_str) (ma_cons (me_str) (ma_nil)))) (me_op om_fdiv (me_var (i:=1) rfl (by trivial)) (me_int)) (fun _ _=>rfl)) (me_ix (om_ix hK hu) (me_var (i:=2) rfl (by trivial)) (me_op om_mod (me_callC c__law_draw hr (by decide) (by rfl) (ma_cons (me_var (i:=0) rfl (by trivial)) (ma_cons (me_int) (ma_nil)))) (me_int)) (fun _ _=>rfl))))) (mss_nil)) (mss_cons (ms_set (i:=3) (o:=false) rfl sc.nd rfl (by trivial) (me_callC c__law_draw hr (by decide) (by rfl) (ma_cons (me_var (i:=0) rfl (by trivial)) (ma_cons (me_int) (ma_nil))))) (mss_cons (ms_set (i:=4) (o:=false) rfl sc.nd rfl (by trivial) (me_ix (om_ix hK hu) (me_lst (ma_cons (me_ix (om_ix hK hu) (me_var (i:=2) rfl (by trivial)) (me_op om_mod (me_var (i:=3) rfl (by trivial)) (me_int)) (fun _ _=>rfl)) (ma_cons (me_ix (om_ix hK hu) (me_str) (me_op om_mod (me_op om_fdiv (me_var (i:=3) rfl (by trivial)) (me_int)) (me_int)) (fun _ _=>rfl)) (ma_nil)))) (me_op om_mod (me_op om_fdiv (me_var (i:=3) rfl (by trivial)) (me_int)) (me_int)) (fun _ _=>rfl))) (mss_cons (ms_set (i:=5) (o:=false) rfl sc.nd rfl (by trivial) (me_op om_mod (me_callC c__law_draw hr (by decide) (by rfl) (ma_cons (me_var (i:=0) rfl (by trivial)) (ma_cons (me_int) (ma_nil)))) (me_int))) (mss_cons (ms_set (i:=6) (o:=false) rfl sc.nd rfl (by trivial) (me_op om_mod (me_callC c__law_draw hr (by decide) (by rfl) (ma_cons (me_var (i:=0) rfl (by trivial)) (ma_cons (me_int) (ma_nil)))) (me_op om_sub (me_int) (me_var (i:=5) rfl (by trivial))))) (mss_cons (ms_if (mt_cmp (om_eq hu) (me_op om_mod (me_op om_fdiv (me_callC c__law_draw hr (by decide) (by rfl) (ma_cons (me_var (i:=0) rfl (by trivial)) (ma_cons (me_int) (ma_nil)))) (me_int)) (me_int)) (me_int) (nomark _)) (mss_one (ms_set (i:=6) (o:=false) rfl sc.nd rfl (by trivial) (me_op om_mod (me_callC c__law_draw hr (by decide) (by rfl) (ma_cons (me_var (i:=0) rfl (by trivial)) (ma_cons (me_op om_add (me_int) (me_var (i:=1) rfl (by trivial))) (ma_nil)))) (me_op om_sub (me_int) (me_var (i:=5) rfl (by trivial)))))) (mss_nil)) (mss_one (ms_ret (me_op om_add (me_op om_add (me_op om_mulX (me_var (i:=4) rfl (by trivial)) (me_var (i:=5) rfl (by trivial))) (me_ix (om_ix hK hu) (me_var (i:=2) rfl (by trivial)) (me_op om_mod (me_op om_add (me_var (i:=1) rfl (by trivial)) (me_callC c__law_draw hr (by decide) (by rfl) (ma_cons (me_var (i:=0) rfl (by trivial)) (ma_cons (me_int) (ma_nil))))) (me_int)) (fun _ _=>rfl))) (me_op om_mulX (me_var (i:=4) rfl (by trivial)) (me_var (i:=6) rfl (by trivial))))))))))))
theorem sc__law_makers : FnScope (["script", "many", "makers", "j", "first", "i", "draw", "size", "things"] : List Str) ["script", "many"] (defScope s__law_makers):=⟨rfl,rfl,rfl,by decide +kernel,rfl,by decide +kernel,by decide +kernel⟩
set_option maxHeartbeats 4000000 in
theorem cal__law_makers [KFrag] {P : Program} {w : World} {K : Frag} {mg : Str->Option Value} {base : Heap} {fad : Addr} {fd : FuncData} (hK : KFrag.K = K) (B : Bt mg) (c__law_draw : CalOk P w K mg base 1 "_law_draw" 2 v__law_draw) (c__law_word : CalOk P w K mg base 2 "_law_word" 2 v__law_word) (F : Fun K "_law_makers" "_law_makers" s__law_makers fad fd) (hm : mg "_law_makers" = some (.ref fad)) : CalOk P w K mg base 3 "_law_makers" 2 v__law_makers:=by
 have sc:=sc__law_makers
 refine cal_mk (ps:=["script", "many"]) (N:=(["script", "many", "makers", "j", "first", "i", "draw", "size", "things"] : List Str)) (k:=2) F hm (F.binds fun _ _ _ _ _ _ us hl=>match us,hl with | [_,_],_=>rfl) sc o__law_makers (by decide) (by decide) fun cdv A outer s H E hr=>?_
 have hu:=hu20 hr
 exact mss_cons (ms_set (i:=2) (o:=true) rfl sc.nd rfl (by trivial) (me_lst (ma_nil))) (mss_cons (ms_for PassesOwn.never rfl (mi_rng1 (by rfl) B.range (ma_cons (me_var (i:=1) rfl (by trivial)) (ma_nil))) (tgs_one (i:=3) rfl) (pg_name (i:=3) sc.nd rfl (by trivial)) (mss_cons (ms_set (i:=4) (o:=false) rfl sc.nd rfl (by trivial) (me_tup (ma_nil))) (mss_cons (ms_if (PW.pt (mw_and (mt_cmp (om_gt hu) (me_var (i:=3) rfl (by trivial)) (me_int) (nomark _)) (mw_and1 (mt_cmp (om_gt hu) (me_op om_mod (me_op om_fdiv (me_callC c__law_draw hr (by decide) (by rfl) (ma_cons (me_var (i:=0) rfl (by trivial)) (ma_cons (me_int) (ma_nil)))) (me_var (i:=3) rfl (by trivial))) (me_int)) (me_int) (nomark _))))) (mss_one (ms_set (i:=4) (o:=false) rfl sc.nd rfl (by trivial) (me_tup (ma_cons (me_callC c__law_word hr (by decide) (by rfl) (ma_cons (me_var (i:=0) rfl (by trivial)) (ma_cons (me_int) (ma_nil)))) (ma_nil))))) (mss_nil)) (mss_cons (ms_app (i:=2) rfl rfl (by trivial) (me_tup (ma_cons (me_callC c__law_word hr (by decide) (by rfl) (ma_cons (me_var (i:=0) rfl (by trivial)) (ma_cons (me_op om_add (me_int) (me_op om_mulX (me_int) (me_var (i:=3) rfl (by trivial)))) (ma_nil)))) (ma_cons (me_callC c__law_word hr (by decide) (by rfl) (ma_cons (me_var (i:=0) rfl (by trivial)) (ma_cons (me_var (i:=3) rfl (by trivial)) (ma_nil)))) (ma_cons (me_var (i:=4) rfl (by trivial)) (ma_nil)))))) (mss_one (ms_for PassesOwn.never rfl (mi_rng2 (by rfl) B.range (ma_cons (me_int) (ma_cons (me_op om_add (me_int) (me_op om_mod (me_callC c__law_draw hr (by decide) (by rfl) (ma_cons (me_var (i:=0) rfl (by trivial)) (ma_cons (me_op om_add (me_int) (me_op om_mulX (me_int) (me_var (i:=3) rfl (by trivial)))) (ma_nil)))) (me_int))) (ma_nil)))) (tgs_one (i:=5) rfl) (pg_name (i:=5) sc.nd rfl (by trivial)) (mss_cons (ms_set (i:=6) (o:=false) rfl sc.nd rfl (by trivial) (me_callC c__law_draw hr (by decide) (by rfl) (ma_cons (me_var (i:=0) rfl (by trivial)) (ma_cons (me_op om_add (me_op om_add (me_int) (me_op om_mulX (me_int) (me_var (i:=3) rfl (by trivial)))) (me_var (i:=5) rfl (by trivial))) (ma_nil))))) (mss_cons (ms_set (i:=7) (o:=false) rfl sc.nd rfl (by trivial) (me_ix (om_ix hK hu) (me_lst (ma_cons (me_int) (ma_cons (me_op om_mod (me_var (i:=6) rfl (by trivial)) (me_int)) (ma_nil)))) (me_op om_sub (me_var (i:=5) rfl (by trivial)) (me_int)) (fun _ _=>rfl))) (mss_cons (ms_set (i:=8) (o:=false) rfl sc.nd rfl (by trivial) (me_callTy cl_tuple (by rfl) B.tuple vb_tuple (ma_cons (me_comp' (ownN:=(["p"] : List Str)) (show CompSc (["script", "many", "makers", "j", "first", "i", "draw", "size", "things"] : List Str) (defScope s__law_makers) _ (["p"] : List Str) from ⟨rfl,by decide +kernel,by decide +kernel,by decide +kernel,by decide +kernel,by decide +kernel,by decide +kernel⟩) (n:=9) (m:=1) rfl rfl rfl (mi_rng1 (by rfl) B.range (ma_cons (me_var (i:=7) rfl (by trivial)) (ma_nil))) (tgc_one 9) (fun _=>pg_name (i:=9) (show ((List.map (hideN (["p"] : List Str)) (["script", "many", "makers", "j", "first", "i", "draw", "size", "things"] : List Str) ++ (["p"] : List Str)) : List Str).Nodup from by decide +kernel) rfl (by trivial)) (fun _=>me_callC c__law_word hr (by decide) (by rfl) (ma_cons (me_var (i:=0) rfl (by trivial)) (ma_cons (me_op om_mod (me_op om_fdiv (me_var (i:=6) rfl (by trivial)) (me_op om_add (me_int) (me_op om_mulX (me_int) (me_var (i:=9) rfl (by trivial))))) (me_var (i:=1) rfl (by trivial))) (ma_nil)))) (fun _=>rfl)) (ma_nil)))) (mss_one (ms_app (i:=2) rfl rfl (by trivial) (me_tup (ma_cons (me_callC c__law_word hr (by decide) (by rfl) (ma_cons (me_var (i:=0) rfl (by trivial)) (ma_cons (me_op om_add (me_op om_add (me_int) (me_op om_mulX (me_int) (me_var (i:=3) rfl (by trivial)))) (me_var (i:=5) rfl (by trivial))) (ma_nil)))) (ma_cons (me_callC c__law_word hr (by decide) (by rfl) (ma_cons (me_var (i:=0) rfl (by trivial)) (ma_cons (me_var (i:=3) rfl (by trivial)) (ma_nil)))) (ma_cons (me_var (i:=8) rfl (by trivial)) (ma_nil)))))))))))))))) (mss_one (ms_ret (me_callTy cl_tuple (by rfl) B.tuple vb_tuple (ma_cons (me_var (i:=2) rfl (by trivial)) (ma_nil))))))
theorem sc__law_takers : FnScope (["script", "many", "takers", "i", "draw", "more", "kinds"] : List Str) ["script", "many"] (defScope s__law_takers):=⟨rfl,rfl,rfl,by decide +kernel,rfl,by decide +kernel,by decide +kernel⟩
set_option maxHeartbeats 4000000 in
theorem cal__law_takers [KFrag] {P : Program} {w : World} {K : Frag} {mg : Str->Option Value} {base : Heap} {fad : Addr} {fd : FuncData} (hK : KFrag.K = K) (B : Bt mg) (c__law_draw : CalOk P w K mg base 1 "_law_draw" 2 v__law_draw) (c__law_word : CalOk P w K mg base 2 "_law_word" 2 v__law_word) (F : Fun K "_law_takers" "_law_takers" s__law_takers fad fd) (hm : mg "_law_takers" = some (.ref fad)) : CalOk P w K mg base 3 "_law_takers" 2 v__law_takers:=by
 have sc:=sc__law_takers
 refine cal_mk (ps:=["script", "many"]) (N:=(["script", "many", "takers", "i", "draw", "more", "kinds"] : List Str)) (k:=2) F hm (F.binds fun _ _ _ _ _ _ us hl=>match us,hl with | [_,_],_=>rfl) sc o__law_takers (by decide) (by decide) fun cdv A outer s H E hr=>?_
 have hu:=hu20 hr
 exact mss_cons (ms_set (i:=2) (o:=true) rfl sc.nd rfl (by trivial) (me_lst (ma_nil))) (mss_cons (ms_for PassesOwn.never rfl (mi_rng1 (by rfl) B.range (ma_cons (me_op om_mod (me_callC c__law_draw hr (by decide) (by rfl) (ma_cons (me_var (i:=0) rfl (by trivial)) (ma_cons (me_int) (ma_nil)))) (me_int)) (ma_nil))) (tgs_one (i:=3) rfl) (pg_name (i:=3) sc.nd rfl (by trivial)) (mss_cons (ms_set (i:=4) (o:=false) rfl sc.nd rfl (by trivial) (me_callC c__law_draw hr (by decide) (by rfl) (ma_cons (me_var (i:=0) rfl (by trivial)) (ma_cons (me_op om_add (me_int) (me_var (i:=3) rfl (by trivial))) (ma_nil))))) (mss_cons (ms_set (i:=5) (o:=false) rfl sc.nd rfl (by trivial) (me_callTy cl_tuple (by rfl) B.tuple vb_tuple (ma_cons (me_comp' (ownN:=(["p"] : List Str)) (show CompSc (["script", "many", "takers", "i", "draw", "more", "kinds"] : List Str) (defScope s__law_takers) _ (["p"] : List Str) from ⟨rfl,by decide +kernel,by decide +kernel,by decide +kernel,by decide +kernel,by decide +kernel,by decide +kernel⟩) (n:=7) (m:=1) rfl rfl rfl (mi_rng1 (by rfl) B.range (ma_cons (me_op om_mod (me_op om_fdiv (me_var (i:=4) rfl (by trivial)) (me_int)) (me_int)) (ma_nil))) (tgc_one 7) (fun _=>pg_name (i:=7) (show ((List.map (hideN (["p"] : List Str)) (["script", "many", "takers", "i", "draw", "more", "kinds"] : List Str) ++ (["p"] : List Str)) : List Str).Nodup from by decide +kernel) rfl (by trivial)) (fun _=>me_callC c__law_word hr (by decide) (by rfl) (ma_cons (me_var (i:=0) rfl (by trivial)) (ma_cons (me_op om_mod (me_op om_fdiv (me_var (i:=4) rfl (by trivial)) (me_op om_add (me_int) (me_op om_mulX (me_int) (me_var (i:=7) rfl (by trivial))))) (me_var (i:=1) rfl (by trivial))) (ma_nil)))) (fun _=>rfl)) (ma_nil)))) (mss_cons (ms_set (i:=6) (o:=false) rfl sc.nd rfl (by trivial) (me_tup (ma_cons (me_callC c__law_word hr (by decide) (by rfl) (ma_cons (me_var (i:=0) rfl (by trivial)) (ma_cons (me_op om_mod (me_var (i:=4) rfl (by trivial)) (me_var (i:=1) rfl (by trivial))) (ma_nil)))) (ma_cons (me_callC c__law_word hr (by decide) (by rfl) (ma_cons (me_var (i:=0) rfl (by trivial)) (ma_cons (me_op om_mod (me_op om_fdiv (me_var (i:=4) rfl (by trivial)) (me_int)) (me_var (i:=1) rfl (by trivial))) (ma_nil)))) (ma_nil))))) (mss_one (ms_app (i:=2) rfl rfl (by trivial) (me_op om_addT (me_op om_addT (me_tup (ma_cons (me_callC c__law_word hr (by decide) (by rfl) (ma_cons (me_var (i:=0) rfl (by trivial)) (ma_cons (me_op om_add (me_int) (me_var (i:=3) rfl (by trivial))) (ma_nil)))) (ma_nil))) (me_var (i:=6) rfl (by trivial))) (me_tup (ma_cons (me_var (i:=5) rfl (by trivial)) (ma_nil)))))))))) (mss_one (ms_ret (me_callTy cl_tuple (by rfl) B.tuple vb_tuple (ma_cons (me_var (i:=2) rfl (by trivial)) (ma_nil))))))
theorem sc__law_words : FnScope (["script", "at", "book", "known", "kind", "most", "least", "words", "wanted", "here", "draw", "fit", "own", "able", "maker", "taker", "leaf"] : List Str) ["script", "at", "book", "known", "kind", "most", "least"] (defScope s__law_words):=⟨rfl,rfl,rfl,by decide +kernel,rfl,by decide +kernel,by decide +kernel⟩
set_option maxHeartbeats 4000000 in
theorem fok__law_words [KFrag] {P : Program} {w : World} {K : Frag} {mg : Str->Option Value} {base : Heap} {fad : Addr} {fd : FuncData} (hK : KFrag.K = K) (B : Bt mg) (c__law_draw : CalOk P w K mg base 1 "_law_draw" 2 v__law_draw) {T : Addr} {its : Array Value} (F : FunD K "_law_words" "_law_words" s__law_words fad fd T its) : FnOk P w K mg base CX0 2 fad fd ["script", "at", "book", "known", "kind", "most", "least"] (spD v__law_words 7):=by
 have sc:=sc__law_words
 refine fn_okD (ps:=["script", "at", "book", "known", "kind", "most", "least"]) (N:=(["script", "at", "book", "known", "kind", "most", "least", "words", "wanted", "here", "draw", "fit", "own", "able", "maker", "taker", "leaf"] : List Str)) (k:=1) F sc o__law_words (by decide) fun cdv A outer s H E hr=>?_
 have hu:=hu20 hr
 exact mss_cons (ms_set (i:=7) (o:=true) rfl sc.nd rfl (by trivial) (me_lst (ma_nil))) (mss_cons (ms_set (i:=8) (o:=true) rfl sc.nd rfl (by trivial) (me_lstP (ma_cons (me_tup (ma_cons (me_var (i:=4) rfl (by trivial)) (ma_cons (me_bl) (ma_nil)))) (ma_nil)))) (mss_cons (ms_whl PassesOwn.never (mt_cmp (om_gt hu) (me_callB (cl_len hK) (by rfl) B.len vb_len (ma_cons (me_var (i:=8) rfl (by trivial)) (ma_nil))) (me_int) (nomark _)) (mss_cons (ms_popL (i:=8) (j:=9) rfl rfl (by trivial) sc.nd rfl (by trivial) rfl (me_int)) (mss_cons (ms_set (i:=10) (o:=false) rfl sc.nd rfl (by trivial) (me_callC c__law_draw hr (by decide) (by rfl) (ma_cons (me_var (i:=0) rfl (by trivial)) (ma_cons (me_op om_add (me_var (i:=1) rfl (by trivial)) (me_callB (cl_len hK) (by rfl) B.len vb_len (ma_cons (me_var (i:=7) rfl (by trivial)) (ma_nil)))) (ma_nil))))) (mss_cons (ms_compD (show CompSc (["script", "at", "book", "known", "kind", "most", "least", "words", "wanted", "here", "draw", "fit", "own", "able", "maker", "taker", "leaf"] : List Str) (defScope s__law_words) _ (["x"] : List Str) from ⟨rfl,by decide +kernel,by decide +kernel,by decide +kernel,by decide +kernel,by decide +kernel,by decide +kernel⟩) (n:=17) (i:=3) rfl rfl rfl (by trivial) (fun _=>pg_name (i:=17) (show ((List.map (hideN (["x"] : List Str)) (["script", "at", "book", "known", "kind", "most", "least", "words", "wanted", "here", "draw", "fit", "own", "able", "maker", "taker", "leaf"] : List Str) ++ (["x"] : List Str)) : List Str).Nodup from by decide +kernel) rfl (by trivial)) (fun _=>mt_cmp (om_eq hu) (me_ix (om_ix hK hu) (me_var (i:=3) rfl (by trivial)) (me_var (i:=17) rfl (by trivial)) (fun _ _=>rfl)) (me_ix (om_ix hK hu) (me_var (i:=9) rfl (by trivial)) (me_int) (fun _ _=>rfl)) (nomark _)) (fun _=>me_var (i:=17) rfl (by trivial)) (fun _=>rfl) (iy:=11) (o:=false) rfl sc.nd rfl (by trivial) (Or.inl rfl) (by with_unfolding_all rfl)) (mss_cons (ms_compif' (ownN:=(["x"] : List Str)) (show CompSc (["script", "at", "book", "known", "kind", "most", "least", "words", "wanted", "here", "draw", "fit", "own", "able", "maker", "taker", "leaf"] : List Str) (defScope s__law_words) _ (["x"] : List Str) from ⟨rfl,by decide +kernel,by decide +kernel,by decide +kernel,by decide +kernel,by decide +kernel,by decide +kernel⟩) (n:=17) (m:=1) rfl rfl rfl (mi_valX (me_ix (om_ix hK hu) (me_var (i:=2) rfl (by trivial)) (me_int) (fun _ _=>rfl))) (tgc_one 17) (fun _=>pg_name (i:=17) (show ((List.map (hideN (["x"] : List Str)) (["script", "at", "book", "known", "kind", "most", "least", "words", "wanted", "here", "draw", "fit", "own", "able", "maker", "taker", "leaf"] : List Str) ++ (["x"] : List Str)) : List Str).Nodup from by decide +kernel) rfl (by trivial)) (fun _=>mt_cmp (om_eq hu) (me_ix (om_ix hK hu) (me_var (i:=17) rfl (by trivial)) (me_int) (fun _ _=>rfl)) (me_ix (om_ix hK hu) (me_var (i:=9) rfl (by trivial)) (me_int) (fun _ _=>rfl)) (nomark _)) (fun _=>me_var (i:=17) rfl (by trivial)) (fun _=>rfl) (iy:=12) (o:=false) rfl sc.nd rfl (by trivial) (Or.inl rfl) (by with_unfolding_all rfl)) (mss_cons (ms_compif' (ownN:=(["x"] : List Str)) (show CompSc (["script", "at", "book", "known", "kind", "most", "least", "words", "wanted", "here", "draw", "fit", "own", "able", "maker", "taker", "leaf"] : List Str) (defScope s__law_words) _ (["x"] : List Str) from ⟨rfl,by decide +kernel,by decide +kernel,by decide +kernel,by decide +kernel,by decide +kernel,by decide +kernel⟩) (n:=17) (m:=1) rfl rfl rfl (mi_valX (me_ix (om_ix hK hu) (me_var (i:=2) rfl (by trivial)) (me_int) (fun _ _=>rfl))) (tgc_one 17) (fun _=>pg_name (i:=17) (show ((List.map (hideN (["x"] : List Str)) (["script", "at", "book", "known", "kind", "most", "least", "words", "wanted", "here", "draw", "fit", "own", "able", "maker", "taker", "leaf"] : List Str) ++ (["x"] : List Str)) : List Str).Nodup from by decide +kernel) rfl (by trivial)) (fun _=>mt_cmp (om_eq hu) (me_ix (om_ix hK hu) (me_var (i:=17) rfl (by trivial)) (me_int) (fun _ _=>rfl)) (me_ix (om_ix hK hu) (me_var (i:=9) rfl (by trivial)) (me_int) (fun _ _=>rfl)) (nomark _)) (fun _=>me_var (i:=17) rfl (by trivial)) (fun _=>rfl) (iy:=13) (o:=false) rfl sc.nd rfl (by trivial) (Or.inl rfl) (by with_unfolding_all rfl)) (mss_one (ms_if (PW.pt (mw_and (mt_cmp (om_lt hu) (me_callB (cl_len hK) (by rfl) B.len vb_len (ma_cons (me_var (i:=7) rfl (by trivial)) (ma_nil))) (me_var (i:=6) rfl (by trivial)) (nomark _)) (mw_and1 (mt_cmp (om_eq hu) (me_callB (cl_len hK) (by rfl) B.len vb_len (ma_cons (me_var (i:=8) rfl (by trivial)) (ma_nil))) (me_int) (nomark _))))) (mss_cons (ms_app (i:=7) rfl rfl (by trivial) (me_ix (om_ix hK hu) (me_ix (om_ix hK hu) (me_var (i:=12) rfl (by trivial)) (me_int) (fun _ _=>rfl)) (me_int) (fun _ _=>rfl))) (mss_one (ms_set (i:=8) (o:=true) rfl sc.nd rfl (by trivial) (me_lstP (ma_cons (me_tup (ma_cons (me_ix (om_ix hK hu) (me_ix (om_ix hK hu) (me_ix (om_ix hK hu) (me_var (i:=12) rfl (by trivial)) (me_int) (fun _ _=>rfl)) (me_int) (fun _ _=>rfl)) (me_int) (fun _ _=>rfl)) (ma_cons (me_bl) (ma_nil)))) (ma_nil)))))) (mss_one (ms_if (PW.pt (mw_or (mt_val (me_ix (om_ix hK hu) (me_var (i:=9) rfl (by trivial)) (me_int) (fun _ _=>rfl))) (mw_or (mt_cmp (om_ge hu) (me_op om_add (me_callB (cl_len hK) (by rfl) B.len vb_len (ma_cons (me_var (i:=7) rfl (by trivial)) (ma_nil))) (me_callB (cl_len hK) (by rfl) B.len vb_len (ma_cons (me_var (i:=8) rfl (by trivial)) (ma_nil)))) (me_var (i:=5) rfl (by trivial)) (nomark _)) (mw_or1 (mt_cmp (om_eq hu) (me_op om_mod (me_var (i:=10) rfl (by trivial)) (me_int)) (me_int) (nomark _)))))) (mss_cons (ms_app (i:=7) rfl rfl (by trivial) (me_ix (om_ix hK hu) (me_op om_add (me_var (i:=11) rfl (by trivial)) (me_lstP (ma_cons (me_ix (om_ix hK hu) (me_ix (om_ix hK hu) (me_var (i:=12) rfl (by trivial)) (me_int) (fun _ _=>rfl)) (me_int) (fun _ _=>rfl)) (ma_nil)))) (me_op om_mod (me_op om_fdiv (me_var (i:=10) rfl (by trivial)) (me_int)) (me_callB (om_max hu (by rfl)) (by rfl) B.max vb_max (ma_cons (me_int) (ma_cons (me_callB (cl_len hK) (by rfl) B.len vb_len (ma_cons (me_var (i:=11) rfl (by trivial)) (ma_nil))) (ma_nil))))) (fun _ _=>rfl))) (mss_one (ms_if (mt_cmp (om_eq hu) (me_callB (cl_len hK) (by rfl) B.len vb_len (ma_cons (me_var (i:=11) rfl (by trivial)) (ma_nil))) (me_int) (nomark _)) (mss_one (ms_set (i:=8) (o:=true) rfl sc.nd rfl (by trivial) (me_op om_add (me_comp' (ownN:=(["x"] : List Str)) (show CompSc (["script", "at", "book", "known", "kind", "most", "least", "words", "wanted", "here", "draw", "fit", "own", "able", "maker", "taker", "leaf"] : List Str) (defScope s__law_words) _ (["x"] : List Str) from ⟨rfl,by decide +kernel,by decide +kernel,by decide +kernel,by decide +kernel,by decide +kernel,by decide +kernel⟩) (n:=17) (m:=1) rfl rfl rfl (mi_valX (me_ix (om_ix hK hu) (me_ix (om_ix hK hu) (me_var (i:=12) rfl (by trivial)) (me_int) (fun _ _=>rfl)) (me_int) (fun _ _=>rfl))) (tgc_one 17) (fun _=>pg_name (i:=17) (show ((List.map (hideN (["x"] : List Str)) (["script", "at", "book", "known", "kind", "most", "least", "words", "wanted", "here", "draw", "fit", "own", "able", "maker", "taker", "leaf"] : List Str) ++ (["x"] : List Str)) : List Str).Nodup from by decide +kernel) rfl (by trivial)) (fun _=>me_tup (ma_cons (me_var (i:=17) rfl (by trivial)) (ma_cons (me_bl) (ma_nil)))) (fun _=>rfl)) (me_var (i:=8) rfl (by trivial))))) (mss_nil)))) (mss_one (ms_if (PW.pt (mw_or (mt_cmp (om_lt hu) (me_op om_mod (me_var (i:=10) rfl (by trivial)) (me_int)) (me_int) (nomark _)) (mw_or1 (mt_cmp (om_eq hu) (me_callB (cl_len hK) (by rfl) B.len vb_len (ma_cons (me_var (i:=13) rfl (by trivial)) (ma_nil))) (me_int) (nomark _))))) (mss_cons (ms_set (i:=14) (o:=false) rfl sc.nd rfl (by trivial) (me_ix (om_ix hK hu) (me_var (i:=12) rfl (by trivial)) (me_op om_mod (me_op om_fdiv (me_var (i:=10) rfl (by trivial)) (me_int)) (me_callB (cl_len hK) (by rfl) B.len vb_len (ma_cons (me_var (i:=12) rfl (by trivial)) (ma_nil)))) (fun _ _=>rfl))) (mss_cons (ms_app (i:=7) rfl rfl (by trivial) (me_ix (om_ix hK hu) (me_var (i:=14) rfl (by trivial)) (me_int) (fun _ _=>rfl))) (mss_one (ms_set (i:=8) (o:=true) rfl sc.nd rfl (by trivial) (me_op om_add (me_comp' (ownN:=(["x"] : List Str)) (show CompSc (["script", "at", "book", "known", "kind", "most", "least", "words", "wanted", "here", "draw", "fit", "own", "able", "maker", "taker", "leaf"] : List Str) (defScope s__law_words) _ (["x"] : List Str) from ⟨rfl,by decide +kernel,by decide +kernel,by decide +kernel,by decide +kernel,by decide +kernel,by decide +kernel⟩) (n:=17) (m:=1) rfl rfl rfl (mi_valX (me_ix (om_ix hK hu) (me_var (i:=14) rfl (by trivial)) (me_int) (fun _ _=>rfl))) (tgc_one 17) (fun _=>pg_name (i:=17) (show ((List.map (hideN (["x"] : List Str)) (["script", "at", "book", "known", "kind", "most", "least", "words", "wanted", "here", "draw", "fit", "own", "able", "maker", "taker", "leaf"] : List Str) ++ (["x"] : List Str)) : List Str).Nodup from by decide +kernel) rfl (by trivial)) (fun _=>me_tup (ma_cons (me_var (i:=17) rfl (by trivial)) (ma_cons (me_bl) (ma_nil)))) (fun _=>rfl)) (me_var (i:=8) rfl (by trivial))))))) (mss_cons (ms_set (i:=15) (o:=false) rfl sc.nd rfl (by trivial) (me_ix (om_ix hK hu) (me_var (i:=13) rfl (by trivial)) (me_op om_mod (me_op om_fdiv (me_var (i:=10) rfl (by trivial)) (me_int)) (me_callB (cl_len hK) (by rfl) B.len vb_len (ma_cons (me_var (i:=13) rfl (by trivial)) (ma_nil)))) (fun _ _=>rfl))) (mss_cons (ms_app (i:=7) rfl rfl (by trivial) (me_ix (om_ix hK hu) (me_var (i:=15) rfl (by trivial)) (me_int) (fun _ _=>rfl))) (mss_cons (ms_set (i:=16) (o:=false) rfl sc.nd rfl (by trivial) (me_and (me_cmp (om_gt hu) (me_callB (cl_lenX hK) (by rfl) B.len vb_len (ma_cons (me_var (i:=3) rfl (by trivial)) (ma_nil))) (me_int) (nomark _)) (me_one (me_cmp (om_gt hu) (me_op om_mod (me_op om_fdiv (me_var (i:=10) rfl (by trivial)) (me_int)) (me_int)) (me_int) (nomark _))))) (mss_one (ms_set (i:=8) (o:=true) rfl sc.nd rfl (by trivial) (me_op om_add (me_op om_add (me_lstP (ma_cons (me_tup (ma_cons (me_ix (om_ix hK hu) (me_var (i:=15) rfl (by trivial)) (me_int) (fun _ _=>rfl)) (ma_cons (me_var (i:=16) rfl (by trivial)) (ma_nil)))) (ma_nil))) (me_comp' (ownN:=(["x"] : List Str)) (show CompSc (["script", "at", "book", "known", "kind", "most", "least", "words", "wanted", "here", "draw", "fit", "own", "able", "maker", "taker", "leaf"] : List Str) (defScope s__law_words) _ (["x"] : List Str) from ⟨rfl,by decide +kernel,by decide +kernel,by decide +kernel,by decide +kernel,by decide +kernel,by decide +kernel⟩) (n:=17) (m:=1) rfl rfl rfl (mi_valX (me_ix (om_ix hK hu) (me_var (i:=15) rfl (by trivial)) (me_int) (fun _ _=>rfl))) (tgc_one 17) (fun _=>pg_name (i:=17) (show ((List.map (hideN (["x"] : List Str)) (["script", "at", "book", "known", "kind", "most", "least", "words", "wanted", "here", "draw", "fit", "own", "able", "maker", "taker", "leaf"] : List Str) ++ (["x"] : List Str)) : List Str).Nodup from by decide +kernel) rfl (by trivial)) (fun _=>me_tup (ma_cons (me_var (i:=17) rfl (by trivial)) (ma_cons (me_bl) (ma_nil)))) (fun _=>rfl))) (me_var (i:=8) rfl (by trivial)))))))))))))))))))) (mss_one (ms_ret (me_callTy cl_tuple (by rfl) B.tuple vb_tuple (ma_cons (me_var (i:=7) rfl (by trivial)) (ma_nil)))))))
theorem sc__law_rules : FnScope (["script", "book", "rules", "taker", "maker", "kinds", "draw", "names", "known", "words", "at"] : List Str) ["script", "book"] (defScope s__law_rules):=⟨rfl,rfl,rfl,by decide +kernel,rfl,by decide +kernel,by decide +kernel⟩
set_option maxHeartbeats 4000000 in
theorem cal__law_rules [KFrag] {P : Program} {w : World} {K : Frag} {mg : Str->Option Value} {base : Heap} {fad : Addr} {fd : FuncData} (hK : KFrag.K = K) (B : Bt mg) (c__law_draw : CalOk P w K mg base 1 "_law_draw" 2 v__law_draw) (c__law_word : CalOk P w K mg base 2 "_law_word" 2 v__law_word) (c__law_words : CalD P w K mg base 2 "_law_words" "least" 6 (.int 0) v__law_words) (F : Fun K "_law_rules" "_law_rules" s__law_rules fad fd) (hm : mg "_law_rules" = some (.ref fad)) : CalOk P w K mg base 3 "_law_rules" 2 v__law_rules:=by
 have sc:=sc__law_rules
 refine cal_mk (ps:=["script", "book"]) (N:=(["script", "book", "rules", "taker", "maker", "kinds", "draw", "names", "known", "words", "at"] : List Str)) (k:=2) F hm (F.binds fun _ _ _ _ _ _ us hl=>match us,hl with | [_,_],_=>rfl) sc o__law_rules (by decide) (by decide) fun cdv A outer s H E hr=>?_
 have hu:=hu20 hr
 exact mss_cons (ms_set (i:=2) (o:=true) rfl sc.nd rfl (by trivial) (me_lst (ma_nil))) (mss_cons (ms_for PassesOwn.never rfl (mi_valX (me_ix (om_ix hK hu) (me_var (i:=1) rfl (by trivial)) (me_int) (fun _ _=>rfl))) (tgs_one (i:=3) rfl) (pg_name (i:=3) sc.nd rfl (by trivial)) (mss_one (ms_for PassesOwn.never rfl (mi_valX (me_ix (om_ix hK hu) (me_var (i:=1) rfl (by trivial)) (me_int) (fun _ _=>rfl))) (tgs_one (i:=4) rfl) (pg_name (i:=4) sc.nd rfl (by trivial)) (mss_one (ms_if (mt_cmp (om_eq hu) (me_ix (om_ix hK hu) (me_var (i:=4) rfl (by trivial)) (me_int) (fun _ _=>rfl)) (me_ix (om_ix hK hu) (me_var (i:=3) rfl (by trivial)) (me_int) (fun _ _=>rfl)) (nomark _)) (mss_cons (ms_set (i:=5) (o:=false) rfl sc.nd rfl (by trivial) (me_op om_addT (me_ix (om_ix hK hu) (me_var (i:=4) rfl (by trivial)) (me_int) (fun _ _=>rfl)) (me_ix (om_ix hK hu) (me_var (i:=3) rfl (by trivial)) (me_int) (fun _ _=>rfl)))) (mss_cons (ms_set (i:=6) (o:=false) rfl sc.nd rfl (by trivial) (me_callC c__law_draw hr (by decide) (by rfl) (ma_cons (me_var (i:=0) rfl (by trivial)) (ma_cons (me_op om_add (me_int) (me_callB (cl_len hK) (by rfl) B.len vb_len (ma_cons (me_var (i:=2) rfl (by trivial)) (ma_nil)))) (ma_nil))))) (mss_cons (ms_comp' (ownN:=(["i"] : List Str)) (show CompSc (["script", "book", "rules", "taker", "maker", "kinds", "draw", "names", "known", "words", "at"] : List Str) (defScope s__law_rules) _ (["i"] : List Str) from ⟨rfl,by decide +kernel,by decide +kernel,by decide +kernel,by decide +kernel,by decide +kernel,by decide +kernel⟩) (n:=11) (m:=1) rfl rfl rfl (mi_rng1 (by rfl) B.range (ma_cons (me_callB (cl_len hK) (by rfl) B.len vb_len (ma_cons (me_var (i:=5) rfl (by trivial)) (ma_nil))) (ma_nil))) (tgc_one 11) (fun _=>pg_name (i:=11) (show ((List.map (hideN (["i"] : List Str)) (["script", "book", "rules", "taker", "maker", "kinds", "draw", "names", "known", "words", "at"] : List Str) ++ (["i"] : List Str)) : List Str).Nodup from by decide +kernel) rfl (by trivial)) (fun _=>me_callC c__law_word hr (by decide) (by rfl) (ma_cons (me_var (i:=0) rfl (by trivial)) (ma_cons (me_op om_add (me_int) (me_op om_mod (me_op om_add (me_var (i:=6) rfl (by trivial)) (me_var (i:=11) rfl (by trivial))) (me_int))) (ma_nil)))) (fun _=>rfl) (iy:=7) (o:=false) rfl sc.nd rfl (by trivial) (Or.inl rfl) (by with_unfolding_all rfl)) (mss_cons (ms_set (i:=7) (o:=false) rfl sc.nd rfl (by trivial) (me_callTy cl_tuple (by rfl) B.tuple vb_tuple (ma_cons (me_ix (om_ix hK hu) (me_lst (ma_cons (me_var (i:=7) rfl (by trivial)) (ma_cons (me_rev (me_var (i:=7) rfl (by trivial))) (ma_nil)))) (me_op om_mod (me_op om_fdiv (me_var (i:=6) rfl (by trivial)) (me_int)) (me_int)) (fun _ _=>rfl)) (ma_nil)))) (mss_cons (ms_set (i:=8) (o:=false) rfl sc.nd rfl (by trivial) (me_dzip (by rfl) B.dict (by rfl) B.zip (ma_cons (me_var (i:=7) rfl (by trivial)) (ma_cons (me_var (i:=5) rfl (by trivial)) (ma_nil))))) (mss_cons (ms_set (i:=9) (o:=false) rfl sc.nd rfl (by trivial) (me_callD1 c__law_words hr (by decide) (by rfl) (ma_cons (me_var (i:=0) rfl (by trivial)) (ma_cons (me_op om_add (me_int) (me_op om_mulX (me_int) (me_callB (cl_len hK) (by rfl) B.len vb_len (ma_cons (me_var (i:=2) rfl (by trivial)) (ma_nil))))) (ma_cons (me_var (i:=1) rfl (by trivial)) (ma_cons (me_var (i:=8) rfl (by trivial)) (ma_cons (me_ix (om_ix hK hu) (me_var (i:=3) rfl (by trivial)) (me_int) (fun _ _=>rfl)) (ma_cons (me_int) (ma_nil))))))))) (mss_one (ms_app (i:=2) rfl rfl (by trivial) (me_tup (ma_cons (me_ix (om_ix hK hu) (me_var (i:=3) rfl (by trivial)) (me_int) (fun _ _=>rfl)) (ma_cons (me_ix (om_ix hK hu) (me_var (i:=4) rfl (by trivial)) (me_int) (fun _ _=>rfl)) (ma_cons (me_var (i:=7) rfl (by trivial)) (ma_cons (me_var (i:=9) rfl (by trivial)) (ma_nil)))))))))))))) (mss_nil)))))) (mss_cons (ms_set (i:=10) (o:=false) rfl sc.nd rfl (by trivial) (me_op om_mod (me_callC c__law_draw hr (by decide) (by rfl) (ma_cons (me_var (i:=0) rfl (by trivial)) (ma_cons (me_int) (ma_nil)))) (me_callB (om_max hu (by rfl)) (by rfl) B.max vb_max (ma_cons (me_int) (ma_cons (me_callB (cl_len hK) (by rfl) B.len vb_len (ma_cons (me_var (i:=2) rfl (by trivial)) (ma_nil))) (ma_nil)))))) (mss_one (ms_ret (me_callTy cl_tuple (by rfl) B.tuple vb_tuple (ma_cons (me_op om_add (me_slX hK (me_var (i:=2) rfl (by trivial)) (mo_some (me_var (i:=10) rfl (by trivial))) (mo_none)) (me_slX hK (me_var (i:=2) rfl (by trivial)) (mo_none) (mo_some (me_var (i:=10) rfl (by trivial))))) (ma_nil)))))))
theorem sc__law_program : FnScope (["script", "many", "book", "kinds"] : List Str) ["script"] (defScope s__law_program):=⟨rfl,rfl,rfl,by decide +kernel,rfl,by decide +kernel,by decide +kernel⟩
set_option maxHeartbeats 4000000 in
theorem cal__law_program [KFrag] {P : Program} {w : World} {K : Frag} {mg : Str->Option Value} {base : Heap} {fad : Addr} {fd : FuncData} (hK : KFrag.K = K) (B : Bt mg) (c__law_draw : CalOk P w K mg base 1 "_law_draw" 2 v__law_draw) (c__law_takers : CalOk P w K mg base 3 "_law_takers" 2 v__law_takers) (c__law_makers : CalOk P w K mg base 3 "_law_makers" 2 v__law_makers) (c__law_word : CalOk P w K mg base 2 "_law_word" 2 v__law_word) (c__law_rules : CalOk P w K mg base 3 "_law_rules" 2 v__law_rules) (F : Fun K "_law_program" "_law_program" s__law_program fad fd) (hm : mg "_law_program" = some (.ref fad)) : CalOk P w K mg base 4 "_law_program" 1 v__law_program:=by
 have sc:=sc__law_program
 refine cal_mk (ps:=["script"]) (N:=(["script", "many", "book", "kinds"] : List Str)) (k:=3) F hm (F.binds fun _ _ _ _ _ _ us hl=>match us,hl with | [_],_=>rfl) sc o__law_program (by decide) (by decide) fun cdv A outer s H E hr=>?_
 have hu:=hu20 hr
 exact mss_cons (ms_set (i:=1) (o:=false) rfl sc.nd rfl (by trivial) (me_op om_add (me_int) (me_op om_mod (me_callC c__law_draw hr (by decide) (by rfl) (ma_cons (me_var (i:=0) rfl (by trivial)) (ma_cons (me_int) (ma_nil)))) (me_int)))) (mss_cons (ms_set (i:=2) (o:=false) rfl sc.nd rfl (by trivial) (me_tup (ma_cons (me_callC c__law_makers hr (by decide) (by rfl) (ma_cons (me_var (i:=0) rfl (by trivial)) (ma_cons (me_var (i:=1) rfl (by trivial)) (ma_nil)))) (ma_cons (me_callC c__law_takers hr (by decide) (by rfl) (ma_cons (me_var (i:=0) rfl (by trivial)) (ma_cons (me_var (i:=1) rfl (by trivial)) (ma_nil)))) (ma_nil))))) (mss_cons (ms_set (i:=3) (o:=false) rfl sc.nd rfl (by trivial) (me_callTy cl_tuple (by rfl) B.tuple vb_tuple (ma_cons (me_comp' (ownN:=(["j"] : List Str)) (show CompSc (["script", "many", "book", "kinds"] : List Str) (defScope s__law_program) _ (["j"] : List Str) from ⟨rfl,by decide +kernel,by decide +kernel,by decide +kernel,by decide +kernel,by decide +kernel,by decide +kernel⟩) (n:=4) (m:=1) rfl rfl rfl (mi_rng1 (by rfl) B.range (ma_cons (me_var (i:=1) rfl (by trivial)) (ma_nil))) (tgc_one 4) (fun _=>pg_name (i:=4) (show ((List.map (hideN (["j"] : List Str)) (["script", "many", "book", "kinds"] : List Str) ++ (["j"] : List Str)) : List Str).Nodup from by decide +kernel) rfl (by trivial)) (fun _=>me_callC c__law_word hr (by decide) (by rfl) (ma_cons (me_var (i:=0) rfl (by trivial)) (ma_cons (me_var (i:=4) rfl (by trivial)) (ma_nil)))) (fun _=>rfl)) (ma_nil)))) (mss_one (ms_ret (me_tup (ma_cons (me_var (i:=3) rfl (by trivial)) (ma_cons (me_ix (om_ix hK hu) (me_var (i:=2) rfl (by trivial)) (me_int) (fun _ _=>rfl)) (ma_cons (me_ix (om_ix hK hu) (me_var (i:=2) rfl (by trivial)) (me_int) (fun _ _=>rfl)) (ma_cons (me_callC c__law_rules hr (by decide) (by rfl) (ma_cons (me_var (i:=0) rfl (by trivial)) (ma_cons (me_var (i:=2) rfl (by trivial)) (ma_nil)))) (ma_nil))))))))))
theorem sc_stock_of : FnScope (["program", "stock", "name", "kind", "parts", "taken", "more"] : List Str) ["program"] (defScope s_stock_of):=⟨rfl,rfl,rfl,by decide +kernel,rfl,by decide +kernel,by decide +kernel⟩
set_option maxHeartbeats 4000000 in
theorem cal_stock_of [KFrag] {P : Program} {w : World} {K : Frag} {mg : Str->Option Value} {base : Heap} {fad : Addr} {fd : FuncData} (hK : KFrag.K = K) (B : Bt mg)  (F : Fun K "stock_of" "stock_of" s_stock_of fad fd) (hm : mg "stock_of" = some (.ref fad)) : CalOk P w K mg base 1 "stock_of" 1 v_stock_of:=by
 have sc:=sc_stock_of
 refine cal_mk (ps:=["program"]) (N:=(["program", "stock", "name", "kind", "parts", "taken", "more"] : List Str)) (k:=0) F hm (F.binds fun _ _ _ _ _ _ us hl=>match us,hl with | [_],_=>rfl) sc o_stock_of (by decide) (by decide) fun cdv A outer s H E hr=>?_
 have hu:=hu20 hr
 exact mss_cons (ms_set (i:=1) (o:=true) rfl sc.nd rfl (by trivial) (me_dnewK)) (mss_cons (ms_for PassesOwn.never rfl (mi_valX (me_ix (om_ix hK hu) (me_var (i:=0) rfl (by trivial)) (me_int) (fun _ _=>rfl))) (tgs_tup _ (is:=[2,3,4]) (by decide)) (pg_tup rfl (pgs_cons (pg_name (i:=2) sc.nd rfl (by trivial)) (pgs_cons (pg_name (i:=3) sc.nd rfl (by trivial)) (pgs_cons (pg_name (i:=4) sc.nd rfl (by trivial)) (pgs_nil))))) (mss_one (ms_put (i:=1) hu rfl rfl (by trivial) (me_var (i:=2) rfl (by trivial)) (me_callB (cl_len hK) (by rfl) B.len vb_len (ma_cons (me_var (i:=4) rfl (by trivial)) (ma_nil)))))) (mss_cons (ms_for PassesOwn.never rfl (mi_valX (me_ix (om_ix hK hu) (me_var (i:=0) rfl (by trivial)) (me_int) (fun _ _=>rfl))) (tgs_tup _ (is:=[2,3,5,6]) (by decide)) (pg_tup rfl (pgs_cons (pg_name (i:=2) sc.nd rfl (by trivial)) (pgs_cons (pg_name (i:=3) sc.nd rfl (by trivial)) (pgs_cons (pg_name (i:=5) sc.nd rfl (by trivial)) (pgs_cons (pg_name (i:=6) sc.nd rfl (by trivial)) (pgs_nil)))))) (mss_one (ms_put (i:=1) hu rfl rfl (by trivial) (me_var (i:=2) rfl (by trivial)) (me_op om_add (me_int) (me_callB (cl_len hK) (by rfl) B.len vb_len (ma_cons (me_var (i:=6) rfl (by trivial)) (ma_nil))))))) (mss_cons (ms_put (i:=1) hu rfl rfl (by trivial) (me_str) (me_int)) (mss_cons (ms_put (i:=1) hu rfl rfl (by trivial) (me_str) (me_int)) (mss_one (ms_retV (i:=1) rfl rfl (by trivial)))))))
theorem sc__law_whole : FnScope (["found"] : List Str) ["found"] (defScope s__law_whole):=⟨rfl,rfl,rfl,by decide +kernel,rfl,by decide +kernel,by decide +kernel⟩
set_option maxHeartbeats 4000000 in
theorem cal__law_whole [KFrag] {P : Program} {w : World} {K : Frag} {mg : Str->Option Value} {base : Heap} {fad : Addr} {fd : FuncData} (hK : KFrag.K = K) (B : Bt mg)  (F : Fun K "_law_whole" "_law_whole" s__law_whole fad fd) (hm : mg "_law_whole" = some (.ref fad)) : CalOk P w K mg base 1 "_law_whole" 1 v__law_whole:=by
 have sc:=sc__law_whole
 refine cal_mk (ps:=["found"]) (N:=(["found"] : List Str)) (k:=0) F hm (F.binds fun _ _ _ _ _ _ us hl=>match us,hl with | [_],_=>rfl) sc o__law_whole (by decide) (by decide) fun cdv A outer s H E hr=>?_
 have hu:=hu20 hr
 exact mss_one (ms_ret (me_and (me_isi .int (me_var (i:=0) rfl (by trivial)) (by rfl) B.isi vb_isinstance (by rfl) B.int vb_int) (me_one (me_not (me_isi .bool (me_var (i:=0) rfl (by trivial)) (by rfl) B.isi vb_isinstance (by rfl) B.bool vb_bool)))))
theorem sc__law_right : FnScope (["found", "program", "due", "maker", "taker", "name"] : List Str) ["found", "program"] (defScope s__law_right):=⟨rfl,rfl,rfl,by decide +kernel,rfl,by decide +kernel,by decide +kernel⟩
set_option maxHeartbeats 4000000 in
theorem cal__law_right [KFrag] {P : Program} {w : World} {K : Frag} {mg : Str->Option Value} {base : Heap} {fad : Addr} {fd : FuncData} (hK : KFrag.K = K) (B : Bt mg) (c__law_whole : CalOk P w K mg base 1 "_law_whole" 1 v__law_whole) (F : Fun K "_law_right" "_law_right" s__law_right fad fd) (hm : mg "_law_right" = some (.ref fad)) : CalOk P w K mg base 2 "_law_right" 2 v__law_right:=by
 have sc:=sc__law_right
 refine cal_mk (ps:=["found", "program"]) (N:=(["found", "program", "due", "maker", "taker", "name"] : List Str)) (k:=1) F hm (F.binds fun _ _ _ _ _ _ us hl=>match us,hl with | [_,_],_=>rfl) sc o__law_right (by decide) (by decide) fun cdv A outer s H E hr=>?_
 have hu:=hu20 hr
 exact mss_cons (ms_if (mt_not (mt_val (me_isi .dict (me_var (i:=0) rfl (by trivial)) (by rfl) B.isi vb_isinstance (by rfl) B.dict vb_dict))) (mss_one (ms_ret (me_bl))) (mss_nil)) (mss_cons (ms_set (i:=2) (o:=true) rfl sc.nd rfl (by trivial) (me_dct2 (by decide +kernel))) (mss_cons (ms_for PassesOwn.never rfl (mi_valX (me_ix (om_ix hK hu) (me_var (i:=1) rfl (by trivial)) (me_int) (fun _ _=>rfl))) (tgs_one (i:=3) rfl) (pg_name (i:=3) sc.nd rfl (by trivial)) (mss_one (ms_put (i:=2) hu rfl rfl (by trivial) (me_ix (om_ix hK hu) (me_var (i:=3) rfl (by trivial)) (me_int) (fun _ _=>rfl)) (me_callB (cl_len hK) (by rfl) B.len vb_len (ma_cons (me_ix (om_ix hK hu) (me_var (i:=3) rfl (by trivial)) (me_int) (fun _ _=>rfl)) (ma_nil)))))) (mss_cons (ms_for PassesOwn.never rfl (mi_valX (me_ix (om_ix hK hu) (me_var (i:=1) rfl (by trivial)) (me_int) (fun _ _=>rfl))) (tgs_one (i:=4) rfl) (pg_name (i:=4) sc.nd rfl (by trivial)) (mss_one (ms_put (i:=2) hu rfl rfl (by trivial) (me_ix (om_ix hK hu) (me_var (i:=4) rfl (by trivial)) (me_int) (fun _ _=>rfl)) (me_op om_add (me_callB (cl_len hK) (by rfl) B.len vb_len (ma_cons (me_ix (om_ix hK hu) (me_var (i:=4) rfl (by trivial)) (me_int) (fun _ _=>rfl)) (ma_nil))) (me_int))))) (mss_cons (ms_if (mt_cmp (om_ne hu) (me_callB (cl_lenX hK) (by rfl) B.len vb_len (ma_cons (me_var (i:=0) rfl (by trivial)) (ma_nil))) (me_callB (cl_lenX hK) (by rfl) B.len vb_len (ma_cons (me_var (i:=2) rfl (by trivial)) (ma_nil))) (nomark _)) (mss_one (ms_ret (me_bl))) (mss_nil)) (mss_fzD (i:=2) rfl PassesOwn.never rfl rfl (by trivial) (tgs_one (i:=5) rfl) (pg_name (i:=5) sc.nd rfl (by trivial)) (mss_one (ms_if (PW.pt (mw_or (mt_cmp (om_notin hu) (me_var (i:=5) rfl (by trivial)) (me_var (i:=0) rfl (by trivial)) (by with_unfolding_all rfl)) (mw_or (mt_not (mt_val (me_callC c__law_whole hr (by decide) (by rfl) (ma_cons (me_ix (om_ix hK hu) (me_var (i:=0) rfl (by trivial)) (me_var (i:=5) rfl (by trivial)) (fun _ _=>rfl)) (ma_nil))))) (mw_or1 (mt_cmp (om_ne hu) (me_ix (om_ix hK hu) (me_var (i:=0) rfl (by trivial)) (me_var (i:=5) rfl (by trivial)) (fun _ _=>rfl)) (me_ix (om_ix hK hu) (me_var (i:=2) rfl (by trivial)) (me_var (i:=5) rfl (by trivial)) (fun _ _=>rfl)) (nomark _)))))) (mss_one (ms_ret (me_bl))) (mss_nil))) (mss_one (ms_ret (me_bl))))))))
theorem sc_law : FnScope (["script", "program", "found"] : List Str) ["script"] (defScope s_law):=⟨rfl,rfl,rfl,by decide +kernel,rfl,by decide +kernel,by decide +kernel⟩
set_option maxHeartbeats 4000000 in
theorem ok_law [KFrag] {P : Program} {w : World} {K : Frag} {mg : Str->Option Value} {base : Heap} {fad : Addr} {fd : FuncData} (hK : KFrag.K = K) (B : Bt mg) (c__law_program : CalOk P w K mg base 4 "_law_program" 1 v__law_program) (c_stock_of : CalOk P w K mg base 1 "stock_of" 1 v_stock_of) (c__law_right : CalOk P w K mg base 2 "_law_right" 2 v__law_right) (F : Fun K "law" "law" s_law fad fd) : FnOk P w K mg base CX0 5 fad fd ["script"] (spD v_law 1):=by
 have sc:=sc_law
 refine fn_ok (ps:=["script"]) (N:=(["script", "program", "found"] : List Str)) (k:=4) F sc o_law (by decide) (by decide) fun cdv A outer s H E hr=>?_
 have hu:=hu20 hr
 exact mss_cons (ms_set (i:=1) (o:=false) rfl sc.nd rfl (by trivial) (me_callC c__law_program hr (by decide) (by rfl) (ma_cons (me_var (i:=0) rfl (by trivial)) (ma_nil)))) (mss_cons (ms_set (i:=2) (o:=true) rfl sc.nd rfl (by trivial) (me_callC c_stock_of hr (by decide) (by rfl) (ma_cons (me_var (i:=1) rfl (by trivial)) (ma_nil)))) (mss_cons (ms_if (mt_not (mt_val (me_callC c__law_right hr (by decide) (by rfl) (ma_cons (me_var (i:=2) rfl (by trivial)) (ma_cons (me_var (i:=1) rfl (by trivial)) (ma_nil)))))) (mss_one (ms_ret (me_bl))) (mss_nil)) (mss_cons (ms_clr (i:=2) rfl rfl (by trivial)) (mss_one (ms_ret (me_callC c__law_right hr (by decide) (by rfl) (ma_cons (me_callC c_stock_of hr (by decide) (by rfl) (ma_cons (me_var (i:=1) rfl (by trivial)) (ma_nil))) (ma_cons (me_var (i:=1) rfl (by trivial)) (ma_nil)))))))))
theorem all_mk {l : OpenLaw} {w : World} {K : Frag} {h : Heap} {mg : Str->Option Value} {fa : Addr} (X : K.In h) (G : h.Ns mainGlobals mg) (hfa : mg "law" = some (.ref fa))
  {f0 : Addr} {oc0 kV0 dc0 pm0 cd0 ct0 : Value} {od0 an0 : Option Addr} {sl0 : Array (Option Value)} (a0 : nsIn K mainGlobals "_law_draw" = some (some (.ref f0))) (l0 : K.lookup f0 = some ⟨oc0,od0,.func (fnOf "_law_draw" "_law_draw" (defArgs s__law_draw) (defBody s__law_draw) (defScope s__law_draw) .none kV0 dc0 pm0 an0 cd0 ct0),sl0⟩) (c0 : codeIn K cd0 "_law_draw" = true) (k0 : keepIn K (.ref f0) = true)
  {f1 : Addr} {oc1 kV1 dc1 pm1 cd1 ct1 : Value} {od1 an1 : Option Addr} {sl1 : Array (Option Value)} (a1 : nsIn K mainGlobals "_law_word" = some (some (.ref f1))) (l1 : K.lookup f1 = some ⟨oc1,od1,.func (fnOf "_law_word" "_law_word" (defArgs s__law_word) (defBody s__law_word) (defScope s__law_word) .none kV1 dc1 pm1 an1 cd1 ct1),sl1⟩) (c1 : codeIn K cd1 "_law_word" = true) (k1 : keepIn K (.ref f1) = true)
  {f2 : Addr} {oc2 kV2 dc2 pm2 cd2 ct2 : Value} {od2 an2 : Option Addr} {sl2 : Array (Option Value)} (a2 : nsIn K mainGlobals "_law_makers" = some (some (.ref f2))) (l2 : K.lookup f2 = some ⟨oc2,od2,.func (fnOf "_law_makers" "_law_makers" (defArgs s__law_makers) (defBody s__law_makers) (defScope s__law_makers) .none kV2 dc2 pm2 an2 cd2 ct2),sl2⟩) (c2 : codeIn K cd2 "_law_makers" = true) (k2 : keepIn K (.ref f2) = true)
  {f3 : Addr} {oc3 kV3 dc3 pm3 cd3 ct3 : Value} {od3 an3 : Option Addr} {sl3 : Array (Option Value)} (a3 : nsIn K mainGlobals "_law_takers" = some (some (.ref f3))) (l3 : K.lookup f3 = some ⟨oc3,od3,.func (fnOf "_law_takers" "_law_takers" (defArgs s__law_takers) (defBody s__law_takers) (defScope s__law_takers) .none kV3 dc3 pm3 an3 cd3 ct3),sl3⟩) (c3 : codeIn K cd3 "_law_takers" = true) (k3 : keepIn K (.ref f3) = true)
  {f4 T4 : Addr} {oc4 kV4 dc4 pm4 cd4 ct4 tc4 : Value} {od4 an4 td4 : Option Addr} {sl4 tl4 : Array (Option Value)} {tk4 : Tok} {tn4 : Nat} (a4 : nsIn K mainGlobals "_law_words" = some (some (.ref f4))) (l4 : K.lookup f4 = some ⟨oc4,od4,.func (fnOf "_law_words" "_law_words" (defArgs s__law_words) (defBody s__law_words) (defScope s__law_words) (.ref T4) kV4 dc4 pm4 an4 cd4 ct4),sl4⟩) (c4 : codeIn K cd4 "_law_words" = true) (k4 : keepIn K (.ref f4) = true) (t4 : K.lookup T4 = some ⟨tc4,td4,.seq #[.int 0 tk4] tn4,tl4⟩)
  {f5 : Addr} {oc5 kV5 dc5 pm5 cd5 ct5 : Value} {od5 an5 : Option Addr} {sl5 : Array (Option Value)} (a5 : nsIn K mainGlobals "_law_rules" = some (some (.ref f5))) (l5 : K.lookup f5 = some ⟨oc5,od5,.func (fnOf "_law_rules" "_law_rules" (defArgs s__law_rules) (defBody s__law_rules) (defScope s__law_rules) .none kV5 dc5 pm5 an5 cd5 ct5),sl5⟩) (c5 : codeIn K cd5 "_law_rules" = true) (k5 : keepIn K (.ref f5) = true)
  {f6 : Addr} {oc6 kV6 dc6 pm6 cd6 ct6 : Value} {od6 an6 : Option Addr} {sl6 : Array (Option Value)} (a6 : nsIn K mainGlobals "_law_program" = some (some (.ref f6))) (l6 : K.lookup f6 = some ⟨oc6,od6,.func (fnOf "_law_program" "_law_program" (defArgs s__law_program) (defBody s__law_program) (defScope s__law_program) .none kV6 dc6 pm6 an6 cd6 ct6),sl6⟩) (c6 : codeIn K cd6 "_law_program" = true) (k6 : keepIn K (.ref f6) = true)
  {f7 : Addr} {oc7 kV7 dc7 pm7 cd7 ct7 : Value} {od7 an7 : Option Addr} {sl7 : Array (Option Value)} (a7 : nsIn K mainGlobals "stock_of" = some (some (.ref f7))) (l7 : K.lookup f7 = some ⟨oc7,od7,.func (fnOf "stock_of" "stock_of" (defArgs s_stock_of) (defBody s_stock_of) (defScope s_stock_of) .none kV7 dc7 pm7 an7 cd7 ct7),sl7⟩) (c7 : codeIn K cd7 "stock_of" = true) (k7 : keepIn K (.ref f7) = true)
  {f8 : Addr} {oc8 kV8 dc8 pm8 cd8 ct8 : Value} {od8 an8 : Option Addr} {sl8 : Array (Option Value)} (a8 : nsIn K mainGlobals "_law_whole" = some (some (.ref f8))) (l8 : K.lookup f8 = some ⟨oc8,od8,.func (fnOf "_law_whole" "_law_whole" (defArgs s__law_whole) (defBody s__law_whole) (defScope s__law_whole) .none kV8 dc8 pm8 an8 cd8 ct8),sl8⟩) (c8 : codeIn K cd8 "_law_whole" = true) (k8 : keepIn K (.ref f8) = true)
  {f9 : Addr} {oc9 kV9 dc9 pm9 cd9 ct9 : Value} {od9 an9 : Option Addr} {sl9 : Array (Option Value)} (a9 : nsIn K mainGlobals "_law_right" = some (some (.ref f9))) (l9 : K.lookup f9 = some ⟨oc9,od9,.func (fnOf "_law_right" "_law_right" (defArgs s__law_right) (defBody s__law_right) (defScope s__law_right) .none kV9 dc9 pm9 an9 cd9 ct9),sl9⟩) (c9 : codeIn K cd9 "_law_right" = true) (k9 : keepIn K (.ref f9) = true)
  {f10 : Addr} {oc10 kV10 dc10 pm10 cd10 ct10 : Value} {od10 an10 : Option Addr} {sl10 : Array (Option Value)} (a10 : nsIn K mainGlobals "law" = some (some (.ref f10))) (l10 : K.lookup f10 = some ⟨oc10,od10,.func (fnOf "law" "law" (defArgs s_law) (defBody s_law) (defScope s_law) .none kV10 dc10 pm10 an10 cd10 ct10),sl10⟩) (c10 : codeIn K cd10 "law" = true) (k10 : keepIn K (.ref f10) = true) (z_len : nsIn K mainGlobals "len" = some none) (z_min : nsIn K mainGlobals "min" = some none) (z_max : nsIn K mainGlobals "max" = some none) (z_list : nsIn K mainGlobals "list" = some none) (z_tuple : nsIn K mainGlobals "tuple" = some none) (z_sorted : nsIn K mainGlobals "sorted" = some none) (z_range : nsIn K mainGlobals "range" = some none) (z_isinstance : nsIn K mainGlobals "isinstance" = some none) (z_int : nsIn K mainGlobals "int" = some none) (z_bool : nsIn K mainGlobals "bool" = some none) (z_str : nsIn K mainGlobals "str" = some none) (z_dict : nsIn K mainGlobals "dict" = some none) (z_all : nsIn K mainGlobals "all" = some none) (z_enumerate : nsIn K mainGlobals "enumerate" = some none) (z_sum : nsIn K mainGlobals "sum" = some none) (z_zip : nsIn K mainGlobals "zip" = some none) (z_abs : nsIn K mainGlobals "abs" = some none) (z_reversed : nsIn K mainGlobals "reversed" = some none) :
  ∃ fd : FuncData,(∀ (s : Shared) (v : Value),BindsTo s fd ⟨[v],[]⟩ [("script",v)])/\∀ base : Heap,K.In base->base.Ns mainGlobals mg->FnOk l.prog w K mg base CX0 5 fa fd ["script"] (@spD ⟨K⟩ v_law 1):=by
 have e:=hfa.symm.trans (mg_of X G a10)
 cases e
 letI : KFrag:=⟨K⟩
 have B : Bt mg:=⟨mg_none_of X G z_len,mg_none_of X G z_min,mg_none_of X G z_max,mg_none_of X G z_list,mg_none_of X G z_tuple,mg_none_of X G z_sorted,mg_none_of X G z_range,mg_none_of X G z_isinstance,mg_none_of X G z_int,mg_none_of X G z_bool,mg_none_of X G z_str,mg_none_of X G z_dict,mg_none_of X G z_all,mg_none_of X G z_enumerate,mg_none_of X G z_sum,mg_none_of X G z_zip,mg_none_of X G z_abs,mg_none_of X G z_reversed⟩
 refine ⟨fnOf "law" "law" (defArgs s_law) (defBody s_law) (defScope s_law) .none kV10 dc10 pm10 an10 cd10 ct10,fun s v=>.of_eq rfl,fun base _ _=>?_⟩
 have h__law_draw:=cal__law_draw (P:=l.prog) (w:=w) (base:=base) rfl B  (fun_mk (st:=s__law_draw) l0 c0 k0) (mg_of X G a0)
 have h__law_word:=cal__law_word (P:=l.prog) (w:=w) (base:=base) rfl B h__law_draw (fun_mk (st:=s__law_word) l1 c1 k1) (mg_of X G a1)
 have h__law_makers:=cal__law_makers (P:=l.prog) (w:=w) (base:=base) rfl B h__law_draw h__law_word (fun_mk (st:=s__law_makers) l2 c2 k2) (mg_of X G a2)
 have h__law_takers:=cal__law_takers (P:=l.prog) (w:=w) (base:=base) rfl B h__law_draw h__law_word (fun_mk (st:=s__law_takers) l3 c3 k3) (mg_of X G a3)
 have F4 : FunD K "_law_words" "_law_words" s__law_words f4 _ T4 #[.int 0 tk4]:=⟨⟨_,_,_,_,_,_,_,_,_,rfl,l4,c4⟩,k4,⟨_,_,_,_,t4⟩⟩
 have h__law_words : CalD l.prog w K mg base 2 "_law_words" "least" 6 (.int 0) v__law_words:=⟨⟨f4,_,["script", "at", "book", "known", "kind", "most", "least"],.int 0 tk4,.int 0,fok__law_words rfl B h__law_draw F4,mg_of X G a4,k4,(fun s us X' hl=>match us,(show us.length = 7 by simpa using hl) with | [_,_,_,_,_,_,_],_=>BindsTo.of_defaults rfl (X' _ _ t4) rfl rfl rfl),(fun s us X' hl=>match us,(show us.length = 6 by simpa using hl) with | [_,_,_,_,_,_],_=>BindsTo.of_defaults rfl (X' _ _ t4) rfl rfl rfl),⟨_,rfl⟩,fun _=>.int 0,fun s us y X' hl=>match us,hl with | [_,_,_,_,_,_],_=>by first | exact .of_eq rfl | exact .of_eq (by with_unfolding_all rfl) | exact BindsTo.of_defaults rfl (X' _ _ t4) rfl rfl rfl | exact BindsTo.of_defaults rfl (X' _ _ t4) rfl (by with_unfolding_all rfl) (by with_unfolding_all rfl)⟩⟩
 have h__law_rules:=cal__law_rules (P:=l.prog) (w:=w) (base:=base) rfl B h__law_draw h__law_word h__law_words (fun_mk (st:=s__law_rules) l5 c5 k5) (mg_of X G a5)
 have h__law_program:=cal__law_program (P:=l.prog) (w:=w) (base:=base) rfl B h__law_draw h__law_takers h__law_makers h__law_word h__law_rules (fun_mk (st:=s__law_program) l6 c6 k6) (mg_of X G a6)
 have h_stock_of:=cal_stock_of (P:=l.prog) (w:=w) (base:=base) rfl B  (fun_mk (st:=s_stock_of) l7 c7 k7) (mg_of X G a7)
 have h__law_whole:=cal__law_whole (P:=l.prog) (w:=w) (base:=base) rfl B  (fun_mk (st:=s__law_whole) l8 c8 k8) (mg_of X G a8)
 have h__law_right:=cal__law_right (P:=l.prog) (w:=w) (base:=base) rfl B h__law_whole (fun_mk (st:=s__law_right) l9 c9 k9) (mg_of X G a9)
 exact ok_law rfl B h__law_program h_stock_of h__law_right (fun_mk (st:=s_law) l10 c10 k10)
theorem walk {l : OpenLaw} {q : Program} {loose : List Str} {XP : (Str->Option Value)->Heap->Prop} {YP : World->Heap->Prop} {d : DefRec} {K : Params->Frag} (main : ∀ ns : List Int,ns.length<=63->v_law [.scr (ns.map D.int)] = .ok (.bl true)) (hn : l.most = some 63) (hdf : d.params.defaults = [])
  (hY : ∀ (w : World) (h : Heap),YP w h->(K w.params).In h)
  (F : ∀ (w : World) (mg : Str->Option Value) (fa : Addr) (h : Heap),(K w.params).In h->h.Ns mainGlobals mg->mg d.name = some (.ref fa)->
   ∃ fd : FuncData,(∀ (s : Shared) (u : Value),BindsTo s fd ⟨[u],[]⟩ [("script",u)])/\∀ base : Heap,(K w.params).In base->base.Ns mainGlobals mg->FnOk l.prog w (K w.params) mg base CX0 5 fa fd ["script"] (@spD ⟨K w.params⟩ v_law 1)) :
  WalkO q loose XP YP l.row.toRowW d [] (fun f vs=>PySem.call f vs):=
 L2.walk_of (n:=63) (k:=5) (x := "script") (CX:=fun _=>CX0) (sp:=fun w=>@spD ⟨K w.params⟩ v_law 1) hn (by decide) hdf ⟨rfl,by decide,by decide⟩ hY F (fun w H a ns hl hO hS=>script_sp main hl hO hS) fun _ _ _ _ _ z=>z
end Lk61
end
section
set_option maxRecDepth 100000
namespace Lk61
open PySem L2 Mi
theorem call_v {n m : Nat} {f : FS} {ds : List D} {d : D} (h : f (ds ++ List.replicate (m - n) D.undef) = .ok (.rt d)) : fnS n m f ds = .ok d:=by
 unfold fnS
 rw [h]
 rfl
theorem seq_rt {f g : FS} {ρ : List D} {d : D} (h : f ρ = .ok (.rt d)) : sSeq f g ρ = .ok (.rt d):=by
 unfold sSeq
 rw [h]
 rfl
theorem small_big (a : Int) (h1 : 0<=a) (h2 : a < 4294967296) : smallB a = true:=by
 simp only [smallB,Bool.and_eq_true,decide_eq_true_eq]
 lia
theorem max1 (n : Nat) : minmax .gt [.int 1,.int n] = .ok (.int (if (1 : Int) < n then n else 1)):=by
 show (Res.ok (if decide ((1 : Int) < (n : Int)) = true then D.int n else D.int 1) : Res D) = _
 by_cases h : (1 : Int) < n
 ·rw [if_pos h,decide_eq_true h,if_pos rfl]
 ·rw [if_neg h,decide_eq_false h]
  rfl
noncomputable def drw (ns : List Int) (k : Int) : Int:=match v__law_draw [.scr (ns.map D.int),.int k] with
 | .ok (.int r)=>r
 | _=>0
theorem draw_ex (ns : List Int) (hn : ns.length<=63) (k : Int) : ∃ r : Int,v__law_draw [.scr (ns.map D.int),.int k] = .ok (.int r)/\0<=r/\r < 2147483629:=by
 have hl : lenD [.scr (ns.map D.int)] = .ok (.int ns.length):=by
  show Res.ok (D.int ((ns.map D.int).length : Int)) = _
  rw [List.length_map]
 have rest : ∀ cell : Int,∃ r : Int,(sSeq (sSet false 3 (b2 (binD .mod) (b2 mulX (b2 (binD .add) (b2 (binD .add) (bVar 2) (bC (.int 1))) (b2 mulX (bC (.int 104729)) (b2 (binD .fdiv) (bVar 1) (bCall (minmax .gt) (bCons (bC (.int 1)) (bCons (bCall lenD (bCons (bVar 0) (bNil))) (bNil))))))) (bC (.int 48271))) (bC (.int 2147483647))) true) (sRet (b2 (binD .mod) (b2 mulX (bVar 3) (bVar 3)) (bC (.int 2147483629))) true)) [.scr (ns.map D.int),.int k,.int cell,.undef] = .ok (.rt (.int r))/\0<=r/\r < 2147483629:=by
  intro cell
  have hmx:=max1 ns.length
  have hm : (0 : Int) < (if (1 : Int) < ns.length then (ns.length : Int) else 1)/\(if (1 : Int) < ns.length then (ns.length : Int) else 1) < 1073741824:=by split <;> lia
  generalize (if (1 : Int) < ns.length then (ns.length : Int) else 1) = m at hmx hm
  have f1:=fdiv_ok k m hm.1 hm.2
  have f2:=mul_okL 104729 (k / m) (by decide)
  have f3:=add_ok cell 1
  have f4:=add_ok (cell + 1) (104729 * (k / m))
  have f5:=mul_ok (cell + 1 + 104729 * (k / m)) 48271 (by decide)
  have f6:=mod_ok ((cell + 1 + 104729 * (k / m)) * 48271) 2147483647 (by decide)
  have x0 : 0<=(cell + 1 + 104729 * (k / m)) * 48271 % 2147483647:=Int.emod_nonneg _ (by decide)
  have x1 : (cell + 1 + 104729 * (k / m)) * 48271 % 2147483647 < 2147483647:=Int.emod_lt_of_pos _ (by decide)
  generalize (cell + 1 + 104729 * (k / m)) * 48271 % 2147483647 = x at f6 x0 x1
  have f7:=mul_ok x x (small_big x x0 (by lia))
  have f8:=mod_ok (x * x) 2147483629 (by decide)
  refine ⟨x * x % 2147483629,?_,Int.emod_nonneg _ (by decide),Int.emod_lt_of_pos _ (by decide)⟩
  refine seq_ok (ρ':=[.scr (ns.map D.int),.int k,.int cell,.int x]) (set_ok (i:=3) (b2_ok (x:=.int ((cell + 1 + 104729 * (k / m)) * 48271)) (b2_ok (x:=.int (cell + 1 + 104729 * (k / m))) (y:=.int 48271) (b2_ok (x:=.int (cell + 1)) (y:=.int (104729 * (k / m))) (b2_ok (x:=.int cell) rfl rfl f3) (b2_ok (x:=.int 104729) (y:=.int (k / m)) rfl (b2_ok (x:=.int k) (y:=.int m) rfl (call_ok (xs:=[.int 1,.int ns.length]) (cons_ok rfl (cons_ok (call_ok (cons_ok rfl rfl) hl) rfl)) hmx) f1) f2) f4) rfl f5) rfl f6)) ?_
  exact ret_ok (d:=.int (x * x % 2147483629)) (b2_ok (x:=.int (x * x)) (b2_ok (x:=.int x) (y:=.int x) rfl rfl f7) rfl f8) rfl
 have fin : ∀ cell : Int,b__law_draw [.scr (ns.map D.int),.int k,.undef,.undef] = (sSeq (sSet false 3 (b2 (binD .mod) (b2 mulX (b2 (binD .add) (b2 (binD .add) (bVar 2) (bC (.int 1))) (b2 mulX (bC (.int 104729)) (b2 (binD .fdiv) (bVar 1) (bCall (minmax .gt) (bCons (bC (.int 1)) (bCons (bCall lenD (bCons (bVar 0) (bNil))) (bNil))))))) (bC (.int 48271))) (bC (.int 2147483647))) true) (sRet (b2 (binD .mod) (b2 mulX (bVar 3) (bVar 3)) (bC (.int 2147483629))) true)) [.scr (ns.map D.int),.int k,.int cell,.undef]->∃ r : Int,v__law_draw [.scr (ns.map D.int),.int k] = .ok (.int r)/\0<=r/\r < 2147483629:=fun cell e=>by
  obtain ⟨r,h1,h2⟩:=rest cell
  exact ⟨r,call_v (e.trans h1),h2⟩
 by_cases h0 : (ns.length : Int) > 0
 ·have hc : cmpD (.ord .gt) (.int ns.length) (.int 0) = .ok (.bl true):=by
   show Res.ok (D.bl (decide (0 < (ns.length : Int)))) = _
   rw [decide_eq_true h0]
  have m1:=mod_ok k ns.length h0
  have i0 : 0<=k % (ns.length : Int):=Int.emod_nonneg _ (by lia)
  have i1 : k % (ns.length : Int) < ns.length:=Int.emod_lt_of_pos _ h0
  generalize k % (ns.length : Int) = i at m1 i0 i1
  have hlt : i.toNat < (ns.map D.int).length:=by rw [List.length_map];lia
  have hg : getD (.scr (ns.map D.int)) (.int i) = .ok (.int (ns[i.toNat]'(by lia))):=by
   show Res.ofOpt ((ixD (ns.map D.int).length i).bind fun j=>(ns.map D.int)[j]?) = _
   unfold ixD
   rw [if_pos i0,if_pos (by rw [List.length_map];exact i1)]
   simp only [Option.bind_some]
   rw [List.getElem?_eq_getElem hlt,List.getElem_map]
   rfl
  have m2:=mod_ok (ns[i.toNat]'(by lia)) 2147483647 (by decide)
  refine fin _ (seq_ok (ρ':=[.scr (ns.map D.int),.int k,.int 0,.undef]) (set_ok (i:=2) rfl) (seq_ok (if_t (tb_ok (b2_ok (x:=.int ns.length) (call_ok (xs:=[.scr (ns.map D.int)]) (cons_ok rfl rfl) hl) rfl hc)) (set_ok (i:=2) (b2_ok (x:=.int (ns[i.toNat]'(by lia))) (b2_ok (x:=.scr (ns.map D.int)) (y:=.int i) rfl (b2_ok (x:=.int k) (y:=.int ns.length) rfl (call_ok (xs:=[.scr (ns.map D.int)]) (cons_ok rfl rfl) hl) m1) hg) rfl m2))) rfl))
 ·have hc : cmpD (.ord .gt) (.int ns.length) (.int 0) = .ok (.bl false):=by
   show Res.ok (D.bl (decide (0 < (ns.length : Int)))) = _
   rw [decide_eq_false h0]
  exact fin 0 (seq_ok (ρ':=[.scr (ns.map D.int),.int k,.int 0,.undef]) (set_ok (i:=2) rfl) (seq_ok (ρ':=[.scr (ns.map D.int),.int k,.int 0,.undef]) (if_f (tb_ok (b2_ok (x:=.int ns.length) (call_ok (xs:=[.scr (ns.map D.int)]) (cons_ok rfl rfl) hl) rfl hc)) rfl) rfl))
theorem draw_ok {ns : List Int} (hn : ns.length<=63) (k : Int) : argN 2 v__law_draw [.scr (ns.map D.int),.int k] = .ok (.int (drw ns k))/\0<=drw ns k/\drw ns k < 2147483629:=by
 obtain ⟨r,h1,h2⟩:=draw_ex ns hn k
 have e : drw ns k = r:=by
  unfold drw
  rw [h1]
 rw [e]
 exact ⟨(argN_ok rfl).trans h1,h2⟩
noncomputable def abc : Str := "abcdefghijklmnopqrstuvwxyz"
theorem sign_at (x : Str) (n : Nat) (hx : x.cps.toList.length = n) (hl : x.length<=lim) (i : Int) (h0 : 0<=i) (h1 : i < n) : ∃ c : Nat,getD (.str x) (.int i) = .ok (.str ⟨#[c]⟩):=by
 have hix : ixD x.cps.toList.length i = some i.toNat:=by
  unfold ixD
  rw [if_pos h0,hx,if_pos (by lia)]
 have hlt : i.toNat < x.cps.toList.length:=by rw [hx];lia
 refine ⟨x.cps.toList[i.toNat],?_⟩
 show (if decide (x.length<=lim) then Res.ofOpt (((ixD x.cps.toList.length i).bind fun j=>x.cps.toList[j]?).map fun c=>D.str ⟨#[c]⟩) else .bad) = _
 rw [decide_eq_true hl,if_pos rfl,hix]
 simp only [Option.bind_some]
 rw [List.getElem?_eq_getElem hlt]
 rfl
theorem abc_at (i : Int) (h0 : 0<=i) (h1 : i < 26) : ∃ c : Nat,getD (.str abc) (.int i) = .ok (.str ⟨#[c]⟩):=sign_at abc 26 (by decide +kernel) (by decide +kernel) i h0 h1
theorem abdz_at (i : Int) (h0 : 0<=i) (h1 : i < 4) : ∃ c : Nat,getD (.str "abdz") (.int i) = .ok (.str ⟨#[c]⟩):=sign_at "abdz" 4 (by decide +kernel) (by decide +kernel) i h0 h1
noncomputable def one (c : Nat) : Str:=⟨#[c]⟩
theorem mul_codes (c : Nat) (n : Nat) : (Txt.mul (one c) (n : Int)).cps.toList = List.replicate n c:=by
 unfold Txt.mul
 by_cases h : (n : Int) < 1
 ·have : n = 0:=by lia
  subst this
  rw [if_pos h]
  rfl
 ·rw [if_neg h]
  by_cases h1 : n = 1
  ·subst h1
   rfl
  ·rw [if_neg]
   ·have : ∀ (m : Nat) (acc : Array Nat),((List.replicate m (one c).cps).foldl (· ++ ·) acc).toList = acc.toList ++ List.replicate m c:=by
     intro m
     induction m with
     | zero=>intro acc;simp
     | succ m ih=>
      intro acc
      rw [List.replicate_succ,List.foldl_cons,ih,List.replicate_succ]
      simp [one]
    have:=this n #[]
    simpa using this
   ·have : (one c).length = 1:=rfl
    rw [this]
    simp
    lia
theorem not_four {c d : Nat} {a b : Nat} {p q r t : Nat} (h1 : p ≠ q) (h2 : p ≠ r) (h3 : p ≠ t) (h4 : q ≠ r) (h5 : q ≠ t) (h6 : r ≠ t) : List.replicate a c ++ d :: List.replicate b c ≠ [p,q,r,t]:=by
 intro h
 have hl:=congrArg List.length h
 simp at hl
 have : (a = 0/\b = 3)\/(a = 1/\b = 2)\/(a = 2/\b = 1)\/(a = 3/\b = 0):=by lia
 rcases this with ⟨rfl,rfl⟩ | ⟨rfl,rfl⟩ | ⟨rfl,rfl⟩ | ⟨rfl,rfl⟩ <;> (simp [List.replicate] at h;lia)
end Lk61
end
section
set_option maxRecDepth 100000
namespace Lk61
open PySem L2 Mi
theorem lim2 : (2 : Nat)<=lim:=by rw [lim_eq];lia
theorem lim3 : (3 : Nat)<=lim:=by rw [lim_eq];lia
theorem lst_ok {a : FA} {ρ : List D} {xs : List D} (h : a ρ = .ok xs) (hl : xs.length<=lim) : bLst a ρ = .ok (.lst xs):=by
 unfold bLst
 rw [h,Res.ok_bind,if_pos (decide_eq_true hl)]
 rfl
theorem lstP_ok {a : FA} {ρ : List D} {xs : List D} (h : a ρ = .ok xs) (hl : xs.length<=lim) (hp : D.pures xs = true) : bLstP a ρ = .ok (.lst xs):=by
 unfold bLstP
 rw [h,Res.ok_bind,if_pos (by rw [decide_eq_true hl,hp];rfl)]
 rfl
theorem get_two (a b : D) (i : Int) (h0 : 0<=i) (h1 : i < 2) : getD (.lst [a,b]) (.int i) = .ok (if i = 0 then a else b):=by
 have : i = 0\/i = 1:=by lia
 rcases this with rfl | rfl
 ·rfl
 ·rfl
theorem mulS (c : Nat) (n : Int) (h0 : 0<=n) (h1 : n<=100) : mulX (.str (one c)) (.int n) = .ok (.str (Txt.mul (one c) n)):=by
 show (if decide (0<=n) && decide (n<=100000) && decide ((one c).length * n.toNat<=lim) then Res.ok (D.str (Txt.mul (one c) n)) else .bad) = _
 rw [if_pos]
 have : (one c).length = 1:=rfl
 rw [this,decide_eq_true h0,decide_eq_true (by lia),decide_eq_true (by rw [lim_eq];lia)]
 rfl
theorem cps_app (a b : Str) : (a ++ b).cps.toList = a.cps.toList ++ b.cps.toList:=by
 show (a.cps ++ b.cps).toList = _
 exact Array.toList_append
theorem len_cps (a : Str) : a.length = a.cps.toList.length:=by
 show a.cps.size = _
 rw [Array.length_toList]
noncomputable def wrd (ns : List Int) (i : Int) : Str:=match v__law_word [.scr (ns.map D.int),.int i] with
 | .ok (.str x)=>x
 | _ => ""
noncomputable def Good (x : Str) : Prop:=x ≠ "copy"/\x ≠ "drop"/\x.length<=100
theorem copy_codes : ("copy" : Str).cps.toList = [99,111,112,121]:=by decide +kernel
theorem drop_codes : ("drop" : Str).cps.toList = [100,114,111,112]:=by decide +kernel
theorem five (x : Str) (h : x.cps.toList.length = 5) : Good x:=by
 refine ⟨fun z=>?_,fun z=>?_,by rw [len_cps,h];lia⟩
 ·rw [z,copy_codes] at h;cases h
 ·rw [z,drop_codes] at h;cases h
theorem word_ex {ns : List Int} (hn : ns.length<=63) (i : Int) (hi0 : 0<=i) (hi1 : i<=33) : ∃ x : Str,v__law_word [.scr (ns.map D.int),.int i] = .ok (.str x)/\Good x:=by
 -- a draw,put down as an argument
 have dr : ∀ {ρ : List D} {f : FE} {k : Int},bVar 0 ρ = .ok (.scr (ns.map D.int))->f ρ = .ok (.int k)->bCall (argN 2 v__law_draw) (bCons (bVar 0) (bCons f (bNil))) ρ = .ok (.int (drw ns k)):=fun h1 h2=>call_ok (cons_ok h1 (cons_ok h2 rfl)) (draw_ok hn _).1
 have d0:=fun k=>(draw_ok hn k).2.1
 have d1:=fun k=>(draw_ok hn k).2.2
 have hin : inX (.int i) (.tup [.int 4,.int 17]) = .ok (.bl ((4 == i) || ((17 == i) || false))):=rfl
 have ht : bTup (bCons (bC (.int 4)) (bCons (bC (.int 17)) (bNil))) [.scr (ns.map D.int),.int i,.str abc,.undef,.undef,.undef,.undef] = .ok (.tup [.int 4,.int 17]):=tup_ok (xs:=[.int 4,.int 17]) (cons_ok rfl (cons_ok rfl rfl)) lim2
 have m5:=mod_ok (drw ns 36) 5 (by decide)
 have ce : cmpD .eq (.int (drw ns 36 % 5)) (.int 1) = .ok (.bl (drw ns 36 % 5 == 1)):=rfl
 by_cases hs : (i = 4\/i = 17)/\drw ns 36 % 5 = 1
 ·-- drop or copy and a letter
  have b1 : ((4 == i) || ((17 == i) || false)) = true:=by
   rcases hs.1 with h | h <;> simp [h]
  rw [b1] at hin
  rw [show (drw ns 36 % 5 == 1) = true by simpa using hs.2] at ce
  have f17:=fdiv_ok i 17 (by decide) (by decide)
  have q0 : 0<=i / 17/\i / 17 < 2:=by rcases hs.1 with h | h <;> (rw [h];decide)
  have g1:=get_two (.str "drop") (.str "copy") (i / 17) q0.1 q0.2
  have m26:=mod_ok (drw ns 37) 26 (by decide)
  obtain ⟨c,g2⟩:=abc_at (drw ns 37 % 26) (Int.emod_nonneg _ (by decide)) (Int.emod_lt_of_pos _ (by decide))
  obtain ⟨w,hw,g1'⟩ : ∃ w : Str,w.cps.toList.length = 4/\getD (.lst [.str "drop",.str "copy"]) (.int (i / 17)) = .ok (.str w):=by
   by_cases z : i / 17 = 0
   ·rw [if_pos z] at g1
    exact ⟨"drop",by rw [drop_codes];rfl,g1⟩
   ·rw [if_neg z] at g1
    exact ⟨"copy",by rw [copy_codes];rfl,g1⟩
  have g2 : getD (.str abc) (.int (drw ns 37 % 26)) = .ok (.str (one c)):=g2
  have g3:=str_add w (one c) (by rw [len_cps,hw,lim_eq];show 4 + 1<=1000000;lia)
  refine ⟨w ++ (one c),call_v ?_,five _ (by rw [cps_app,List.length_append,hw];rfl)⟩
  refine seq_ok (ρ':=[.scr (ns.map D.int),.int i,.str abc,.undef,.undef,.undef,.undef]) (set_ok (i:=2) rfl) ?_
  refine seq_rt (if_t (and_t (tb_ok (b2_ok (x:=.int i) rfl ht hin)) (tb_ok (b2_ok (x:=.int (drw ns 36 % 5)) (b2_ok (x:=.int (drw ns 36)) (dr rfl rfl) rfl m5) rfl ce))) ?_)
  show sRet (b2 (binD .add) (b2 getD (bLst (bCons (bC (.str "drop")) (bCons (bC (.str "copy")) (bNil)))) (b2 (binD .fdiv) (bVar 1) (bC (.int 17)))) (b2 getD (bVar 2) (b2 (binD .mod) (bCall (argN 2 v__law_draw) (bCons (bVar 0) (bCons (bC (.int 37)) (bNil)))) (bC (.int 26))))) true [.scr (ns.map D.int),.int i,.str abc,.undef,.undef,.undef,.undef] = .ok (.rt (.str (w ++ (one c))))
  exact ret_ok (k:=true) (d:=.str (w ++ (one c))) (b2_ok (x:=.str w) (y:=.str (one c)) (b2_ok (x:=.lst [.str "drop",.str "copy"]) (y:=.int (i / 17)) (lst_ok (xs:=[.str "drop",.str "copy"]) (cons_ok rfl (cons_ok rfl rfl)) lim2) (b2_ok (x:=.int i) rfl rfl f17) g1') (b2_ok (x:=.str abc) (y:=.int (drw ns 37 % 26)) rfl (b2_ok (x:=.int (drw ns 37)) (dr rfl rfl) rfl m26) g2) g3) rfl
 ·-- a word of one sign but one
  have hif : (sIf (bAnd (bTB (b2 inX (bVar 1) (bTup (bCons (bC (.int 4)) (bCons (bC (.int 17)) (bNil)))))) (bTB (b2 (cmpD .eq) (b2 (binD .mod) (bCall (argN 2 v__law_draw) (bCons (bVar 0) (bCons (bC (.int 36)) (bNil)))) (bC (.int 5))) (bC (.int 1))))) (sRet (b2 (binD .add) (b2 getD (bLst (bCons (bC (.str "drop")) (bCons (bC (.str "copy")) (bNil)))) (b2 (binD .fdiv) (bVar 1) (bC (.int 17)))) (b2 getD (bVar 2) (b2 (binD .mod) (bCall (argN 2 v__law_draw) (bCons (bVar 0) (bCons (bC (.int 37)) (bNil)))) (bC (.int 26))))) true) (sNil)) [.scr (ns.map D.int),.int i,.str abc,.undef,.undef,.undef,.undef] = .ok (.nx [.scr (ns.map D.int),.int i,.str abc,.undef,.undef,.undef,.undef]):=by
   by_cases h1 : i = 4\/i = 17
   ·have b1 : ((4 == i) || ((17 == i) || false)) = true:=by rcases h1 with h | h <;> simp [h]
    have h2 : ¬ drw ns 36 % 5 = 1:=fun z=>hs ⟨h1,z⟩
    rw [b1] at hin
    rw [show (drw ns 36 % 5 == 1) = false by simpa using h2] at ce
    exact if_f (and_t (tb_ok (b2_ok (x:=.int i) rfl ht hin)) (tb_ok (b2_ok (x:=.int (drw ns 36 % 5)) (b2_ok (x:=.int (drw ns 36)) (dr rfl rfl) rfl m5) rfl ce))) rfl
   ·have b1 : ((4 == i) || ((17 == i) || false)) = false:=by
     rw [not_or] at h1
     simp only [Bool.or_false,Bool.or_eq_false_iff,beq_eq_false_iff_ne,ne_eq]
     lia
    rw [b1] at hin
    exact if_f (and_f (tb_ok (b2_ok (x:=.int i) rfl ht hin))) rfl
  have a26:=mod_ok (drw ns 0) 26 (by decide)
  have b26:=fdiv_ok (drw ns 0) 26 (by decide) (by decide)
  have b4:=mod_ok (drw ns 0 / 26) 4 (by decide)
  have c104:=fdiv_ok (drw ns 0) 104 (by decide) (by decide)
  have c2:=mod_ok (drw ns 0 / 104) 2 (by decide)
  obtain ⟨p1,g1⟩:=abc_at (drw ns 0 % 26) (Int.emod_nonneg _ (by decide)) (Int.emod_lt_of_pos _ (by decide))
  obtain ⟨p2,g2⟩:=abdz_at (drw ns 0 / 26 % 4) (Int.emod_nonneg _ (by decide)) (Int.emod_lt_of_pos _ (by decide))
  obtain ⟨pd,g3⟩ : ∃ pd : Nat,getD (.lst [.str ⟨#[p1]⟩,.str ⟨#[p2]⟩]) (.int (drw ns 0 / 104 % 2)) = .ok (.str (one pd)):=by
   have:=get_two (.str ⟨#[p1]⟩) (.str ⟨#[p2]⟩) (drw ns 0 / 104 % 2) (Int.emod_nonneg _ (by decide)) (Int.emod_lt_of_pos _ (by decide))
   by_cases z : drw ns 0 / 104 % 2 = 0
   ·rw [if_pos z] at this
    exact ⟨p1,this⟩
   ·rw [if_neg z] at this
    exact ⟨p2,this⟩
  have e8:=mod_ok (drw ns 1) 8 (by decide)
  have pl0 : 0<=drw ns 1 % 8:=Int.emod_nonneg _ (by decide)
  have pl1 : drw ns 1 % 8 < 8:=Int.emod_lt_of_pos _ (by decide)
  generalize hpl : drw ns 1 % 8 = pl at e8 pl0 pl1
  have s8:=sub_ok 8 pl
  have t1:=mod_ok (drw ns 2) (8 - pl) (by lia)
  have t2:=mod_ok (drw ns (4 + i)) (8 - pl) (by lia)
  have f8:=fdiv_ok (drw ns 1) 8 (by decide) (by decide)
  have f2:=mod_ok (drw ns 1 / 8) 2 (by decide)
  have ce2 : cmpD .eq (.int (drw ns 1 / 8 % 2)) (.int 1) = .ok (.bl (drw ns 1 / 8 % 2 == 1)):=rfl
  have l1:=add_ok i (drw ns 3)
  have l2:=mod_ok (i + drw ns 3) 26 (by decide)
  obtain ⟨c,g4⟩:=abc_at ((i + drw ns 3) % 26) (Int.emod_nonneg _ (by decide)) (Int.emod_lt_of_pos _ (by decide))
  -- the tail
  obtain ⟨tl,tl0,tl1,htl⟩ : ∃ tl : Int,0<=tl/\tl < 8/\(sSeq (sSet false 6 (b2 (binD .mod) (bCall (argN 2 v__law_draw) (bCons (bVar 0) (bCons (bC (.int 2)) (bNil)))) (b2 (binD .sub) (bC (.int 8)) (bVar 5))) true) (sIf (bTB (b2 (cmpD .eq) (b2 (binD .mod) (b2 (binD .fdiv) (bCall (argN 2 v__law_draw) (bCons (bVar 0) (bCons (bC (.int 1)) (bNil)))) (bC (.int 8))) (bC (.int 2))) (bC (.int 1)))) (sSet false 6 (b2 (binD .mod) (bCall (argN 2 v__law_draw) (bCons (bVar 0) (bCons (b2 (binD .add) (bC (.int 4)) (bVar 1)) (bNil)))) (b2 (binD .sub) (bC (.int 8)) (bVar 5))) true) (sNil))) [.scr (ns.map D.int),.int i,.str abc,.int (drw ns 0),.str (one pd),.int pl,.undef] = .ok (.nx [.scr (ns.map D.int),.int i,.str abc,.int (drw ns 0),.str (one pd),.int pl,.int tl]):=by
   have first : (sSet false 6 (b2 (binD .mod) (bCall (argN 2 v__law_draw) (bCons (bVar 0) (bCons (bC (.int 2)) (bNil)))) (b2 (binD .sub) (bC (.int 8)) (bVar 5))) true) [.scr (ns.map D.int),.int i,.str abc,.int (drw ns 0),.str (one pd),.int pl,.undef] = .ok (.nx [.scr (ns.map D.int),.int i,.str abc,.int (drw ns 0),.str (one pd),.int pl,.int (drw ns 2 % (8 - pl))]):=set_ok (i:=6) (b2_ok (x:=.int (drw ns 2)) (y:=.int (8 - pl)) (dr rfl rfl) (b2_ok (x:=.int 8) (y:=.int pl) rfl rfl s8) t1)
   have tst : bTB (b2 (cmpD .eq) (b2 (binD .mod) (b2 (binD .fdiv) (bCall (argN 2 v__law_draw) (bCons (bVar 0) (bCons (bC (.int 1)) (bNil)))) (bC (.int 8))) (bC (.int 2))) (bC (.int 1))) [.scr (ns.map D.int),.int i,.str abc,.int (drw ns 0),.str (one pd),.int pl,.int (drw ns 2 % (8 - pl))] = .ok (drw ns 1 / 8 % 2 == 1):=tb_ok (b2_ok (x:=.int (drw ns 1 / 8 % 2)) (b2_ok (x:=.int (drw ns 1 / 8)) (b2_ok (x:=.int (drw ns 1)) (dr rfl rfl) rfl f8) rfl f2) rfl ce2)
   have u0 : 0<=drw ns 2 % (8 - pl):=Int.emod_nonneg _ (by lia)
   have u1 : drw ns 2 % (8 - pl) < 8 - pl:=Int.emod_lt_of_pos _ (by lia)
   have v0 : 0<=drw ns (4 + i) % (8 - pl):=Int.emod_nonneg _ (by lia)
   have v1 : drw ns (4 + i) % (8 - pl) < 8 - pl:=Int.emod_lt_of_pos _ (by lia)
   cases hb : (drw ns 1 / 8 % 2 == 1) with
   | true=>
    rw [hb] at tst
    exact ⟨_,v0,by lia,seq_ok first (if_t tst (set_ok (i:=6) (b2_ok (x:=.int (drw ns (4 + i))) (y:=.int (8 - pl)) (dr rfl (b2_ok (x:=.int 4) (y:=.int i) rfl rfl (add_ok 4 i))) (b2_ok (x:=.int 8) (y:=.int pl) rfl rfl s8) t2)))⟩
   | false=>
    rw [hb] at tst
    exact ⟨_,u0,by lia,seq_ok first (if_f tst rfl)⟩
  have mp:=mulS pd pl pl0 (by lia)
  have mt:=mulS pd tl tl0 (by lia)
  have cp:=mul_codes pd pl.toNat
  have ct:=mul_codes pd tl.toNat
  rw [show ((pl.toNat : Nat) : Int) = pl by lia] at cp
  rw [show ((tl.toNat : Nat) : Int) = tl by lia] at ct
  generalize Txt.mul (one pd) pl = xp at mp cp
  generalize Txt.mul (one pd) tl = xt at mt ct
  have lp : xp.length<=8:=by rw [len_cps,cp,List.length_replicate];lia
  have lt : xt.length<=8:=by rw [len_cps,ct,List.length_replicate];lia
  have a1:=str_add xp ⟨#[c]⟩ (by rw [lim_eq];show xp.length + 1<=1000000;lia)
  have l9 : (xp ++ ⟨#[c]⟩ : Str).length = xp.length + 1:=str_len xp ⟨#[c]⟩
  have a2:=str_add (xp ++ ⟨#[c]⟩) xt (by rw [l9,lim_eq];lia)
  have codes : (xp ++ ⟨#[c]⟩ ++ xt : Str).cps.toList = List.replicate pl.toNat pd ++ c :: List.replicate tl.toNat pd:=by
   rw [cps_app,cps_app,cp,ct,List.append_assoc]
   rfl
  refine ⟨xp ++ ⟨#[c]⟩ ++ xt,call_v ?_,fun z=>?_,fun z=>?_,by rw [str_len,l9];lia⟩
  ·refine seq_ok (ρ':=[.scr (ns.map D.int),.int i,.str abc,.undef,.undef,.undef,.undef]) (set_ok (i:=2) rfl) ?_
   refine seq_ok hif ?_
   refine seq_ok (ρ':=[.scr (ns.map D.int),.int i,.str abc,.int (drw ns 0),.undef,.undef,.undef]) (set_ok (i:=3) (dr rfl rfl)) ?_
   refine seq_ok (ρ':=[.scr (ns.map D.int),.int i,.str abc,.int (drw ns 0),.str (one pd),.undef,.undef]) (setP_ok (i:=4) (b2_ok (x:=.lst [.str ⟨#[p1]⟩,.str ⟨#[p2]⟩]) (y:=.int (drw ns 0 / 104 % 2)) (lst_ok (xs:=[.str ⟨#[p1]⟩,.str ⟨#[p2]⟩]) (cons_ok (b2_ok (x:=.str abc) (y:=.int (drw ns 0 % 26)) rfl (b2_ok (x:=.int (drw ns 0)) rfl rfl a26) g1) (cons_ok (b2_ok (x:=.str "abdz") (y:=.int (drw ns 0 / 26 % 4)) rfl (b2_ok (x:=.int (drw ns 0 / 26)) (b2_ok (x:=.int (drw ns 0)) rfl rfl b26) rfl b4) g2) rfl)) lim2) (b2_ok (x:=.int (drw ns 0 / 104)) (b2_ok (x:=.int (drw ns 0)) rfl rfl c104) rfl c2) g3) rfl) ?_
   refine seq_ok (ρ':=[.scr (ns.map D.int),.int i,.str abc,.int (drw ns 0),.str (one pd),.int pl,.undef]) (set_ok (i:=5) (b2_ok (x:=.int (drw ns 1)) (dr rfl rfl) rfl e8)) ?_
   have split : ∀ {f g h : FS} {ρ ρ' : List D} {r : Res Fl},sSeq f g ρ = .ok (.nx ρ')->h ρ' = r->sSeq f (sSeq g h) ρ = r:=by
    intro f g h ρ ρ' r e1 e2
    unfold sSeq at e1 ⊢
    cases hf : f ρ with
    | bad=>rw [hf] at e1;cases e1
    | err c as=>rw [hf] at e1;cases e1
    | ok fl=>
     rw [hf] at e1
     cases fl with
     | nx ρ1=>
      simp only [Res.ok_bind] at e1 ⊢
      rw [e1]
      exact e2
     | rt d=>cases e1
     | bk d=>cases e1
     | ct d=>cases e1
   refine split htl ?_
   exact ret_ok (d:=.str (xp ++ ⟨#[c]⟩ ++ xt)) (b2_ok (x:=.str (xp ++ ⟨#[c]⟩)) (y:=.str xt) (b2_ok (x:=.str xp) (y:=.str ⟨#[c]⟩) (b2_ok (x:=.str (one pd)) (y:=.int pl) rfl rfl mp) (b2_ok (x:=.str abc) (y:=.int ((i + drw ns 3) % 26)) rfl (b2_ok (x:=.int (i + drw ns 3)) (b2_ok (x:=.int i) (y:=.int (drw ns 3)) rfl (dr rfl rfl) l1) rfl l2) g4) a1) (b2_ok (x:=.str (one pd)) (y:=.int tl) rfl rfl mt) a2) rfl
  ·have : (xp ++ ⟨#[c]⟩ ++ xt : Str).cps.toList = _:=congrArg (fun x : Str=>x.cps.toList) z
   rw [codes,copy_codes] at this
   exact not_four (by decide) (by decide) (by decide) (by decide) (by decide) (by decide) this
  ·have : (xp ++ ⟨#[c]⟩ ++ xt : Str).cps.toList = _:=congrArg (fun x : Str=>x.cps.toList) z
   rw [codes,drop_codes] at this
   exact not_four (by decide) (by decide) (by decide) (by decide) (by decide) (by decide) this
theorem word_ok {ns : List Int} (hn : ns.length<=63) {i : Int} (hi0 : 0<=i) (hi1 : i<=33) : argN 2 v__law_word [.scr (ns.map D.int),.int i] = .ok (.str (wrd ns i))/\Good (wrd ns i):=by
 obtain ⟨x,h1,h2⟩:=word_ex hn i hi0 hi1
 have e : wrd ns i = x:=by
  unfold wrd
  rw [h1]
 rw [e]
 exact ⟨(argN_ok rfl).trans h1,h2⟩
end Lk61
end
section
set_option maxRecDepth 100000
namespace Lk61
open PySem L2 Mi
noncomputable abbrev Mk:=Str × Str × List Str
noncomputable def mkD (m : Mk) : D:=.tup [.str m.1,.str m.2.1,.tup (m.2.2.map D.str)]
noncomputable abbrev Tk:=Str × Str × Str × List Str
noncomputable def tkD (t : Tk) : D:=.tup [.str t.1,.str t.2.1,.str t.2.2.1,.tup (t.2.2.2.map D.str)]
theorem pures_strs : ∀ L : List Str,D.pures (L.map D.str) = true
 | []=>rfl
 | x :: L=>by
  show ((D.str x).pure && D.pures (L.map D.str)) = true
  rw [pures_strs L]
  rfl
theorem mk_pure (m : Mk) : (mkD m).pure = true:=by
 show (true && (true && ((D.tup (m.2.2.map D.str)).pure && true))) = true
 rw [D.pure,pures_strs]
 rfl
theorem tk_pure (m : Tk) : (tkD m).pure = true:=by
 show (true && (true && (true && ((D.tup (m.2.2.2.map D.str)).pure && true)))) = true
 rw [D.pure,pures_strs]
 rfl
theorem pures_map {α : Type} {f : α->D} (h : ∀ a,(f a).pure = true) : ∀ L : List α,D.pures (L.map f) = true
 | []=>rfl
 | x :: L=>by
  show ((f x).pure && D.pures (L.map f)) = true
  rw [h,pures_map h L]
  rfl
noncomputable def IsK (ns : List Int) (many : Int) (x : Str) : Prop:=∃ j : Int,0<=j/\j < many/\x = wrd ns j
theorem cfold_all {α : Type} (g : List D->D->Res (List D)) (d : α->D) (P : α->Prop) : ∀ (xs acc : List D),(∀ x ∈ xs,∀ acc,∃ ys : List α,(∀ y ∈ ys,P y)/\ys.length<=1/\g acc x = .ok (acc ++ ys.map d))->∃ zs : List α,(∀ z ∈ zs,P z)/\zs.length<=xs.length/\cfold g acc xs = .ok (acc ++ zs.map d)
 | [],acc,_=>⟨[],fun _ h=>(by cases h),Nat.le_refl _,(by simp [cfold])⟩
 | x :: xs,acc,h=>by
  obtain ⟨ys,h1,h2,h3⟩:=h x (List.mem_cons_self ..) acc
  obtain ⟨zs,i1,i2,i3⟩:=cfold_all g d P xs (acc ++ ys.map d) fun y hy=>h y (List.mem_cons_of_mem _ hy)
  refine ⟨ys ++ zs,fun z hz=>?_,by rw [List.length_append,List.length_cons];lia,?_⟩
  ·rcases List.mem_append.mp hz with hz | hz
   ·exact h1 z hz
   ·exact i1 z hz
  ·rw [cfold,h3]
   show cfold g _ _ = _
   rw [i3,List.map_append,List.append_assoc]
theorem cstep_gen {n : Nat} {t : D->Res (List D)} {c : FT} {f : FE} {k : Bool} {ρ acc bs : List D} {x y : D} {b : Bool} (hρ : ρ.length = n) (ht : t x = .ok bs) (h1 : c (ρ ++ bs) = .ok b) (h2 : b = true->f (ρ ++ bs) = .ok y/\(k || y.pure) = true) : cstep n t c f k ρ acc x = .ok (if b then acc ++ [y] else acc):=by
 unfold cstep
 rw [ht,Res.ok_bind,padD_self hρ,h1,Res.ok_bind]
 cases b with
 | false=>rfl
 | true=>
  obtain ⟨h3,h4⟩:=h2 rfl
  simp only [if_true,h3,Res.ok_bind,h4]
  rfl
theorem kinds_comp {n : Nat} {ρ : List D} {f : FE} {sz : Int} {ns : List Int} {many : Int} (hn : ns.length<=63) (hm : 0 < many) (hm3 : many<=3) (hρ : ρ.length = n) (h0 : ∀ x : D,bVar 0 (ρ ++ [x]) = .ok (.scr (ns.map D.int))) {g : FA} (hg : g ρ = .ok [.int sz]) (hs0 : 0<=sz) (hs1 : sz<=3)
  (hf : ∀ p : Int,0<=p->p<=3->∃ j : Int,0<=j/\j < many/\f (ρ ++ [.int p]) = .ok (.int j)) :
  ∃ xs : List Str,(∀ x ∈ xs,IsK ns many x)/\xs.length<=3/\bCall tupleD (bCons (bComp n (bThen g rng1D) oneT bTrue (bCall (argN 2 v__law_word) (bCons (bVar 0) (bCons f (bNil)))) true) (bNil)) ρ = .ok (.tup (xs.map D.str)):=by
 obtain ⟨xs,h1,h2,h3⟩:=cfold_all (cstep n oneT bTrue (bCall (argN 2 v__law_word) (bCons (bVar 0) (bCons f (bNil)))) true ρ) D.str (IsK ns many) ((List.range sz.toNat).map fun (k : Nat)=>D.int (0 + (k : Int))) [] (fun x hx acc=>by
  obtain ⟨k,hk,rfl⟩:=List.mem_map.mp hx
  have hk:=List.mem_range.mp hk
  obtain ⟨j,j0,j1,e⟩:=hf (0 + (k : Int)) (by lia) (by lia)
  have w:=(word_ok hn j0 (show j<=33 by lia)).1
  refine ⟨[wrd ns j],fun y hy=>?_,Nat.le_refl _,?_⟩
  ·rw [List.mem_singleton.mp hy]
   exact ⟨j,j0,j1,rfl⟩
  ·exact cstep_gen (b:=true) (bs:=[.int (0 + (k : Int))]) (y:=.str (wrd ns j)) hρ rfl rfl fun _=>⟨call_ok (cons_ok (h0 _) (cons_ok e rfl)) w,rfl⟩)
 rw [List.nil_append] at h3
 rw [List.length_map,List.length_range] at h2
 exact ⟨xs,h1,by lia,call_ok (xs:=[.lst (xs.map D.str)]) (cons_ok (comp_ok (rng_ok hg hs0 (by lia)) (by rw [List.length_map,List.length_range,lim_eq];lia) h3) rfl) rfl⟩
noncomputable def imk : FS:=(sSeq (sSet false 6 (bCall (argN 2 v__law_draw) (bCons (bVar 0) (bCons (b2 (binD .add) (b2 (binD .add) (bC (.int 40)) (b2 mulX (bC (.int 3)) (bVar 3))) (bVar 5)) (bNil)))) true) (sSeq (sSet false 7 (b2 getD (bLst (bCons (bC (.int 1)) (bCons (b2 (binD .mod) (bVar 6) (bC (.int 4))) (bNil)))) (b2 (binD .sub) (bVar 5) (bC (.int 1)))) false) (sSeq (sSet false 8 (bCall tupleD (bCons (bComp 9 (bThen (bCons (bVar 7) (bNil)) rng1D) oneT (bTrue) (bCall (argN 2 v__law_word) (bCons (bVar 0) (bCons (b2 (binD .mod) (b2 (binD .fdiv) (bVar 6) (b2 (binD .add) (bC (.int 6)) (b2 mulX (bC (.int 7)) (bVar 9)))) (bVar 1)) (bNil)))) true) (bNil))) false) (sApp 2 (bTup (bCons (bCall (argN 2 v__law_word) (bCons (bVar 0) (bCons (b2 (binD .add) (b2 (binD .add) (bC (.int 3)) (b2 mulX (bC (.int 3)) (bVar 3))) (bVar 5)) (bNil)))) (bCons (bCall (argN 2 v__law_word) (bCons (bVar 0) (bCons (bVar 3) (bNil)))) (bCons (bVar 8) (bNil)))))))))
noncomputable def MkPart (ns : List Int) (many : Int) (m : Mk) : Prop:=Good m.1/\m.2.2.length<=3/\∀ p ∈ m.2.2,IsK ns many p
theorem draw_w {ns : List Int} (hn : ns.length<=63) {ρ : List D} {f : FE} {k : Int} (h1 : bVar 0 ρ = .ok (.scr (ns.map D.int))) (h2 : f ρ = .ok (.int k)) : bCall (argN 2 v__law_draw) (bCons (bVar 0) (bCons f (bNil))) ρ = .ok (.int (drw ns k)):=call_ok (cons_ok h1 (cons_ok h2 rfl)) (draw_ok hn _).1
theorem word_w {ns : List Int} (hn : ns.length<=63) {ρ : List D} {f : FE} {k : Int} (h1 : bVar 0 ρ = .ok (.scr (ns.map D.int))) (h2 : f ρ = .ok (.int k)) (h3 : 0<=k) (h4 : k<=33) : bCall (argN 2 v__law_word) (bCons (bVar 0) (bCons f (bNil))) ρ = .ok (.str (wrd ns k)):=call_ok (cons_ok h1 (cons_ok h2 rfl)) (word_ok hn h3 h4).1
theorem imk_ok {ns : List Int} {many j : Int} {x4 : D} (hn : ns.length<=63) (hm : 0 < many) (hm3 : many<=3) (hj0 : 0<=j) (hj : j < many) {M : List Mk} (hM : M.length<=100) {i : Int} (hi0 : 1<=i) (hi1 : i<=2) {x6 x7 x8 : D} :
  ∃ (m : Mk) (y6 y7 y8 : D),MkPart ns many m/\m.2.1 = wrd ns j/\imk [.scr (ns.map D.int),.int many,.lst (M.map mkD),.int j,x4,.int i,x6,x7,x8] = .ok (.nx [.scr (ns.map D.int),.int many,.lst ((M ++ [m]).map mkD),.int j,x4,.int i,y6,y7,y8]):=by
 have a3:=mul_okL 3 j (by decide)
 have a40:=add_ok 40 (3 * j)
 have a41:=add_ok (40 + 3 * j) i
 have d0:=(draw_ok hn (40 + 3 * j + i)).2.1
 generalize hdr : drw ns (40 + 3 * j + i) = dr at d0
 have m4:=mod_ok dr 4 (by decide)
 have s1:=sub_ok i 1
 have g1:=get_two (.int 1) (.int (dr % 4)) (i - 1) (by lia) (by lia)
 obtain ⟨sz,sz0,sz3,g1'⟩ : ∃ sz : Int,0<=sz/\sz<=3/\getD (.lst [.int 1,.int (dr % 4)]) (.int (i - 1)) = .ok (.int sz):=by
  by_cases z : i - 1 = 0
  ·rw [if_pos z] at g1
   exact ⟨1,by decide,by decide,g1⟩
  ·rw [if_neg z] at g1
   exact ⟨dr % 4,by lia,by lia,g1⟩
 obtain ⟨xs,k1,k2,k3⟩:=kinds_comp (n:=9) (ρ:=[.scr (ns.map D.int),.int many,.lst (M.map mkD),.int j,x4,.int i,.int dr,.int sz,x8]) (f:=b2 (binD .mod) (b2 (binD .fdiv) (bVar 6) (b2 (binD .add) (bC (.int 6)) (b2 mulX (bC (.int 7)) (bVar 9)))) (bVar 1)) (sz:=sz) (g:=bCons (bVar 7) bNil) hn hm hm3 rfl (fun _=>rfl) (cons_ok rfl rfl) sz0 sz3 (fun p p0 p3=>by
  have e1:=mul_okL 7 p (by decide)
  have e2:=add_ok 6 (7 * p)
  have e3:=fdiv_ok dr (6 + 7 * p) (by lia) (by lia)
  have e4:=mod_ok (dr / (6 + 7 * p)) many hm
  exact ⟨_,Int.emod_nonneg _ (by lia),Int.emod_lt_of_pos _ hm,b2_ok (x:=.int (dr / (6 + 7 * p))) (y:=.int many) (b2_ok (x:=.int dr) (y:=.int (6 + 7 * p)) rfl (b2_ok (x:=.int 6) (y:=.int (7 * p)) rfl (b2_ok (x:=.int 7) (y:=.int p) rfl rfl e1) e2) e3) rfl e4⟩)
 have w1:=word_ok hn (i:=3 + 3 * j + i) (by lia) (by lia)
 refine ⟨(wrd ns (3 + 3 * j + i),wrd ns j,xs),.int dr,.int sz,.tup (xs.map D.str),⟨w1.2,k2,k1⟩,rfl,?_⟩
 refine seq_ok (ρ':=[.scr (ns.map D.int),.int many,.lst (M.map mkD),.int j,x4,.int i,.int dr,x7,x8]) (set_ok (i:=6) (by rw [<- hdr];exact draw_w hn rfl (b2_ok (x:=.int (40 + 3 * j)) (y:=.int i) (b2_ok (x:=.int 40) (y:=.int (3 * j)) rfl (b2_ok (x:=.int 3) (y:=.int j) rfl rfl a3) a40) rfl a41))) ?_
 refine seq_ok (ρ':=[.scr (ns.map D.int),.int many,.lst (M.map mkD),.int j,x4,.int i,.int dr,.int sz,x8]) (setP_ok (i:=7) (b2_ok (x:=.lst [.int 1,.int (dr % 4)]) (y:=.int (i - 1)) (lst_ok (xs:=[.int 1,.int (dr % 4)]) (cons_ok rfl (cons_ok (b2_ok (x:=.int dr) rfl rfl m4) rfl)) lim2) (b2_ok (x:=.int i) rfl rfl s1) g1') rfl) ?_
 refine seq_ok (ρ':=[.scr (ns.map D.int),.int many,.lst (M.map mkD),.int j,x4,.int i,.int dr,.int sz,.tup (xs.map D.str)]) (setP_ok (i:=8) k3 (by rw [D.pure,pures_strs])) ?_
 have ap:=app_ok (i:=2) (ρ:=[.scr (ns.map D.int),.int many,.lst (M.map mkD),.int j,x4,.int i,.int dr,.int sz,.tup (xs.map D.str)]) (f:=bTup (bCons (bCall (argN 2 v__law_word) (bCons (bVar 0) (bCons (b2 (binD .add) (b2 (binD .add) (bC (.int 3)) (b2 mulX (bC (.int 3)) (bVar 3))) (bVar 5)) (bNil)))) (bCons (bCall (argN 2 v__law_word) (bCons (bVar 0) (bCons (bVar 3) (bNil)))) (bCons (bVar 8) (bNil))))) (xs:=M.map mkD) (d:=mkD (wrd ns (3 + 3 * j + i),wrd ns j,xs)) (tup_ok (xs:=[.str (wrd ns (3 + 3 * j + i)),.str (wrd ns j),.tup (xs.map D.str)]) (cons_ok (word_w hn rfl (b2_ok (x:=.int (3 + 3 * j)) (y:=.int i) (b2_ok (x:=.int 3) (y:=.int (3 * j)) rfl (b2_ok (x:=.int 3) (y:=.int j) rfl rfl a3) (add_ok _ _)) rfl (add_ok _ _)) (by lia) (by lia)) (cons_ok (word_w hn rfl rfl hj0 (by lia)) (cons_ok rfl rfl))) lim3) rfl (by rw [List.length_map,lim_eq];lia) (mk_pure _)
 rw [List.map_append]
 exact ap
theorem imk_loop {ns : List Int} {many j : Int} {x4 : D} (hn : ns.length<=63) (hm : 0 < many) (hm3 : many<=3) (hj0 : 0<=j) (hj : j < many) : ∀ (ks : List Nat) (M : List Mk) (x5 x6 x7 x8 : D),(∀ k ∈ ks,k<=1)->M.length + ks.length<=100->
  ∃ (N : List Mk) (y5 y6 y7 y8 : D),(∀ m ∈ N,MkPart ns many m/\m.2.1 = wrd ns j)/\N.length = ks.length/\forS (tg1 5) imk (ks.map fun (k : Nat)=>D.int (1 + (k : Int))) [.scr (ns.map D.int),.int many,.lst (M.map mkD),.int j,x4,x5,x6,x7,x8] = .ok (.nx [.scr (ns.map D.int),.int many,.lst ((M ++ N).map mkD),.int j,x4,y5,y6,y7,y8])
 | [],M,x5,x6,x7,x8,_,_=>⟨[],x5,x6,x7,x8,fun _ h=>(by cases h),rfl,by rw [List.append_nil];rfl⟩
 | k :: ks,M,x5,x6,x7,x8,h,hl=>by
  rw [List.length_cons] at hl
  have hk:=h k (List.mem_cons_self ..)
  obtain ⟨m,y6,y7,y8,h1,h2,e⟩:=imk_ok (x4:=x4) hn hm hm3 hj0 hj (M:=M) (by lia) (i:=1 + (k : Int)) (by lia) (by lia) (x6:=x6) (x7:=x7) (x8:=x8)
  obtain ⟨N,z5,z6,z7,z8,i1,i2,i3⟩:=imk_loop (x4:=x4) hn hm hm3 hj0 hj ks (M ++ [m]) (.int (1 + (k : Int))) y6 y7 y8 (fun q hq=>h q (List.mem_cons_of_mem _ hq)) (by rw [List.length_append];show M.length + 1 + ks.length<=100;lia)
  refine ⟨m :: N,z5,z6,z7,z8,fun q hq=>?_,by rw [List.length_cons,List.length_cons,i2],?_⟩
  ·rcases List.mem_cons.mp hq with rfl | hq
   ·exact ⟨h1,h2⟩
   ·exact i1 q hq
  ·rw [List.map_cons,show M ++ m :: N = (M ++ [m]) ++ N by simp]
   exact fors_cons (ρ1:=[.scr (ns.map D.int),.int many,.lst (M.map mkD),.int j,x4,.int (1 + (k : Int)),x6,x7,x8]) rfl e i3
end Lk61
end
section
set_option maxRecDepth 100000
namespace Lk61
open PySem L2 Mi
theorem rng2_ok {f : FA} {ρ : List D} {a b : Int} (h : f ρ = .ok [.int a,.int b]) (h1 : -1000000<=a) (h2 : a<=1000000) (h3 : -1000000<=b) (h4 : b<=1000000) : bThen f rng2D ρ = .ok ((List.range (b - a).toNat).map fun (k : Nat)=>D.int (a + (k : Int)),true):=by
 unfold bThen
 rw [h,Res.ok_bind]
 have e1 : bound62 a = true:=by simp only [bound62,decide_eq_true_eq,Bool.and_eq_true];lia
 have e2 : bound62 b = true:=by simp only [bound62,decide_eq_true_eq,Bool.and_eq_true];lia
 rw [rng2D,e1,e2]
 rfl
theorem gt_i (a b : Int) : cmpD (.ord .gt) (.int a) (.int b) = .ok (.bl (decide (b < a))):=cmp_ord rfl rfl rfl
noncomputable def omk : FS:=(sSeq (sSet false 4 (bTup (bNil)) true) (sSeq (sIf (bAnd (bTB (b2 (cmpD (.ord .gt)) (bVar 3) (bC (.int 0)))) (bTB (b2 (cmpD (.ord .gt)) (b2 (binD .mod) (b2 (binD .fdiv) (bCall (argN 2 v__law_draw) (bCons (bVar 0) (bCons (bC (.int 38)) (bNil)))) (bVar 3)) (bC (.int 3))) (bC (.int 0))))) (sSet false 4 (bTup (bCons (bCall (argN 2 v__law_word) (bCons (bVar 0) (bCons (bC (.int 0)) (bNil)))) (bNil))) true) (sNil)) (sSeq (sApp 2 (bTup (bCons (bCall (argN 2 v__law_word) (bCons (bVar 0) (bCons (b2 (binD .add) (bC (.int 3)) (b2 mulX (bC (.int 3)) (bVar 3))) (bNil)))) (bCons (bCall (argN 2 v__law_word) (bCons (bVar 0) (bCons (bVar 3) (bNil)))) (bCons (bVar 4) (bNil)))))) (sFor (bThen (bCons (bC (.int 1)) (bCons (b2 (binD .add) (bC (.int 2)) (b2 (binD .mod) (bCall (argN 2 v__law_draw) (bCons (bVar 0) (bCons (b2 (binD .add) (bC (.int 40)) (b2 mulX (bC (.int 3)) (bVar 3))) (bNil)))) (bC (.int 2)))) (bNil))) rng2D) (tg1 5) imk))))
theorem omk_ok {ns : List Int} {many j : Int} (hn : ns.length<=63) (hm : 0 < many) (hm3 : many<=3) (hj0 : 0<=j) (hj : j < many) {M : List Mk} (hM : M.length<=50) {x4 x5 x6 x7 x8 : D} :
  ∃ (fs : List Str) (N : List Mk) (y4 y5 y6 y7 y8 : D),(fs = []\/(fs = [wrd ns 0]/\0 < j))/\Good (wrd ns (3 + 3 * j))/\(∀ m ∈ N,MkPart ns many m/\m.2.1 = wrd ns j)/\N.length<=2/\omk [.scr (ns.map D.int),.int many,.lst (M.map mkD),.int j,x4,x5,x6,x7,x8] = .ok (.nx [.scr (ns.map D.int),.int many,.lst ((M ++ (wrd ns (3 + 3 * j),wrd ns j,fs) :: N).map mkD),.int j,y4,y5,y6,y7,y8]):=by
 have a3:=mul_okL 3 j (by decide)
 have a40:=add_ok 40 (3 * j)
 have b3:=add_ok 3 (3 * j)
 obtain ⟨fs,hfs,hif⟩ : ∃ fs : List Str,(fs = []\/(fs = [wrd ns 0]/\0 < j))/\sIf (bAnd (bTB (b2 (cmpD (.ord .gt)) (bVar 3) (bC (.int 0)))) (bTB (b2 (cmpD (.ord .gt)) (b2 (binD .mod) (b2 (binD .fdiv) (bCall (argN 2 v__law_draw) (bCons (bVar 0) (bCons (bC (.int 38)) (bNil)))) (bVar 3)) (bC (.int 3))) (bC (.int 0))))) (sSet false 4 (bTup (bCons (bCall (argN 2 v__law_word) (bCons (bVar 0) (bCons (bC (.int 0)) (bNil)))) (bNil))) true) (sNil) [.scr (ns.map D.int),.int many,.lst (M.map mkD),.int j,.tup [],x5,x6,x7,x8] = .ok (.nx [.scr (ns.map D.int),.int many,.lst (M.map mkD),.int j,.tup (fs.map D.str),x5,x6,x7,x8]):=by
  by_cases z : 0 < j
  ·have c0 : bTB (b2 (cmpD (.ord .gt)) (bVar 3) (bC (.int 0))) [.scr (ns.map D.int),.int many,.lst (M.map mkD),.int j,.tup [],x5,x6,x7,x8] = .ok true:=tb_ok (b2_ok (x:=.int j) (y:=.int 0) rfl rfl ((gt_i _ _).trans (by rw [decide_eq_true z])))
   have d3:=fdiv_ok (drw ns 38) j z (by lia)
   have m3:=mod_ok (drw ns 38 / j) 3 (by decide)
   have c1 : ∀ k,decide (0 < drw ns 38 / j % 3) = k->bTB (b2 (cmpD (.ord .gt)) (b2 (binD .mod) (b2 (binD .fdiv) (bCall (argN 2 v__law_draw) (bCons (bVar 0) (bCons (bC (.int 38)) (bNil)))) (bVar 3)) (bC (.int 3))) (bC (.int 0))) [.scr (ns.map D.int),.int many,.lst (M.map mkD),.int j,.tup [],x5,x6,x7,x8] = .ok k:=fun k hk=>tb_ok (b2_ok (x:=.int (drw ns 38 / j % 3)) (y:=.int 0) (b2_ok (x:=.int (drw ns 38 / j)) (b2_ok (x:=.int (drw ns 38)) (y:=.int j) (draw_w hn rfl rfl) rfl d3) rfl m3) rfl ((gt_i _ _).trans (by rw [hk])))
   by_cases q : 0 < drw ns 38 / j % 3
   ·exact ⟨[wrd ns 0],.inr ⟨rfl,z⟩,if_t (and_t c0 (c1 _ (decide_eq_true q))) (set_ok (i:=4) (tup_ok (xs:=[.str (wrd ns 0)]) (cons_ok (word_w hn rfl rfl (Int.le_refl 0) (by decide)) rfl) (by rw [lim_eq];exact Nat.le_of_ble_eq_true rfl)))⟩
   ·exact ⟨[],.inl rfl,if_f (and_t c0 (c1 _ (decide_eq_false q))) rfl⟩
  ·exact ⟨[],.inl rfl,if_f (and_f (tb_ok (b2_ok (x:=.int j) (y:=.int 0) rfl rfl ((gt_i _ _).trans (by rw [decide_eq_false z]))))) rfl⟩
 have w1:=word_ok hn (i:=3 + 3 * j) (by lia) (by lia)
 have d0:=(draw_ok hn (40 + 3 * j)).2.1
 have m2:=mod_ok (drw ns (40 + 3 * j)) 2 (by decide)
 have c2:=add_ok 2 (drw ns (40 + 3 * j) % 2)
 obtain ⟨N,y5,y6,y7,y8,h1,h2,h3⟩:=imk_loop (x4:=.tup (fs.map D.str)) hn hm hm3 hj0 hj (List.range (2 + drw ns (40 + 3 * j) % 2 - 1).toNat) (M ++ [(wrd ns (3 + 3 * j),wrd ns j,fs)]) x5 x6 x7 x8 (fun k hk=>by have:=List.mem_range.mp hk;lia) (by rw [List.length_append,List.length_range];show M.length + 1 + _<=100;lia)
 rw [List.length_range] at h2
 refine ⟨fs,N,.tup (fs.map D.str),y5,y6,y7,y8,hfs,w1.2,h1,by lia,?_⟩
 refine seq_ok (ρ':=[.scr (ns.map D.int),.int many,.lst (M.map mkD),.int j,.tup [],x5,x6,x7,x8]) (set_ok (i:=4) (tup_ok (xs:=[]) rfl (Nat.zero_le _))) ?_
 refine seq_ok hif ?_
 refine seq_ok (ρ':=[.scr (ns.map D.int),.int many,.lst ((M ++ [(wrd ns (3 + 3 * j),wrd ns j,fs)]).map mkD),.int j,.tup (fs.map D.str),x5,x6,x7,x8]) ?_ ?_
 ·have ap:=app_ok (i:=2) (ρ:=[.scr (ns.map D.int),.int many,.lst (M.map mkD),.int j,.tup (fs.map D.str),x5,x6,x7,x8]) (f:=bTup (bCons (bCall (argN 2 v__law_word) (bCons (bVar 0) (bCons (b2 (binD .add) (bC (.int 3)) (b2 mulX (bC (.int 3)) (bVar 3))) (bNil)))) (bCons (bCall (argN 2 v__law_word) (bCons (bVar 0) (bCons (bVar 3) (bNil)))) (bCons (bVar 4) (bNil))))) (xs:=M.map mkD) (d:=mkD (wrd ns (3 + 3 * j),wrd ns j,fs)) (tup_ok (xs:=[.str (wrd ns (3 + 3 * j)),.str (wrd ns j),.tup (fs.map D.str)]) (cons_ok (word_w hn rfl (b2_ok (x:=.int 3) (y:=.int (3 * j)) rfl (b2_ok (x:=.int 3) (y:=.int j) rfl rfl a3) b3) (by lia) (by lia)) (cons_ok (word_w hn rfl rfl hj0 (by lia)) (cons_ok rfl rfl))) lim3) rfl (by rw [List.length_map,lim_eq];lia) (mk_pure _)
  rw [List.map_append]
  exact ap
 ·refine for_ok (rng2_ok (a:=1) (b:=2 + drw ns (40 + 3 * j) % 2) (cons_ok rfl (cons_ok (b2_ok (x:=.int 2) (y:=.int (drw ns (40 + 3 * j) % 2)) rfl (b2_ok (x:=.int (drw ns (40 + 3 * j))) (draw_w hn rfl (b2_ok (x:=.int 40) (y:=.int (3 * j)) rfl (b2_ok (x:=.int 3) (y:=.int j) rfl rfl a3) a40)) rfl m2) c2) rfl)) (by decide) (by decide) (by lia) (by lia)) ?_
  rw [h3]
  simp
structure MOk (ns : List Int) (many : Int) (n : Nat) (M : List Mk) : Prop where
 part : ∀ m ∈ M,MkPart ns many m
 kind : ∀ m ∈ M,IsK ns n m.2.1
 len : M.length<=3 * n
 find : ∀ K,IsK ns n K->∃ m R,M.filter (fun m=>m.2.1 == K) = m :: R/\(m.2.2 = []\/(m.2.2 = [wrd ns 0]/\K ≠ wrd ns 0))
theorem mok_next {ns : List Int} {many : Int} {n : Nat} {M N : List Mk} {w : Str} {fs : List Str} (h : MOk ns many n M) (hm : (n : Int) < many) (hw : Good w) (hfs : fs = []\/(fs = [wrd ns 0]/\0 < (n : Int))) (hN : ∀ m ∈ N,MkPart ns many m/\m.2.1 = wrd ns n) (hl : N.length<=2) : MOk ns many (n + 1) (M ++ (w,wrd ns n,fs) :: N):=by
 refine ⟨fun m hq=>?_,fun m hq=>?_,?_,fun K hK=>?_⟩
 ·rcases List.mem_append.mp hq with hq | hq
  ·exact h.part m hq
  ·rcases List.mem_cons.mp hq with rfl | hq
   ·refine ⟨hw,?_,fun p hp=>?_⟩
    ·rcases hfs with rfl | ⟨rfl,_⟩ <;> exact Nat.le_of_ble_eq_true rfl
    ·rcases hfs with rfl | ⟨rfl,_⟩
     ·cases hp
     ·exact ⟨0,by decide,by lia,List.mem_singleton.mp hp⟩
   ·exact (hN m hq).1
 ·rcases List.mem_append.mp hq with hq | hq
  ·obtain ⟨j,j0,j1,e⟩:=h.kind m hq
   exact ⟨j,j0,by lia,e⟩
  ·rcases List.mem_cons.mp hq with rfl | hq
   ·exact ⟨n,by lia,by lia,rfl⟩
   ·exact ⟨n,by lia,by lia,(hN m hq).2⟩
 ·have:=h.len
  rw [List.length_append,List.length_cons]
  lia
 ·rw [List.filter_append]
  by_cases z : IsK ns n K
  ·obtain ⟨m,R,e,q⟩:=h.find K z
   rw [e]
   exact ⟨m,_,rfl,q⟩
  ·have e : K = wrd ns n:=by
    obtain ⟨j,j0,j1,e⟩:=hK
    by_cases y : j < n
    ·exact absurd ⟨j,j0,y,e⟩ z
    ·have : j = n:=by lia
     rw [e,this]
   have e2 : M.filter (fun m=>m.2.1 == K) = []:=by
    rw [List.filter_eq_nil_iff]
    intro m hq y
    have:=h.kind m hq
    rw [eq_of_beq y] at this
    exact z this
   rw [e2,List.nil_append,List.filter_cons,if_pos (by rw [e];exact beq_self_eq_true _)]
   refine ⟨_,_,rfl,?_⟩
   rcases hfs with rfl | ⟨rfl,y⟩
   ·exact .inl rfl
   ·exact .inr ⟨rfl,fun q=>z ⟨0,by decide,y,q⟩⟩
theorem omk_loop {ns : List Int} {many : Int} (hn : ns.length<=63) (hm : 0 < many) (hm3 : many<=3) : ∀ (c n : Nat) (M : List Mk) (x3 x4 x5 x6 x7 x8 : D),(n : Int) + c = many->MOk ns many n M->
  ∃ (N : List Mk) (y3 y4 y5 y6 y7 y8 : D),MOk ns many (n + c) N/\forS (tg1 3) omk ((List.range' n c).map fun (k : Nat)=>D.int (0 + (k : Int))) [.scr (ns.map D.int),.int many,.lst (M.map mkD),x3,x4,x5,x6,x7,x8] = .ok (.nx [.scr (ns.map D.int),.int many,.lst (N.map mkD),y3,y4,y5,y6,y7,y8])
 | 0,n,M,x3,x4,x5,x6,x7,x8,_,h=>⟨M,x3,x4,x5,x6,x7,x8,h,rfl⟩
 | c + 1,n,M,x3,x4,x5,x6,x7,x8,he,h=>by
  obtain ⟨fs,N,y4,y5,y6,y7,y8,h1,h2,h3,h4,h5⟩:=omk_ok (j:=(n : Int)) hn hm hm3 (by lia) (by lia) (M:=M) (by have:=h.len;lia) (x4:=x4) (x5:=x5) (x6:=x6) (x7:=x7) (x8:=x8)
  obtain ⟨N',z3,z4,z5,z6,z7,z8,i1,i2⟩:=omk_loop hn hm hm3 c (n + 1) _ (.int n) y4 y5 y6 y7 y8 (by lia) (mok_next h (by lia) h2 h1 h3 h4)
  refine ⟨N',z3,z4,z5,z6,z7,z8,by rw [show n + (c + 1) = n + 1 + c by lia];exact i1,?_⟩
  rw [List.range'_succ,List.map_cons]
  exact fors_cons (ρ1:=[.scr (ns.map D.int),.int many,.lst (M.map mkD),.int n,x4,x5,x6,x7,x8]) (by rw [Int.zero_add];rfl) h5 i2
theorem makers_ok {ns : List Int} {many : Int} (hn : ns.length<=63) (hm : 0 < many) (hm3 : many<=3) : ∃ M : List Mk,MOk ns many many.toNat M/\argN 2 v__law_makers [.scr (ns.map D.int),.int many] = .ok (.tup (M.map mkD)):=by
 obtain ⟨N,y3,y4,y5,y6,y7,y8,h1,h2⟩:=omk_loop hn hm hm3 many.toNat 0 [] .undef .undef .undef .undef .undef .undef (by lia) ⟨fun _ h=>(by cases h),fun _ h=>(by cases h),Nat.zero_le _,fun K ⟨j,j0,j1,_⟩=>(by exfalso;lia)⟩
 rw [Nat.zero_add] at h1
 refine ⟨N,h1,(argN_ok rfl).trans (call_v ?_)⟩
 refine seq_ok (ρ':=[.scr (ns.map D.int),.int many,.lst [],.undef,.undef,.undef,.undef,.undef,.undef]) (setV_ok (i:=2) (lst_ok (xs:=[]) rfl (Nat.zero_le _)) rfl) ?_
 refine seq_ok (for_ok (rng_ok (n:=many) (cons_ok rfl rfl) (by lia) (by lia)) (by rw [List.range_eq_range'];exact h2)) ?_
 exact ret_ok (d:=.tup (N.map mkD)) (call_ok (xs:=[.lst (N.map mkD)]) (cons_ok rfl rfl) rfl) (by rw [D.pure,pures_map mk_pure];rfl)
end Lk61
end
section
set_option maxRecDepth 100000
namespace Lk61
open PySem L2 Mi
theorem addT_ok (a b : List D) (h : a.length + b.length<=1000) : addT (.tup a) (.tup b) = .ok (.tup (a ++ b)):=by
 rw [addT,if_pos (decide_eq_true (by rw [lim_eq];lia))]
noncomputable def TkPart (ns : List Int) (many : Int) (t : Tk) : Prop:=Good t.1/\IsK ns many t.2.1/\IsK ns many t.2.2.1/\t.2.2.2.length<=3/\∀ p ∈ t.2.2.2,IsK ns many p
noncomputable def otk : FS:=(sSeq (sSet false 4 (bCall (argN 2 v__law_draw) (bCons (bVar 0) (bCons (b2 (binD .add) (bC (.int 51)) (bVar 3)) (bNil)))) true) (sSeq (sSet false 5 (bCall tupleD (bCons (bComp 7 (bThen (bCons (b2 (binD .mod) (b2 (binD .fdiv) (bVar 4) (bC (.int 4))) (bC (.int 3))) (bNil)) rng1D) oneT (bTrue) (bCall (argN 2 v__law_word) (bCons (bVar 0) (bCons (b2 (binD .mod) (b2 (binD .fdiv) (bVar 4) (b2 (binD .add) (bC (.int 12)) (b2 mulX (bC (.int 7)) (bVar 7)))) (bVar 1)) (bNil)))) true) (bNil))) false) (sSeq (sSet false 6 (bTup (bCons (bCall (argN 2 v__law_word) (bCons (bVar 0) (bCons (b2 (binD .mod) (bVar 4) (bVar 1)) (bNil)))) (bCons (bCall (argN 2 v__law_word) (bCons (bVar 0) (bCons (b2 (binD .mod) (b2 (binD .fdiv) (bVar 4) (bC (.int 2))) (bVar 1)) (bNil)))) (bNil)))) true) (sApp 2 (b2 addT (b2 addT (bTup (bCons (bCall (argN 2 v__law_word) (bCons (bVar 0) (bCons (b2 (binD .add) (bC (.int 17)) (bVar 3)) (bNil)))) (bNil))) (bVar 6)) (bTup (bCons (bVar 5) (bNil))))))))
theorem otk_ok {ns : List Int} {many i : Int} (hn : ns.length<=63) (hm : 0 < many) (hm3 : many<=3) (hi0 : 0<=i) (hi : i<=3) {M : List Tk} (hM : M.length<=50) {x4 x5 x6 : D} :
  ∃ (t : Tk) (y4 y5 y6 : D),TkPart ns many t/\otk [.scr (ns.map D.int),.int many,.lst (M.map tkD),.int i,x4,x5,x6] = .ok (.nx [.scr (ns.map D.int),.int many,.lst ((M ++ [t]).map tkD),.int i,y4,y5,y6]):=by
 have a51:=add_ok 51 i
 have a17:=add_ok 17 i
 have d0:=(draw_ok hn (51 + i)).2.1
 generalize hdr : drw ns (51 + i) = dr at d0
 have f4:=fdiv_ok dr 4 (by decide) (by decide)
 have m3:=mod_ok (dr / 4) 3 (by decide)
 have f2:=fdiv_ok dr 2 (by decide) (by decide)
 have k1:=mod_ok dr many hm
 have k2:=mod_ok (dr / 2) many hm
 have p1:=Int.emod_nonneg dr (show many ≠ 0 by lia)
 have p2:=Int.emod_lt_of_pos dr hm
 have q1:=Int.emod_nonneg (dr / 2) (show many ≠ 0 by lia)
 have q2:=Int.emod_lt_of_pos (dr / 2) hm
 obtain ⟨xs,c1,c2,c3⟩:=kinds_comp (n:=7) (ρ:=[.scr (ns.map D.int),.int many,.lst (M.map tkD),.int i,.int dr,x5,x6]) (f:=b2 (binD .mod) (b2 (binD .fdiv) (bVar 4) (b2 (binD .add) (bC (.int 12)) (b2 mulX (bC (.int 7)) (bVar 7)))) (bVar 1)) (sz:=dr / 4 % 3) (g:=bCons (b2 (binD .mod) (b2 (binD .fdiv) (bVar 4) (bC (.int 4))) (bC (.int 3))) bNil) hn hm hm3 rfl (fun _=>rfl) (cons_ok (b2_ok (x:=.int (dr / 4)) (b2_ok (x:=.int dr) rfl rfl f4) rfl m3) rfl) (by lia) (by lia) (fun p p0 p3=>by
  have e1:=mul_okL 7 p (by decide)
  have e2:=add_ok 12 (7 * p)
  have e3:=fdiv_ok dr (12 + 7 * p) (by lia) (by lia)
  have e4:=mod_ok (dr / (12 + 7 * p)) many hm
  exact ⟨_,Int.emod_nonneg _ (by lia),Int.emod_lt_of_pos _ hm,b2_ok (x:=.int (dr / (12 + 7 * p))) (y:=.int many) (b2_ok (x:=.int dr) (y:=.int (12 + 7 * p)) rfl (b2_ok (x:=.int 12) (y:=.int (7 * p)) rfl (b2_ok (x:=.int 7) (y:=.int p) rfl rfl e1) e2) e3) rfl e4⟩)
 have w1:=word_ok hn (i:=17 + i) (by lia) (by lia)
 have t1:=addT_ok [.str (wrd ns (17 + i))] [.str (wrd ns (dr % many)),.str (wrd ns (dr / 2 % many))] (Nat.le_of_ble_eq_true rfl)
 have t2:=addT_ok [.str (wrd ns (17 + i)),.str (wrd ns (dr % many)),.str (wrd ns (dr / 2 % many))] [.tup (xs.map D.str)] (Nat.le_of_ble_eq_true rfl)
 refine ⟨(wrd ns (17 + i),wrd ns (dr % many),wrd ns (dr / 2 % many),xs),.int dr,.tup (xs.map D.str),.tup [.str (wrd ns (dr % many)),.str (wrd ns (dr / 2 % many))],⟨w1.2,⟨_,p1,p2,rfl⟩,⟨_,q1,q2,rfl⟩,c2,c1⟩,?_⟩
 refine seq_ok (ρ':=[.scr (ns.map D.int),.int many,.lst (M.map tkD),.int i,.int dr,x5,x6]) (set_ok (i:=4) (by rw [<- hdr];exact draw_w hn rfl (b2_ok (x:=.int 51) (y:=.int i) rfl rfl a51))) ?_
 refine seq_ok (ρ':=[.scr (ns.map D.int),.int many,.lst (M.map tkD),.int i,.int dr,.tup (xs.map D.str),x6]) (setP_ok (i:=5) c3 (by rw [D.pure,pures_strs])) ?_
 refine seq_ok (ρ':=[.scr (ns.map D.int),.int many,.lst (M.map tkD),.int i,.int dr,.tup (xs.map D.str),.tup [.str (wrd ns (dr % many)),.str (wrd ns (dr / 2 % many))]]) (set_ok (i:=6) (tup_ok (xs:=[.str (wrd ns (dr % many)),.str (wrd ns (dr / 2 % many))]) (cons_ok (word_w hn rfl (b2_ok (x:=.int dr) (y:=.int many) rfl rfl k1) p1 (by lia)) (cons_ok (word_w hn rfl (b2_ok (x:=.int (dr / 2)) (y:=.int many) (b2_ok (x:=.int dr) rfl rfl f2) rfl k2) q1 (by lia)) rfl)) lim2)) ?_
 have ap:=app_ok (i:=2) (ρ:=[.scr (ns.map D.int),.int many,.lst (M.map tkD),.int i,.int dr,.tup (xs.map D.str),.tup [.str (wrd ns (dr % many)),.str (wrd ns (dr / 2 % many))]]) (f:=b2 addT (b2 addT (bTup (bCons (bCall (argN 2 v__law_word) (bCons (bVar 0) (bCons (b2 (binD .add) (bC (.int 17)) (bVar 3)) (bNil)))) (bNil))) (bVar 6)) (bTup (bCons (bVar 5) (bNil)))) (xs:=M.map tkD) (d:=tkD (wrd ns (17 + i),wrd ns (dr % many),wrd ns (dr / 2 % many),xs)) (b2_ok (b2_ok (tup_ok (xs:=[.str (wrd ns (17 + i))]) (cons_ok (word_w hn rfl (b2_ok (x:=.int 17) (y:=.int i) rfl rfl a17) (by lia) (by lia)) rfl) (by rw [lim_eq];exact Nat.le_of_ble_eq_true rfl)) rfl t1) (tup_ok (xs:=[.tup (xs.map D.str)]) (cons_ok rfl rfl) (by rw [lim_eq];exact Nat.le_of_ble_eq_true rfl)) t2) rfl (by rw [List.length_map,lim_eq];lia) (tk_pure _)
 rw [List.map_append]
 exact ap
theorem otk_loop {ns : List Int} {many : Int} (hn : ns.length<=63) (hm : 0 < many) (hm3 : many<=3) : ∀ (ks : List Nat) (M : List Tk) (x3 x4 x5 x6 : D),(∀ k ∈ ks,k<=3)->M.length + ks.length<=50->(∀ t ∈ M,TkPart ns many t)->
  ∃ (N : List Tk) (y3 y4 y5 y6 : D),(∀ t ∈ N,TkPart ns many t)/\N.length = M.length + ks.length/\forS (tg1 3) otk (ks.map fun (k : Nat)=>D.int (0 + (k : Int))) [.scr (ns.map D.int),.int many,.lst (M.map tkD),x3,x4,x5,x6] = .ok (.nx [.scr (ns.map D.int),.int many,.lst (N.map tkD),y3,y4,y5,y6])
 | [],M,x3,x4,x5,x6,_,_,h=>⟨M,x3,x4,x5,x6,h,rfl,rfl⟩
 | k :: ks,M,x3,x4,x5,x6,h,hl,hM=>by
  rw [List.length_cons] at hl
  have hk:=h k (List.mem_cons_self ..)
  obtain ⟨t,y4,y5,y6,h1,h2⟩:=otk_ok hn hm hm3 (i:=(k : Int)) (by lia) (by lia) (M:=M) (by lia) (x4:=x4) (x5:=x5) (x6:=x6)
  obtain ⟨N,z3,z4,z5,z6,i1,i2,i3⟩:=otk_loop hn hm hm3 ks (M ++ [t]) (.int k) y4 y5 y6 (fun q hq=>h q (List.mem_cons_of_mem _ hq)) (by rw [List.length_append];show M.length + 1 + _<=50;lia) (fun q hq=>by
   rcases List.mem_append.mp hq with hq | hq
   ·exact hM q hq
   ·rw [List.mem_singleton.mp hq];exact h1)
  refine ⟨N,z3,z4,z5,z6,i1,?_,?_⟩
  ·rw [i2]
   simp only [List.length_append,List.length_cons,List.length_nil]
   lia
  ·rw [List.map_cons]
   exact fors_cons (ρ1:=[.scr (ns.map D.int),.int many,.lst (M.map tkD),.int k,x4,x5,x6]) (by rw [Int.zero_add];rfl) h2 i3
theorem takers_ok {ns : List Int} {many : Int} (hn : ns.length<=63) (hm : 0 < many) (hm3 : many<=3) : ∃ T : List Tk,(∀ t ∈ T,TkPart ns many t)/\T.length<=3/\argN 2 v__law_takers [.scr (ns.map D.int),.int many] = .ok (.tup (T.map tkD)):=by
 have m4:=mod_ok (drw ns 50) 4 (by decide)
 obtain ⟨N,y3,y4,y5,y6,h1,h2,h3⟩:=otk_loop hn hm hm3 (List.range (drw ns 50 % 4).toNat) [] .undef .undef .undef .undef (fun k hk=>by have:=List.mem_range.mp hk;lia) (by rw [List.length_range];show 0 + _<=50;lia) (fun _ h=>by cases h)
 rw [List.length_range,List.length_nil] at h2
 refine ⟨N,h1,by lia,(argN_ok rfl).trans (call_v ?_)⟩
 refine seq_ok (ρ':=[.scr (ns.map D.int),.int many,.lst [],.undef,.undef,.undef,.undef]) (setV_ok (i:=2) (lst_ok (xs:=[]) rfl (Nat.zero_le _)) rfl) ?_
 refine seq_ok (for_ok (rng_ok (n:=drw ns 50 % 4) (cons_ok (b2_ok (x:=.int (drw ns 50)) (draw_w hn rfl rfl) rfl m4) rfl) (by lia) (by lia)) h3) ?_
 exact ret_ok (d:=.tup (N.map tkD)) (call_ok (xs:=[.lst (N.map tkD)]) (cons_ok rfl rfl) rfl) (by rw [D.pure,pures_map tk_pure];rfl)
end Lk61
end
section
set_option maxRecDepth 100000
namespace Lk61
open PySem L2 Mi
theorem one_lim {n : Nat} (h : n<=1000) : n<=lim:=by rw [lim_eq];lia
theorem itemsX_ok {a : FE} {ρ : List D} {xs : List D} (h1 : a ρ = .ok (.tup xs)) : bItemsX a false ρ = .ok (xs,false || (D.tup xs).pure):=by
 unfold bItemsX
 rw [h1,Res.ok_bind]
 rfl
theorem eq_str (a b : Str) : cmpD .eq (.str a) (.str b) = .ok (.bl (a == b)):=rfl
theorem eq_int (a b : Int) : cmpD .eq (.int a) (.int b) = .ok (.bl (a == b)):=rfl
theorem ge_i (a b : Int) : cmpD (.ord .ge) (.int a) (.int b) = .ok (.bl (decide (b<=a))):=cmp_ord rfl rfl rfl
theorem lt_i (a b : Int) : cmpD (.ord .lt) (.int a) (.int b) = .ok (.bl (decide (a < b))):=cmp_ord rfl rfl rfl
theorem or_t {a b : FT} {ρ : List D} (h1 : a ρ = .ok true) : bOr a b ρ = .ok true:=by
 unfold bOr
 rw [h1]
 rfl
theorem or_f {a b : FT} {ρ : List D} {r : Res Bool} (h1 : a ρ = .ok false) (h2 : b ρ = r) : bOr a b ρ = r:=by
 unfold bOr
 rw [h1]
 exact h2
theorem or_ok {a b : FT} {ρ : List D} {x y : Bool} (h1 : a ρ = .ok x) (h2 : b ρ = .ok y) : bOr a b ρ = .ok (x || y):=by
 cases x with
 | true=>exact or_t h1
 | false=>exact or_f h1 h2
theorem andV_ok {a b : FE} {ρ : List D} {x y : Bool} (h1 : a ρ = .ok (.bl x)) (h2 : b ρ = .ok (.bl y)) : bAndV a b ρ = .ok (.bl (x && y)):=by
 unfold bAndV
 rw [h1,Res.ok_bind,asB_bl,Res.ok_bind]
 cases x with
 | true=>rw [if_pos rfl,h2];rfl
 | false=>rfl
theorem tr_ok {a : FE} {ρ : List D} {x : Bool} (h1 : a ρ = .ok (.bl x)) : bTr a ρ = .ok x:=by
 unfold bTr
 rw [h1]
 rfl
noncomputable abbrev Wt:=Str × Bool
noncomputable def wD (w : Wt) : D:=.tup [.str w.1,.bl w.2]
theorem w_pure (w : Wt) : (wD w).pure = true:=rfl
noncomputable def knD (K : List (Str × Str)) : List (D × D):=K.map fun p=>(.str p.1,.str p.2)
noncomputable def bkD (M : List Mk) (T : List Tk) : D:=.tup [.tup (M.map mkD),.tup (T.map tkD)]
theorem kn_look : ∀ (K : List (Str × Str)) (x : Str),x ∈ K.map (·.1)->∃ y : Str,lookD (knD K) (.str x) = some (.str y)
 | [],x,h=>by cases h
 | p :: K,x,h=>by
  show ∃ y : Str,(if (p.1 == x) then some (D.str p.2) else lookD (knD K) (.str x)) = some (.str y)
  by_cases z : (p.1 == x) = true
  ·rw [if_pos z]
   exact ⟨_,rfl⟩
  ·rw [if_neg z]
   refine kn_look K x ?_
   rcases List.mem_cons.mp h with rfl | h
   ·exact absurd (beq_self_eq_true _) z
   ·exact h
theorem kn_flat (K : List (Str × Str)) : (knD K).all (fun p=>!isTup p.1) = true:=by
 rw [List.all_eq_true]
 intro p hp
 obtain ⟨q,_,rfl⟩:=List.mem_map.mp hp
 rfl
theorem kn_vals (K : List (Str × Str)) : D.pures ((knD K).map (·.2)) = true:=by
 unfold knD
 rw [List.map_map]
 exact pures_map (f:=fun p : Str × Str=>D.str p.2) (fun _=>rfl) K
theorem kn_keys (K : List (Str × Str)) : keysD (knD K) = (K.map (·.1)).map D.str:=by
 unfold keysD knD
 rw [List.map_map,List.map_map]
 rfl
noncomputable def wfit : FE:=(bCompD 17 3 oneT (bTB (b2 (cmpD .eq) (b2 getD (bVar 3) (bVar 17)) (b2 getD (bVar 9) (bC (.int 0))))) (bVar 17))
theorem fit_ok {K : List (Str × Str)} (hK : K.length<=1000) {x0 x1 x2 x4 x5 x6 x7 x8 x10 x11 x12 x13 x14 x15 x16 : D} {h : Wt} :
  ∃ F : List Str,F.length<=K.length/\wfit [x0,x1,x2,.dct (knD K),x4,x5,x6,x7,x8,wD h,x10,x11,x12,x13,x14,x15,x16] = .ok (.lst (F.map D.str)):=by
 generalize hρ : fzD 3 (knD K) [x0,x1,x2,.dct (knD K),x4,x5,x6,x7,x8,wD h,x10,x11,x12,x13,x14,x15,x16] = ρ
 have l : ρ.length = 17:=by rw [<- hρ];unfold fzD;rw [List.length_set,List.length_map];rfl
 have v3 : ∀ x,bVar 3 (ρ ++ [x]) = .ok (.fdc (knD K)):=fun x=>by rw [<- hρ];rfl
 have v9 : ∀ x,bVar 9 (ρ ++ [x]) = .ok (wD h):=fun x=>by rw [<- hρ];rfl
 have v17 : ∀ x,x ≠ .undef->bVar 17 (ρ ++ [x]) = .ok x:=fun x hx=>by
  have : (ρ ++ [x]).getD 17 .undef = x:=by rw [List.getD_eq_getElem?_getD,List.getElem?_append_right (by lia),l];rfl
  unfold bVar
  rw [this]
  cases x <;> first | rfl | exact absurd rfl hx
 obtain ⟨F,_,h2,h3⟩:=cfold_all (cstep 17 oneT (bTB (b2 (cmpD .eq) (b2 getD (bVar 3) (bVar 17)) (b2 getD (bVar 9) (bC (.int 0))))) (bVar 17) false ρ) D.str (fun _=>True) (keysD (knD K)) [] (fun d hd acc=>by
  rw [kn_keys] at hd
  obtain ⟨x,hx,rfl⟩:=List.mem_map.mp hd
  obtain ⟨y,hy⟩:=kn_look K x hx
  have g1 : getD (.fdc (knD K)) (.str x) = .ok (.str y):=by
   show (if keyOk (.str x) then Res.ofOpt (lookD (knD K) (.str x)) else .bad) = _
   rw [if_pos (show keyOk (.str x) = true from rfl),hy]
   rfl
  have c:=cstep_one (k:=false) (acc:=acc) (c:=bTB (b2 (cmpD .eq) (b2 getD (bVar 3) (bVar 17)) (b2 getD (bVar 9) (bC (.int 0))))) (f:=bVar 17) (x:=.str x) (y:=.str x) (b:=(y == h.1)) l (tb_ok (b2_ok (x:=.str y) (y:=.str h.1) (b2_ok (v3 _) (v17 _ (by intro q;cases q)) g1) (b2_ok (x:=wD h) (y:=.int 0) (v9 _) rfl rfl) (eq_str _ _))) (fun _=>⟨v17 _ (by intro q;cases q),rfl⟩)
  rw [c]
  by_cases z : (y == h.1) = true
  ·exact ⟨[x],fun _ _=>trivial,Nat.le_refl _,by rw [if_pos z];rfl⟩
  ·exact ⟨[],fun _ _=>trivial,Nat.zero_le _,by rw [if_neg z];simp⟩)
 rw [List.nil_append] at h3
 have hl : (keysD (knD K)).length = K.length:=by rw [kn_keys,List.length_map,List.length_map]
 refine ⟨F,by lia,?_⟩
 have kl : (knD K).length<=lim:=by unfold knD;rw [List.length_map];exact one_lim hK
 unfold wfit bCompD
 show (if decide ((knD K).length<=lim) && ((knD K).all (fun p=>!isTup p.1) && D.pures ((knD K).map (·.2))) then (do
   let ys <- cfold (cstep 17 oneT (bTB (b2 (cmpD .eq) (b2 getD (bVar 3) (bVar 17)) (b2 getD (bVar 9) (bC (.int 0))))) (bVar 17) false (fzD 3 (knD K) [x0,x1,x2,.dct (knD K),x4,x5,x6,x7,x8,wD h,x10,x11,x12,x13,x14,x15,x16])) [] (keysD (knD K))
   pure (D.lst ys)) else .bad) = _
 rw [if_pos (by rw [kn_flat,kn_vals,decide_eq_true kl];rfl),hρ,h3]
 rfl
noncomputable def wown (k : Int) : FE:=(bComp 17 (bItemsX (b2 getD (bVar 2) (bC (.int k))) false) oneT (bTB (b2 (cmpD .eq) (b2 getD (bVar 17) (bC (.int 1))) (b2 getD (bVar 9) (bC (.int 0))))) (bVar 17) false)
theorem own_ok {M : List Mk} {T : List Tk} (hM : M.length<=1000) {x0 x1 x3 x4 x5 x6 x7 x8 x10 x11 x12 x13 x14 x15 x16 : D} {h : Wt} :
  wown 0 [x0,x1,bkD M T,x3,x4,x5,x6,x7,x8,wD h,x10,x11,x12,x13,x14,x15,x16] = .ok (.lst ((M.filter fun m=>m.2.1 == h.1).map mkD)):=by
 refine comp_ok (xs:=M.map mkD) (itemsX_ok (b2_ok (x:=bkD M T) (y:=.int 0) rfl rfl rfl)) (by rw [List.length_map];exact one_lim hM) ?_
 have c:=cfold_map (cstep 17 oneT (bTB (b2 (cmpD .eq) (b2 getD (bVar 17) (bC (.int 1))) (b2 getD (bVar 9) (bC (.int 0))))) (bVar 17) false [x0,x1,bkD M T,x3,x4,x5,x6,x7,x8,wD h,x10,x11,x12,x13,x14,x15,x16]) mkD (fun m=>m.2.1 == h.1) mkD (fun acc m=>cstep_one (y:=mkD m) rfl (tb_ok (b2_ok (x:=.str m.2.1) (y:=.str h.1) (b2_ok (x:=mkD m) (y:=.int 1) rfl rfl rfl) (b2_ok (x:=wD h) (y:=.int 0) rfl rfl rfl) (eq_str _ _))) (fun _=>⟨rfl,mk_pure m⟩)) M []
 rw [List.nil_append] at c
 exact c
theorem able_ok {M : List Mk} {T : List Tk} (hT : T.length<=1000) {x0 x1 x3 x4 x5 x6 x7 x8 x10 x11 x12 x13 x14 x15 x16 : D} {h : Wt} :
  wown 1 [x0,x1,bkD M T,x3,x4,x5,x6,x7,x8,wD h,x10,x11,x12,x13,x14,x15,x16] = .ok (.lst ((T.filter fun m=>m.2.1 == h.1).map tkD)):=by
 refine comp_ok (xs:=T.map tkD) (itemsX_ok (b2_ok (x:=bkD M T) (y:=.int 1) rfl rfl rfl)) (by rw [List.length_map];exact one_lim hT) ?_
 have c:=cfold_map (cstep 17 oneT (bTB (b2 (cmpD .eq) (b2 getD (bVar 17) (bC (.int 1))) (b2 getD (bVar 9) (bC (.int 0))))) (bVar 17) false [x0,x1,bkD M T,x3,x4,x5,x6,x7,x8,wD h,x10,x11,x12,x13,x14,x15,x16]) tkD (fun m=>m.2.1 == h.1) tkD (fun acc m=>cstep_one (y:=tkD m) rfl (tb_ok (b2_ok (x:=.str m.2.1) (y:=.str h.1) (b2_ok (x:=tkD m) (y:=.int 1) rfl rfl rfl) (b2_ok (x:=wD h) (y:=.int 0) rfl rfl rfl) (eq_str _ _))) (fun _=>⟨rfl,tk_pure m⟩)) T []
 rw [List.nil_append] at c
 exact c
theorem parts_ok {n : Nat} {ρ : List D} {a : FE} {xs : List Str} {b : Bool} (hρ : ρ.length = 17) (ha : a ρ = .ok (.tup (xs.map D.str))) (hl : xs.length<=1000) : bComp 17 (bItemsX a false) oneT (bTrue) (bTup (bCons (bVar 17) (bCons (bC (.bl b)) (bNil)))) false ρ = .ok (.lst ((xs.map fun x=>(x,b)).map wD)):=by
 refine comp_ok (xs:=xs.map D.str) (itemsX_ok ha) (by rw [List.length_map];exact one_lim hl) ?_
 have v17 : ∀ x : Str,bVar 17 (ρ ++ [.str x]) = .ok (.str x):=fun x=>by
  have : (ρ ++ [D.str x]).getD 17 .undef = .str x:=by rw [List.getD_eq_getElem?_getD,List.getElem?_append_right (by lia),hρ];rfl
  unfold bVar
  rw [this]
 have c:=cfold_map (cstep 17 oneT bTrue (bTup (bCons (bVar 17) (bCons (bC (.bl b)) (bNil)))) false ρ) D.str (fun _=>true) (fun x=>wD (x,b)) (fun acc x=>cstep_one (y:=wD (x,b)) (b:=true) hρ rfl (fun _=>⟨tup_ok (xs:=[.str x,.bl b]) (cons_ok (v17 x) (cons_ok rfl rfl)) lim2,rfl⟩)) xs []
 rw [List.nil_append,List.filter_eq_self.mpr (fun _ _=>rfl)] at c
 rw [c,List.map_map]
 rfl
end Lk61
end
section
set_option maxRecDepth 100000
namespace Lk61
open PySem L2 Mi
noncomputable def wt (ns : List Int) (w : Wt) : Nat:=if w.1 = wrd ns 0 then 1 else 2
noncomputable def sm (ns : List Int) : List Wt->Nat
 | []=>0
 | w :: L=>wt ns w + sm ns L
theorem wt_le (ns : List Int) (w : Wt) : 1<=wt ns w/\wt ns w<=2:=by unfold wt;split <;> lia
theorem sm_len (ns : List Int) : ∀ L : List Wt,L.length<=sm ns L/\sm ns L<=2 * L.length
 | []=>⟨Nat.le_refl _,Nat.le_refl _⟩
 | w :: L=>by
  have:=wt_le ns w
  have:=sm_len ns L
  rw [List.length_cons,sm]
  lia
theorem sm_app (ns : List Int) : ∀ A B : List Wt,sm ns (A ++ B) = sm ns A + sm ns B
 | [],B=>by rw [List.nil_append,sm,Nat.zero_add]
 | w :: A,B=>by rw [List.cons_append,sm,sm_app ns A B,sm];lia
noncomputable def mu (ns : List Int) (n : Nat) (L : List Wt) : Nat:=(5 - n) * 100 + sm ns L
noncomputable def ww (ns : List Int) (at_ : Int) (M : List Mk) (T : List Tk) (K : List (Str × Str)) (kind : Str) (ws : List Str) (L : List Wt) (x9 x10 x11 x12 x13 x14 x15 x16 : D) : List D:=[.scr (ns.map D.int),.int at_,bkD M T,.dct (knD K),.str kind,.int 5,.int 0,.lst (ws.map D.str),.lst (L.map wD),x9,x10,x11,x12,x13,x14,x15,x16]
noncomputable def b2s : FS:=(sSeq (sApp 7 (b2 getD (b2 (binD .add) (bVar 11) (bLstP (bCons (b2 getD (b2 getD (bVar 12) (bC (.int 0))) (bC (.int 0))) (bNil)))) (b2 (binD .mod) (b2 (binD .fdiv) (bVar 10) (bC (.int 4))) (bCall (minmax .gt) (bCons (bC (.int 1)) (bCons (bCall lenD (bCons (bVar 11) (bNil))) (bNil))))))) (sIf (bTB (b2 (cmpD .eq) (bCall lenD (bCons (bVar 11) (bNil))) (bC (.int 0)))) (sSet true 8 (b2 (binD .add) (bComp 17 (bItemsX (b2 getD (b2 getD (bVar 12) (bC (.int 0))) (bC (.int 2))) false) oneT (bTrue) (bTup (bCons (bVar 17) (bCons (bC (.bl true)) (bNil)))) false) (bVar 8)) true) (sNil)))
noncomputable def b3s : FS:=(sSeq (sSet false 14 (b2 getD (bVar 12) (b2 (binD .mod) (b2 (binD .fdiv) (bVar 10) (bC (.int 4))) (bCall lenD (bCons (bVar 12) (bNil))))) false) (sSeq (sApp 7 (b2 getD (bVar 14) (bC (.int 0)))) (sSet true 8 (b2 (binD .add) (bComp 17 (bItemsX (b2 getD (bVar 14) (bC (.int 2))) false) oneT (bTrue) (bTup (bCons (bVar 17) (bCons (bC (.bl false)) (bNil)))) false) (bVar 8)) true)))
noncomputable def b4s : FS:=(sSeq (sSet false 15 (b2 getD (bVar 13) (b2 (binD .mod) (b2 (binD .fdiv) (bVar 10) (bC (.int 4))) (bCall lenD (bCons (bVar 13) (bNil))))) false) (sSeq (sApp 7 (b2 getD (bVar 15) (bC (.int 0)))) (sSeq (sSet false 16 (bAndV (b2 (cmpD (.ord .gt)) (bCall lenX (bCons (bVar 3) (bNil))) (bC (.int 0))) (b2 (cmpD (.ord .gt)) (b2 (binD .mod) (b2 (binD .fdiv) (bVar 10) (bC (.int 64))) (bC (.int 4))) (bC (.int 0)))) true) (sSet true 8 (b2 (binD .add) (b2 (binD .add) (bLstP (bCons (bTup (bCons (b2 getD (bVar 15) (bC (.int 2))) (bCons (bVar 16) (bNil)))) (bNil))) (bComp 17 (bItemsX (b2 getD (bVar 15) (bC (.int 3))) false) oneT (bTrue) (bTup (bCons (bVar 17) (bCons (bC (.bl false)) (bNil)))) false)) (bVar 8)) true))))
noncomputable def c1s : FT:=(bAnd (bTB (b2 (cmpD (.ord .lt)) (bCall lenD (bCons (bVar 7) (bNil))) (bVar 6))) (bTB (b2 (cmpD .eq) (bCall lenD (bCons (bVar 8) (bNil))) (bC (.int 0)))))
noncomputable def c2s : FT:=(bOr (bTr (b2 getD (bVar 9) (bC (.int 1)))) (bOr (bTB (b2 (cmpD (.ord .ge)) (b2 (binD .add) (bCall lenD (bCons (bVar 7) (bNil))) (bCall lenD (bCons (bVar 8) (bNil)))) (bVar 5))) (bTB (b2 (cmpD .eq) (b2 (binD .mod) (bVar 10) (bC (.int 4))) (bC (.int 0))))))
noncomputable def c3s : FT:=(bOr (bTB (b2 (cmpD (.ord .lt)) (b2 (binD .mod) (bVar 10) (bC (.int 4))) (bC (.int 3)))) (bTB (b2 (cmpD .eq) (bCall lenD (bCons (bVar 13) (bNil))) (bC (.int 0)))))
noncomputable def b1s : FS:=(sSeq (sApp 7 (b2 getD (b2 getD (bVar 12) (bC (.int 1))) (bC (.int 0)))) (sSet true 8 (bLstP (bCons (bTup (bCons (b2 getD (b2 getD (b2 getD (bVar 12) (bC (.int 1))) (bC (.int 2))) (bC (.int 0))) (bCons (bC (.bl false)) (bNil)))) (bNil))) true))
noncomputable def wbody : FS:=(sSeq (sPopL 8 9 (bC (.int 0))) (sSeq (sSet false 10 (bCall (argN 2 v__law_draw) (bCons (bVar 0) (bCons (b2 (binD .add) (bVar 1) (bCall lenD (bCons (bVar 7) (bNil)))) (bNil)))) true) (sSeq (sSet false 11 wfit true) (sSeq (sSet false 12 (wown 0) true) (sSeq (sSet false 13 (wown 1) true) (sIf c1s b1s (sIf c2s b2s (sIf c3s b3s b4s))))))))
theorem words_def : b__law_words = sSeq (sSet true 7 (bLst (bNil)) true) (sSeq (sSet true 8 (bLstP (bCons (bTup (bCons (bVar 4) (bCons (bC (.bl false)) (bNil)))) (bNil))) true) (sSeq (sWhl (bTB (b2 (cmpD (.ord .gt)) (bCall lenD (bCons (bVar 8) (bNil))) (bC (.int 0)))) wbody) (sRet (bCall tupleD (bCons (bVar 7) (bNil))) false))):=rfl
theorem get_map {α : Type} (f : α->D) (L : List α) (i : Int) (h0 : 0<=i) (h1 : i < L.length) : ∃ a ∈ L,getD (.lst (L.map f)) (.int i) = .ok (f a):=by
 obtain ⟨hl,e⟩:=lst_get (L.map f) i h0 (by rw [List.length_map];exact h1)
 rw [e,List.getElem_map]
 exact ⟨_,List.getElem_mem ..,rfl⟩
section
variable {ns : List Int} {many : Int} {at_ : Int} {M : List Mk} {T : List Tk} {K : List (Str × Str)} {kind : Str} {ws : List Str} {r : List Wt} {h : Wt} {dr : Int} {F : List Str} {m0 : Mk} {R : List Mk} {A : List Tk} {x14 x15 x16 : D}
theorem b2_step (hw : ws.length<=600) (hr : r.length<=600) (hd : 0<=dr) (hF : F.length<=100) (hm : m0.2.2.length<=3) :
  ∃ (w : Str) (L : List Wt),(L = r\/L = (m0.2.2.map fun x=>(x,true)) ++ r)/\b2s (ww ns at_ M T K kind ws r (wD h) (.int dr) (.lst (F.map D.str)) (.lst ((m0 :: R).map mkD)) (.lst (A.map tkD)) x14 x15 x16) = .ok (.nx (ww ns at_ M T K kind (ws ++ [w]) L (wD h) (.int dr) (.lst (F.map D.str)) (.lst ((m0 :: R).map mkD)) (.lst (A.map tkD)) x14 x15 x16)):=by
 have f4:=fdiv_ok dr 4 (by decide) (by decide)
 obtain ⟨n,n1,n2,hn⟩ : ∃ n : Int,0 < n/\n < (F ++ [m0.1]).length + 1/\minmax .gt [.int 1,.int (F.length : Nat)] = .ok (.int n)/\(n<=1\/n<=F.length):=by
  refine ⟨_,?_,?_,max1 F.length,?_⟩
  ·split <;> lia
  ·rw [List.length_append,List.length_cons];split <;> lia
  ·split <;> lia
 have m4:=mod_ok (dr / 4) n n1
 have p1:=Int.emod_nonneg (dr / 4) (show n ≠ 0 by lia)
 have p2:=Int.emod_lt_of_pos (dr / 4) n1
 obtain ⟨w,_,hg⟩:=get_map D.str (F ++ [m0.1]) (dr / 4 % n) p1 (by lia)
 rw [List.map_append,show List.map D.str [m0.1] = [D.str m0.1] from rfl] at hg
 have g0 : getD (.lst ((m0 :: R).map mkD)) (.int 0) = .ok (mkD m0):=(lst_get ((m0 :: R).map mkD) 0 (Int.le_refl 0) (by rw [List.length_map,List.length_cons];lia)).2
 have hap : sApp 7 (b2 getD (b2 (binD .add) (bVar 11) (bLstP (bCons (b2 getD (b2 getD (bVar 12) (bC (.int 0))) (bC (.int 0))) (bNil)))) (b2 (binD .mod) (b2 (binD .fdiv) (bVar 10) (bC (.int 4))) (bCall (minmax .gt) (bCons (bC (.int 1)) (bCons (bCall lenD (bCons (bVar 11) (bNil))) (bNil)))))) (ww ns at_ M T K kind ws r (wD h) (.int dr) (.lst (F.map D.str)) (.lst ((m0 :: R).map mkD)) (.lst (A.map tkD)) x14 x15 x16) = .ok (.nx (ww ns at_ M T K kind (ws ++ [w]) r (wD h) (.int dr) (.lst (F.map D.str)) (.lst ((m0 :: R).map mkD)) (.lst (A.map tkD)) x14 x15 x16)):=by
  have e1 : b2 (binD .add) (bVar 11) (bLstP (bCons (b2 getD (b2 getD (bVar 12) (bC (.int 0))) (bC (.int 0))) (bNil))) (ww ns at_ M T K kind ws r (wD h) (.int dr) (.lst (F.map D.str)) (.lst ((m0 :: R).map mkD)) (.lst (A.map tkD)) x14 x15 x16) = .ok (.lst (F.map D.str ++ [.str m0.1])):=b2_ok (x:=.lst (F.map D.str)) (y:=.lst [.str m0.1]) rfl (lstP_ok (xs:=[.str m0.1]) (cons_ok (b2_ok (x:=mkD m0) (y:=.int 0) (b2_ok (x:=.lst ((m0 :: R).map mkD)) (y:=.int 0) rfl rfl g0) rfl rfl) rfl) (one_lim (Nat.le_of_ble_eq_true rfl)) rfl) (add_lst _ _ (by rw [List.length_map];exact one_lim (by show F.length + 1<=1000;lia)) (pures_strs F) rfl)
  have e2 : b2 (binD .mod) (b2 (binD .fdiv) (bVar 10) (bC (.int 4))) (bCall (minmax .gt) (bCons (bC (.int 1)) (bCons (bCall lenD (bCons (bVar 11) (bNil))) (bNil)))) (ww ns at_ M T K kind ws r (wD h) (.int dr) (.lst (F.map D.str)) (.lst ((m0 :: R).map mkD)) (.lst (A.map tkD)) x14 x15 x16) = .ok (.int (dr / 4 % n)):=b2_ok (x:=.int (dr / 4)) (y:=.int n) (b2_ok (x:=.int dr) (y:=.int 4) rfl rfl f4) (call_ok (xs:=[.int 1,.int (F.length : Nat)]) (cons_ok rfl (cons_ok (call_ok (xs:=[.lst (F.map D.str)]) (cons_ok rfl rfl) (by rw [len_ok,List.length_map])) rfl)) hn.1) m4
  have e3:=b2_ok e1 e2 hg
  have ap:=app_ok (i:=7) (xs:=ws.map D.str) (d:=.str w) e3 rfl (by rw [List.length_map];exact Nat.lt_of_lt_of_le (show ws.length < 1000 by lia) (one_lim (Nat.le_refl _))) rfl
  unfold ww
  rw [List.map_append]
  exact ap
 have hc : bTB (b2 (cmpD .eq) (bCall lenD (bCons (bVar 11) (bNil))) (bC (.int 0))) (ww ns at_ M T K kind (ws ++ [w]) r (wD h) (.int dr) (.lst (F.map D.str)) (.lst ((m0 :: R).map mkD)) (.lst (A.map tkD)) x14 x15 x16) = .ok (((F.length : Nat) : Int) == 0):=tb_ok (b2_ok (x:=.int (F.length : Nat)) (y:=.int 0) (call_ok (xs:=[.lst (F.map D.str)]) (cons_ok rfl rfl) (by rw [len_ok,List.length_map])) rfl (eq_int _ _))
 by_cases z : (((F.length : Nat) : Int) == 0) = true
 ·rw [z] at hc
  refine ⟨w,_,.inr rfl,seq_ok hap (if_t hc ?_)⟩
  have e:=setV_ok (i:=8) (d:=.lst ((m0.2.2.map fun x=>(x,true)).map wD ++ r.map wD)) (b2_ok (f:=binD .add) (x:=.lst ((m0.2.2.map fun x=>(x,true)).map wD)) (y:=.lst (r.map wD)) (parts_ok (n:=0) (ρ:=ww ns at_ M T K kind (ws ++ [w]) r (wD h) (.int dr) (.lst (F.map D.str)) (.lst ((m0 :: R).map mkD)) (.lst (A.map tkD)) x14 x15 x16) (a:=b2 getD (b2 getD (bVar 12) (bC (.int 0))) (bC (.int 2))) (b:=true) rfl (b2_ok (x:=mkD m0) (y:=.int 2) (b2_ok (x:=.lst ((m0 :: R).map mkD)) (y:=.int 0) rfl rfl g0) rfl rfl) (by lia)) (b:=bVar 8) rfl (add_lst _ _ (by simp only [List.length_map];exact one_lim (by lia)) (pures_map w_pure _) (pures_map w_pure _))) (by rw [<- List.map_append];exact pures_map w_pure _)
  rw [e,<- List.map_append]
  rfl
 ·rw [Bool.not_eq_true] at z
  rw [z] at hc
  exact ⟨w,r,.inl rfl,seq_ok hap (if_f hc rfl)⟩
theorem b3_step (hw : ws.length<=600) (hr : r.length<=600) (hd : 0<=dr) (hR : (m0 :: R).length<=100) (hm : ∀ m ∈ m0 :: R,m.2.2.length<=3) :
  ∃ (m : Mk) (y14 : D),m ∈ m0 :: R/\b3s (ww ns at_ M T K kind ws r (wD h) (.int dr) (.lst (F.map D.str)) (.lst ((m0 :: R).map mkD)) (.lst (A.map tkD)) x14 x15 x16) = .ok (.nx (ww ns at_ M T K kind (ws ++ [m.1]) ((m.2.2.map fun x=>(x,false)) ++ r) (wD h) (.int dr) (.lst (F.map D.str)) (.lst ((m0 :: R).map mkD)) (.lst (A.map tkD)) y14 x15 x16)):=by
 have f4:=fdiv_ok dr 4 (by decide) (by decide)
 have n1 : (0 : Int) < ((m0 :: R).length : Nat):=by rw [List.length_cons];lia
 have m4:=mod_ok (dr / 4) ((m0 :: R).length : Nat) n1
 have p1:=Int.emod_nonneg (dr / 4) (show (((m0 :: R).length : Nat) : Int) ≠ 0 by lia)
 have p2:=Int.emod_lt_of_pos (dr / 4) n1
 obtain ⟨m,hmm,hg⟩:=get_map mkD (m0 :: R) (dr / 4 % ((m0 :: R).length : Nat)) p1 p2
 have h3:=hm m hmm
 refine ⟨m,mkD m,hmm,?_⟩
 refine seq_ok (ρ':=ww ns at_ M T K kind ws r (wD h) (.int dr) (.lst (F.map D.str)) (.lst ((m0 :: R).map mkD)) (.lst (A.map tkD)) (mkD m) x15 x16) (setP_ok (i:=14) (b2_ok (x:=.lst ((m0 :: R).map mkD)) (y:=.int (dr / 4 % ((m0 :: R).length : Nat))) rfl (b2_ok (x:=.int (dr / 4)) (y:=.int ((m0 :: R).length : Nat)) (b2_ok (x:=.int dr) (y:=.int 4) rfl rfl f4) (call_ok (xs:=[.lst ((m0 :: R).map mkD)]) (cons_ok rfl rfl) (by rw [len_ok,List.length_map])) m4) hg) (mk_pure m)) ?_
 refine seq_ok (ρ':=ww ns at_ M T K kind (ws ++ [m.1]) r (wD h) (.int dr) (.lst (F.map D.str)) (.lst ((m0 :: R).map mkD)) (.lst (A.map tkD)) (mkD m) x15 x16) ?_ ?_
 ·have ap:=app_ok (i:=7) (ρ:=ww ns at_ M T K kind ws r (wD h) (.int dr) (.lst (F.map D.str)) (.lst ((m0 :: R).map mkD)) (.lst (A.map tkD)) (mkD m) x15 x16) (f:=b2 getD (bVar 14) (bC (.int 0))) (xs:=ws.map D.str) (d:=.str m.1) (b2_ok (x:=mkD m) (y:=.int 0) rfl rfl rfl) rfl (by rw [List.length_map];exact Nat.lt_of_lt_of_le (show ws.length < 1000 by lia) (one_lim (Nat.le_refl _))) rfl
  unfold ww
  rw [List.map_append]
  exact ap
 ·have e:=setV_ok (i:=8) (d:=.lst ((m.2.2.map fun x=>(x,false)).map wD ++ r.map wD)) (b2_ok (f:=binD .add) (x:=.lst ((m.2.2.map fun x=>(x,false)).map wD)) (y:=.lst (r.map wD)) (parts_ok (n:=0) (ρ:=ww ns at_ M T K kind (ws ++ [m.1]) r (wD h) (.int dr) (.lst (F.map D.str)) (.lst ((m0 :: R).map mkD)) (.lst (A.map tkD)) (mkD m) x15 x16) (a:=b2 getD (bVar 14) (bC (.int 2))) (b:=false) rfl (b2_ok (x:=mkD m) (y:=.int 2) rfl rfl rfl) (by lia)) (b:=bVar 8) rfl (add_lst _ _ (by simp only [List.length_map];exact one_lim (by lia)) (pures_map w_pure _) (pures_map w_pure _))) (by rw [<- List.map_append];exact pures_map w_pure _)
  rw [e,<- List.map_append]
  rfl
theorem b4_step (hw : ws.length<=600) (hr : r.length<=600) (hd : 0<=dr) (hA0 : 0 < A.length) (hm : ∀ m ∈ A,m.2.2.2.length<=3) :
  ∃ (m : Tk) (b : Bool) (y15 y16 : D),m ∈ A/\b4s (ww ns at_ M T K kind ws r (wD h) (.int dr) (.lst (F.map D.str)) (.lst ((m0 :: R).map mkD)) (.lst (A.map tkD)) x14 x15 x16) = .ok (.nx (ww ns at_ M T K kind (ws ++ [m.1]) (((m.2.2.1,b) :: (m.2.2.2.map fun x=>(x,false))) ++ r) (wD h) (.int dr) (.lst (F.map D.str)) (.lst ((m0 :: R).map mkD)) (.lst (A.map tkD)) x14 y15 y16)):=by
 have f4:=fdiv_ok dr 4 (by decide) (by decide)
 have f64:=fdiv_ok dr 64 (by decide) (by decide)
 have m64:=mod_ok (dr / 64) 4 (by decide)
 have n1 : (0 : Int) < (A.length : Nat):=by lia
 have m4:=mod_ok (dr / 4) (A.length : Nat) n1
 have p1:=Int.emod_nonneg (dr / 4) (show ((A.length : Nat) : Int) ≠ 0 by lia)
 have p2:=Int.emod_lt_of_pos (dr / 4) n1
 obtain ⟨m,hmm,hg⟩:=get_map tkD A (dr / 4 % (A.length : Nat)) p1 p2
 have h3:=hm m hmm
 refine ⟨m,(decide ((0 : Int) < ((knD K).length : Nat)) && decide ((0 : Int) < dr / 64 % 4)),tkD m,.bl (decide ((0 : Int) < ((knD K).length : Nat)) && decide ((0 : Int) < dr / 64 % 4)),hmm,?_⟩
 refine seq_ok (ρ':=ww ns at_ M T K kind ws r (wD h) (.int dr) (.lst (F.map D.str)) (.lst ((m0 :: R).map mkD)) (.lst (A.map tkD)) x14 (tkD m) x16) (setP_ok (i:=15) (b2_ok (x:=.lst (A.map tkD)) (y:=.int (dr / 4 % (A.length : Nat))) rfl (b2_ok (x:=.int (dr / 4)) (y:=.int (A.length : Nat)) (b2_ok (x:=.int dr) (y:=.int 4) rfl rfl f4) (call_ok (xs:=[.lst (A.map tkD)]) (cons_ok rfl rfl) (by rw [len_ok,List.length_map])) m4) hg) (tk_pure m)) ?_
 refine seq_ok (ρ':=ww ns at_ M T K kind (ws ++ [m.1]) r (wD h) (.int dr) (.lst (F.map D.str)) (.lst ((m0 :: R).map mkD)) (.lst (A.map tkD)) x14 (tkD m) x16) ?_ ?_
 ·have ap:=app_ok (i:=7) (ρ:=ww ns at_ M T K kind ws r (wD h) (.int dr) (.lst (F.map D.str)) (.lst ((m0 :: R).map mkD)) (.lst (A.map tkD)) x14 (tkD m) x16) (f:=b2 getD (bVar 15) (bC (.int 0))) (xs:=ws.map D.str) (d:=.str m.1) (b2_ok (x:=tkD m) (y:=.int 0) rfl rfl rfl) rfl (by rw [List.length_map];exact Nat.lt_of_lt_of_le (show ws.length < 1000 by lia) (one_lim (Nat.le_refl _))) rfl
  unfold ww
  rw [List.map_append]
  exact ap
 have lx : lenX [.dct (knD K)] = .ok (.int ((knD K).length : Nat)):=by
  rw [lenX,if_pos (kn_flat K)]
 generalize hb : (decide ((0 : Int) < ((knD K).length : Nat)) && decide ((0 : Int) < dr / 64 % 4)) = b
 refine seq_ok (ρ':=ww ns at_ M T K kind (ws ++ [m.1]) r (wD h) (.int dr) (.lst (F.map D.str)) (.lst ((m0 :: R).map mkD)) (.lst (A.map tkD)) x14 (tkD m) (.bl b)) (set_ok (i:=16) (by
  rw [<- hb]
  exact andV_ok (b2_ok (x:=.int ((knD K).length : Nat)) (y:=.int 0) (call_ok (xs:=[.dct (knD K)]) (cons_ok rfl rfl) lx) rfl (gt_i _ _)) (b2_ok (x:=.int (dr / 64 % 4)) (y:=.int 0) (b2_ok (x:=.int (dr / 64)) (b2_ok (x:=.int dr) rfl rfl f64) rfl m64) rfl (gt_i _ _)))) ?_
 have e:=setV_ok (i:=8) (d:=.lst (([wD (m.2.2.1,b)] ++ (m.2.2.2.map fun x=>(x,false)).map wD) ++ r.map wD)) (b2_ok (f:=binD .add) (x:=.lst ([wD (m.2.2.1,b)] ++ (m.2.2.2.map fun x=>(x,false)).map wD)) (y:=.lst (r.map wD)) (b2_ok (f:=binD .add) (x:=.lst [wD (m.2.2.1,b)]) (y:=.lst ((m.2.2.2.map fun x=>(x,false)).map wD)) (lstP_ok (a:=bCons (bTup (bCons (b2 getD (bVar 15) (bC (.int 2))) (bCons (bVar 16) (bNil)))) (bNil)) (xs:=[wD (m.2.2.1,b)]) (cons_ok (tup_ok (xs:=[.str m.2.2.1,.bl b]) (cons_ok (b2_ok (x:=tkD m) (y:=.int 2) rfl rfl rfl) (cons_ok rfl rfl)) lim2) rfl) (one_lim (Nat.le_of_ble_eq_true rfl)) rfl) (parts_ok (n:=0) (ρ:=ww ns at_ M T K kind (ws ++ [m.1]) r (wD h) (.int dr) (.lst (F.map D.str)) (.lst ((m0 :: R).map mkD)) (.lst (A.map tkD)) x14 (tkD m) (.bl b)) (a:=b2 getD (bVar 15) (bC (.int 3))) (b:=false) rfl (b2_ok (x:=tkD m) (y:=.int 3) rfl rfl rfl) (by lia)) (add_lst _ _ (by simp only [List.length_map];exact one_lim (by show 1 + _<=1000;lia)) rfl (pures_map w_pure _))) (b:=bVar 8) rfl (add_lst _ _ (by simp only [List.length_map,List.length_append];exact one_lim (by show 1 + _ + _<=1000;lia)) (pures_map w_pure ((m.2.2.1,b) :: (m.2.2.2.map fun x=>(x,false)))) (pures_map w_pure _))) (by
  have:=pures_map w_pure (((m.2.2.1,b) :: (m.2.2.2.map fun x=>(x,false))) ++ r)
  rw [List.map_append] at this
  exact this)
 have z : ([wD (m.2.2.1,b)] ++ (m.2.2.2.map fun x=>(x,false)).map wD) ++ r.map wD = ((((m.2.2.1,b) :: (m.2.2.2.map fun x=>(x,false))) ++ r)).map wD:=by
  rw [List.map_append]
  rfl
 rw [e,z]
 rfl
end
end Lk61
end
section
set_option maxRecDepth 100000
namespace Lk61
open PySem L2 Mi
theorem sm_parts {ns : List Int} (xs : List Str) (b : Bool) (h : xs.length<=3) : sm ns (xs.map fun x=>(x,b))<=6:=by
 have:=(sm_len ns (xs.map fun x=>(x,b))).2
 rw [List.length_map] at this
 lia
theorem step_ok {ns : List Int} {many : Int} {at_ : Int} {M : List Mk} {T : List Tk} {K : List (Str × Str)} {kind : Str} {ws : List Str} {r : List Wt} {h : Wt} {x9 x10 x11 x12 x13 x14 x15 x16 : D} (hn : ns.length<=63) (hm : 0 < many) (hm3 : many<=3) (hM : MOk ns many many.toNat M) (hT : ∀ t ∈ T,TkPart ns many t) (hTl : T.length<=3) (hK : K.length<=100) (hw : ws.length<=600) (hr : r.length<=600) (hk : ∀ q ∈ h :: r,IsK ns many q.1) :
  ∃ (w : Str) (L : List Wt) (y9 y10 y11 y12 y13 y14 y15 y16 : D),(∀ q ∈ L,IsK ns many q.1)/\mu ns (ws.length + 1) L + 1<=mu ns ws.length (h :: r)/\wbody (ww ns at_ M T K kind ws (h :: r) x9 x10 x11 x12 x13 x14 x15 x16) = .ok (.nx (ww ns at_ M T K kind (ws ++ [w]) L y9 y10 y11 y12 y13 y14 y15 y16)):=by
 have mm : ((many.toNat : Nat) : Int) = many:=by lia
 have hk0:=hk h (List.mem_cons_self ..)
 have hkr : ∀ q ∈ r,IsK ns many q.1:=fun q hq=>hk q (List.mem_cons_of_mem _ hq)
 have h1 : sPopL 8 9 (bC (.int 0)) (ww ns at_ M T K kind ws (h :: r) x9 x10 x11 x12 x13 x14 x15 x16) = .ok (.nx (ww ns at_ M T K kind ws r (wD h) x10 x11 x12 x13 x14 x15 x16)):=rfl
 have a1:=add_ok at_ (ws.length : Nat)
 generalize hdr : drw ns (at_ + (ws.length : Nat)) = dr
 have hd : 0<=dr:=by rw [<- hdr];exact (draw_ok hn _).2.1
 have h2 : sSet false 10 (bCall (argN 2 v__law_draw) (bCons (bVar 0) (bCons (b2 (binD .add) (bVar 1) (bCall lenD (bCons (bVar 7) (bNil)))) (bNil)))) true (ww ns at_ M T K kind ws r (wD h) x10 x11 x12 x13 x14 x15 x16) = .ok (.nx (ww ns at_ M T K kind ws r (wD h) (.int dr) x11 x12 x13 x14 x15 x16)):=by
  refine set_ok (i:=10) ?_
  rw [<- hdr]
  exact draw_w hn rfl (b2_ok (x:=.int at_) (y:=.int (ws.length : Nat)) rfl (call_ok (xs:=[.lst (ws.map D.str)]) (cons_ok rfl rfl) (by rw [len_ok,List.length_map])) a1)
 obtain ⟨F,hF,eF⟩:=fit_ok (K:=K) (h:=h) (by lia) (x0:=.scr (ns.map D.int)) (x1:=.int at_) (x2:=bkD M T) (x4:=.str kind) (x5:=.int 5) (x6:=.int 0) (x7:=.lst (ws.map D.str)) (x8:=.lst (r.map wD)) (x10:=.int dr) (x11:=x11) (x12:=x12) (x13:=x13) (x14:=x14) (x15:=x15) (x16:=x16)
 have h3 : sSet false 11 wfit true (ww ns at_ M T K kind ws r (wD h) (.int dr) x11 x12 x13 x14 x15 x16) = .ok (.nx (ww ns at_ M T K kind ws r (wD h) (.int dr) (.lst (F.map D.str)) x12 x13 x14 x15 x16)):=set_ok (i:=11) eF
 obtain ⟨m0,R,hf,hq⟩:=hM.find h.1 (by rw [mm];exact hk0)
 have ml:=hM.len
 have h4 : sSet false 12 (wown 0) true (ww ns at_ M T K kind ws r (wD h) (.int dr) (.lst (F.map D.str)) x12 x13 x14 x15 x16) = .ok (.nx (ww ns at_ M T K kind ws r (wD h) (.int dr) (.lst (F.map D.str)) (.lst ((m0 :: R).map mkD)) x13 x14 x15 x16)):=by
  rw [<- hf]
  exact set_ok (i:=12) (own_ok (by lia))
 generalize hA : (T.filter fun m=>m.2.1 == h.1) = A
 have h5 : sSet false 13 (wown 1) true (ww ns at_ M T K kind ws r (wD h) (.int dr) (.lst (F.map D.str)) (.lst ((m0 :: R).map mkD)) x13 x14 x15 x16) = .ok (.nx (ww ns at_ M T K kind ws r (wD h) (.int dr) (.lst (F.map D.str)) (.lst ((m0 :: R).map mkD)) (.lst (A.map tkD)) x14 x15 x16)):=by
  rw [<- hA]
  exact set_ok (i:=13) (able_ok (by lia))
 have inM : ∀ m ∈ m0 :: R,m ∈ M:=fun m hq=>by
  rw [<- hf] at hq
  exact (List.mem_filter.mp hq).1
 have inT : ∀ m ∈ A,m ∈ T:=fun m hq=>by
  rw [<- hA] at hq
  exact (List.mem_filter.mp hq).1
 have hlen : (m0 :: R).length<=100:=by
  have:=List.length_filter_le (fun m : Mk=>m.2.1 == h.1) M
  rw [hf] at this
  lia
 have c1 : c1s (ww ns at_ M T K kind ws r (wD h) (.int dr) (.lst (F.map D.str)) (.lst ((m0 :: R).map mkD)) (.lst (A.map tkD)) x14 x15 x16) = .ok false:=and_f (tb_ok (b2_ok (x:=.int (ws.length : Nat)) (y:=.int 0) (call_ok (xs:=[.lst (ws.map D.str)]) (cons_ok rfl rfl) (by rw [len_ok,List.length_map])) rfl ((lt_i _ _).trans (by rw [decide_eq_false (by lia)]))))
 have m4:=mod_ok dr 4 (by decide)
 have a2:=add_ok (ws.length : Nat) (r.length : Nat)
 have c2 : c2s (ww ns at_ M T K kind ws r (wD h) (.int dr) (.lst (F.map D.str)) (.lst ((m0 :: R).map mkD)) (.lst (A.map tkD)) x14 x15 x16) = .ok (h.2 || (decide ((5 : Int)<=(ws.length : Nat) + (r.length : Nat)) || (dr % 4 == 0))):=or_ok (tr_ok (b2_ok (x:=wD h) (y:=.int 1) rfl rfl rfl)) (or_ok (tb_ok (b2_ok (x:=.int ((ws.length : Nat) + (r.length : Nat))) (y:=.int 5) (b2_ok (x:=.int (ws.length : Nat)) (y:=.int (r.length : Nat)) (call_ok (xs:=[.lst (ws.map D.str)]) (cons_ok rfl rfl) (by rw [len_ok,List.length_map])) (call_ok (xs:=[.lst (r.map wD)]) (cons_ok rfl rfl) (by rw [len_ok,List.length_map])) a2) rfl (ge_i _ _))) (tb_ok (b2_ok (x:=.int (dr % 4)) (y:=.int 0) (b2_ok (x:=.int dr) rfl rfl m4) rfl (eq_int _ _))))
 have c3 : c3s (ww ns at_ M T K kind ws r (wD h) (.int dr) (.lst (F.map D.str)) (.lst ((m0 :: R).map mkD)) (.lst (A.map tkD)) x14 x15 x16) = .ok (decide (dr % 4 < 3) || (((A.length : Nat) : Int) == 0)):=or_ok (tb_ok (b2_ok (x:=.int (dr % 4)) (y:=.int 3) (b2_ok (x:=.int dr) rfl rfl m4) rfl (lt_i _ _))) (tb_ok (b2_ok (x:=.int (A.length : Nat)) (y:=.int 0) (call_ok (xs:=[.lst (A.map tkD)]) (cons_ok rfl rfl) (by rw [len_ok,List.length_map])) rfl (eq_int _ _)))
 have fin : ∀ {res},sIf c1s b1s (sIf c2s b2s (sIf c3s b3s b4s)) (ww ns at_ M T K kind ws r (wD h) (.int dr) (.lst (F.map D.str)) (.lst ((m0 :: R).map mkD)) (.lst (A.map tkD)) x14 x15 x16) = res->wbody (ww ns at_ M T K kind ws (h :: r) x9 x10 x11 x12 x13 x14 x15 x16) = res:=fun e=>seq_ok h1 (seq_ok h2 (seq_ok h3 (seq_ok h4 (seq_ok h5 e))))
 have wh:=wt_le ns h
 by_cases z : (h.2 || (decide ((5 : Int)<=(ws.length : Nat) + (r.length : Nat)) || (dr % 4 == 0))) = true
 ·rw [z] at c2
  obtain ⟨w,L,hL,e⟩:=b2_step (ns:=ns) (at_:=at_) (M:=M) (T:=T) (K:=K) (kind:=kind) (h:=h) (R:=R) (A:=A) (x14:=x14) (x15:=x15) (x16:=x16) hw hr hd (F:=F) (by lia) (m0:=m0) (by rcases hq with q | ⟨q,_⟩ <;> rw [q] <;> exact Nat.le_of_ble_eq_true rfl)
  refine ⟨w,L,_,_,_,_,_,_,_,_,fun q hql=>?_,?_,fin (if_f c1 (if_t c2 e))⟩
  ·rcases hL with rfl | rfl
   ·exact hkr q hql
   ·rcases List.mem_append.mp hql with hql | hql
    ·obtain ⟨x,hx,rfl⟩:=List.mem_map.mp hql
     exact (hM.part m0 (inM m0 (List.mem_cons_self ..))).2.2 x hx
    ·exact hkr q hql
  ·unfold mu
   rw [sm]
   rcases hL with rfl | rfl
   ·lia
   ·rw [sm_app]
    rcases hq with q | ⟨q,q2⟩
    ·rw [q]
     show _ + (0 + _) + 1<=_
     lia
    ·rw [q]
     have e1 : sm ns ([wrd ns 0].map fun x=>(x,true)) = 1:=by
      show (if wrd ns 0 = wrd ns 0 then 1 else 2) + 0 = 1
      rw [if_pos rfl]
     have e2 : wt ns h = 2:=by
      unfold wt
      rw [if_neg q2]
     rw [e1,e2]
     lia
 ·rw [Bool.not_eq_true] at z
  rw [z] at c2
  have lt : ws.length + r.length < 5:=by
   simp only [Bool.or_eq_false_iff,decide_eq_false_iff_not] at z
   lia
  by_cases y : (decide (dr % 4 < 3) || (((A.length : Nat) : Int) == 0)) = true
  ·rw [y] at c3
   obtain ⟨m,y14,hmm,e⟩:=b3_step (ns:=ns) (at_:=at_) (M:=M) (T:=T) (K:=K) (kind:=kind) (h:=h) (F:=F) (A:=A) (x14:=x14) (x15:=x15) (x16:=x16) hw hr hd (m0:=m0) (R:=R) hlen (fun m hq=>(hM.part m (inM m hq)).2.1)
   have mp:=hM.part m (inM m hmm)
   refine ⟨m.1,_,_,_,_,_,_,_,_,_,fun q hql=>?_,?_,fin (if_f c1 (if_f c2 (if_t c3 e)))⟩
   ·rcases List.mem_append.mp hql with hql | hql
    ·obtain ⟨x,hx,rfl⟩:=List.mem_map.mp hql
     exact mp.2.2 x hx
    ·exact hkr q hql
   ·unfold mu
    have:=sm_parts (ns:=ns) m.2.2 false mp.2.1
    rw [sm,sm_app]
    lia
  ·rw [Bool.not_eq_true] at y
   rw [y] at c3
   have hA0 : 0 < A.length:=by
    simp only [Bool.or_eq_false_iff,beq_eq_false_iff_ne] at y
    lia
   obtain ⟨m,b,y15,y16,hmm,e⟩:=b4_step (ns:=ns) (at_:=at_) (M:=M) (T:=T) (K:=K) (kind:=kind) (h:=h) (F:=F) (m0:=m0) (R:=R) (x14:=x14) (x15:=x15) (x16:=x16) hw hr hd (A:=A) hA0 (fun m hq=>(hT m (inT m hq)).2.2.2.1)
   have mp:=hT m (inT m hmm)
   refine ⟨m.1,_,_,_,_,_,_,_,_,_,fun q hql=>?_,?_,fin (if_f c1 (if_f c2 (if_f c3 e)))⟩
   ·rcases List.mem_append.mp hql with hql | hql
    ·rcases List.mem_cons.mp hql with rfl | hql
     ·exact mp.2.2.1
     ·obtain ⟨x,hx,rfl⟩:=List.mem_map.mp hql
      exact mp.2.2.2.2 x hx
    ·exact hkr q hql
   ·unfold mu
    have:=sm_parts (ns:=ns) m.2.2.2 false mp.2.2.2.1
    have:=wt_le ns (m.2.2.1,b)
    rw [sm,sm_app,sm]
    lia
theorem loop_ok {ns : List Int} {many : Int} {at_ : Int} {M : List Mk} {T : List Tk} {K : List (Str × Str)} {kind : Str} (hn : ns.length<=63) (hm : 0 < many) (hm3 : many<=3) (hM : MOk ns many many.toNat M) (hT : ∀ t ∈ T,TkPart ns many t) (hTl : T.length<=3) (hK : K.length<=100) :
  ∀ (n : Nat) (ws : List Str) (L : List Wt) (x9 x10 x11 x12 x13 x14 x15 x16 : D),(∀ q ∈ L,IsK ns many q.1)->mu ns ws.length L < n->ws.length + mu ns ws.length L<=600->
  ∃ (vs : List Str) (y9 y10 y11 y12 y13 y14 y15 y16 : D),whlS (bTB (b2 (cmpD (.ord .gt)) (bCall lenD (bCons (bVar 8) (bNil))) (bC (.int 0)))) wbody n (ww ns at_ M T K kind ws L x9 x10 x11 x12 x13 x14 x15 x16) = .ok (.nx (ww ns at_ M T K kind vs [] y9 y10 y11 y12 y13 y14 y15 y16)):=by
 intro n
 induction n with
 | zero=>intro ws L x9 x10 x11 x12 x13 x14 x15 x16 _ h;lia
 | succ n ih=>
  intro ws L x9 x10 x11 x12 x13 x14 x15 x16 hL h1 h2
  have c : bTB (b2 (cmpD (.ord .gt)) (bCall lenD (bCons (bVar 8) (bNil))) (bC (.int 0))) (ww ns at_ M T K kind ws L x9 x10 x11 x12 x13 x14 x15 x16) = .ok (decide ((0 : Int) < (L.length : Nat))):=tb_ok (b2_ok (x:=.int (L.length : Nat)) (y:=.int 0) (call_ok (xs:=[.lst (L.map wD)]) (cons_ok rfl rfl) (by rw [len_ok,List.length_map])) rfl (gt_i _ _))
  cases L with
  | nil=>
   refine ⟨ws,x9,x10,x11,x12,x13,x14,x15,x16,?_⟩
   rw [whlS,c]
   rfl
  | cons h r=>
   have hl:=(sm_len ns (h :: r)).1
   rw [List.length_cons] at hl
   have hmu : sm ns (h :: r)<=mu ns ws.length (h :: r):=by unfold mu;lia
   obtain ⟨w,L,y9,y10,y11,y12,y13,y14,y15,y16,i1,i2,i3⟩:=step_ok (at_:=at_) (kind:=kind) (x9:=x9) (x10:=x10) (x11:=x11) (x12:=x12) (x13:=x13) (x14:=x14) (x15:=x15) (x16:=x16) hn hm hm3 hM hT hTl hK (ws:=ws) (r:=r) (h:=h) (by lia) (by lia) hL
   have wl : (ws ++ [w]).length = ws.length + 1:=by rw [List.length_append];rfl
   obtain ⟨vs,z9,z10,z11,z12,z13,z14,z15,z16,j⟩:=ih (ws ++ [w]) L y9 y10 y11 y12 y13 y14 y15 y16 i1 (by rw [wl];lia) (by rw [wl];lia)
   refine ⟨vs,z9,z10,z11,z12,z13,z14,z15,z16,?_⟩
   have : decide ((0 : Int) < ((h :: r).length : Nat)) = true:=decide_eq_true (by rw [List.length_cons];lia)
   rw [whlS,c,this,Res.ok_bind,if_pos rfl,i3]
   exact j
theorem words_ok {ns : List Int} {many : Int} {at_ : Int} {M : List Mk} {T : List Tk} {K : List (Str × Str)} {kind : Str} (hn : ns.length<=63) (hm : 0 < many) (hm3 : many<=3) (hM : MOk ns many many.toNat M) (hT : ∀ t ∈ T,TkPart ns many t) (hTl : T.length<=3) (hK : K.length<=100) (hk : IsK ns many kind) :
  ∃ vs : List Str,argN 7 v__law_words [.scr (ns.map D.int),.int at_,bkD M T,.dct (knD K),.str kind,.int 5,.int 0] = .ok (.tup (vs.map D.str)):=by
 have m1 : mu ns ([] : List Str).length [(kind,false)]<=502:=by
  have:=(sm_len ns [(kind,false)]).2
  unfold mu
  show (5 - 0) * 100 + _<=502
  have e : [(kind,false)].length = 1:=rfl
  lia
 obtain ⟨vs,z9,z10,z11,z12,z13,z14,z15,z16,j⟩:=loop_ok (at_:=at_) (kind:=kind) hn hm hm3 hM hT hTl hK 1000 [] [(kind,false)] .undef .undef .undef .undef .undef .undef .undef .undef (fun q hq=>by rw [List.mem_singleton.mp hq];exact hk) (by lia) (by show 0 + _<=600;lia)
 refine ⟨vs,(argN_ok rfl).trans (call_v ?_)⟩
 rw [words_def]
 refine seq_ok (ρ':=[.scr (ns.map D.int),.int at_,bkD M T,.dct (knD K),.str kind,.int 5,.int 0,.lst [],.undef,.undef,.undef,.undef,.undef,.undef,.undef,.undef,.undef]) (setV_ok (i:=7) (lst_ok (xs:=[]) rfl (Nat.zero_le _)) rfl) ?_
 refine seq_ok (ρ':=ww ns at_ M T K kind [] [(kind,false)] .undef .undef .undef .undef .undef .undef .undef .undef) (setV_ok (i:=8) (lstP_ok (xs:=[wD (kind,false)]) (cons_ok (tup_ok (xs:=[.str kind,.bl false]) (cons_ok rfl (cons_ok rfl rfl)) lim2) rfl) (one_lim (Nat.le_of_ble_eq_true rfl)) rfl) rfl) ?_
 refine seq_ok j ?_
 exact ret_ok (d:=.tup (vs.map D.str)) (call_ok (xs:=[.lst (vs.map D.str)]) (cons_ok rfl rfl) rfl) (by rw [D.pure,pures_strs];rfl)
end Lk61
end
section
set_option maxRecDepth 100000
namespace Lk61
open PySem L2 Mi
noncomputable abbrev Rl:=Str × Str × List Str × List Str
noncomputable def rlD (r : Rl) : D:=.tup [.str r.1,.str r.2.1,.tup (r.2.2.1.map D.str),.tup (r.2.2.2.map D.str)]
theorem rl_pure (r : Rl) : (rlD r).pure = true:=by
 show (true && (true && ((D.tup (r.2.2.1.map D.str)).pure && ((D.tup (r.2.2.2.map D.str)).pure && true)))) = true
 rw [D.pure,D.pure,pures_strs,pures_strs]
 rfl
theorem kn_put : ∀ (K : List (Str × Str)) (x y : Str),∃ K' : List (Str × Str),K'.length<=K.length + 1/\putD (knD K) (.str x) (.str y) = knD K'
 | [],x,y=>⟨[(x,y)],Nat.le_refl _,rfl⟩
 | p :: K,x,y=>by
  show ∃ K' : List (Str × Str),K'.length<=(p :: K).length + 1/\(if (p.1 == x) then (D.str p.1,D.str y) :: knD K else (D.str p.1,D.str p.2) :: putD (knD K) (.str x) (.str y)) = knD K'
  by_cases z : (p.1 == x) = true
  ·rw [if_pos z]
   exact ⟨(p.1,y) :: K,by simp,rfl⟩
  ·rw [if_neg z]
   obtain ⟨K',h1,h2⟩:=kn_put K x y
   rw [h2]
   refine ⟨p :: K',?_,rfl⟩
   rw [List.length_cons,List.length_cons]
   lia
theorem kn_zip : ∀ (a b : List Str) (K : List (Str × Str)),∃ K' : List (Str × Str),K'.length<=K.length + a.length/\zipPut (a.map D.str) (b.map D.str) (knD K) = knD K'
 | [],b,K=>⟨K,Nat.le_refl _,by cases b <;> rfl⟩
 | x :: a,[],K=>⟨K,Nat.le_add_right ..,rfl⟩
 | x :: a,y :: b,K=>by
  obtain ⟨K1,h1,h2⟩:=kn_put K x y
  obtain ⟨K2,i1,i2⟩:=kn_zip a b K1
  refine ⟨K2,by rw [List.length_cons];lia,?_⟩
  show zipPut (a.map D.str) (b.map D.str) (putD (knD K) (.str x) (.str y)) = _
  rw [h2,i2]
theorem flat_strs (a : List Str) : (a.map D.str).all flatKey = true:=by
 rw [List.all_eq_true]
 intro d hd
 obtain ⟨x,_,rfl⟩:=List.mem_map.mp hd
 rfl
noncomputable def inr : FS:=(sSeq (sSet false 5 (b2 addT (b2 getD (bVar 4) (bC (.int 2))) (b2 getD (bVar 3) (bC (.int 3)))) false) (sSeq (sSet false 6 (bCall (argN 2 v__law_draw) (bCons (bVar 0) (bCons (b2 (binD .add) (bC (.int 26)) (bCall lenD (bCons (bVar 2) (bNil)))) (bNil)))) true) (sSeq (sSet false 7 (bComp 11 (bThen (bCons (bCall lenD (bCons (bVar 5) (bNil))) (bNil)) rng1D) oneT (bTrue) (bCall (argN 2 v__law_word) (bCons (bVar 0) (bCons (b2 (binD .add) (bC (.int 12)) (b2 (binD .mod) (b2 (binD .add) (bVar 6) (bVar 11)) (bC (.int 5)))) (bNil)))) true) true) (sSeq (sSet false 7 (bCall tupleD (bCons (b2 getD (bLst (bCons (bVar 7) (bCons (b1 revD (bVar 7)) (bNil)))) (b2 (binD .mod) (b2 (binD .fdiv) (bVar 6) (bC (.int 5))) (bC (.int 2)))) (bNil))) false) (sSeq (sSet false 8 (bCall zipDct (bCons (bVar 7) (bCons (bVar 5) (bNil)))) true) (sSeq (sSet false 9 (bCall (fun ds=>argN 7 v__law_words (ds ++ [.int 0])) (bCons (bVar 0) (bCons (b2 (binD .add) (bC (.int 100)) (b2 mulX (bC (.int 20)) (bCall lenD (bCons (bVar 2) (bNil))))) (bCons (bVar 1) (bCons (bVar 8) (bCons (b2 getD (bVar 3) (bC (.int 1))) (bCons (bC (.int 5)) (bNil)))))))) true) (sApp 2 (bTup (bCons (b2 getD (bVar 3) (bC (.int 0))) (bCons (b2 getD (bVar 4) (bC (.int 0))) (bCons (bVar 7) (bCons (bVar 9) (bNil)))))))))))))
noncomputable def irs : FS:=(sIf (bTB (b2 (cmpD .eq) (b2 getD (bVar 4) (bC (.int 1))) (b2 getD (bVar 3) (bC (.int 2))))) inr (sNil))
theorem rules_def : b__law_rules = sSeq (sSet true 2 (bLst (bNil)) true) (sSeq (sFor (bItemsX (b2 getD (bVar 1) (bC (.int 1))) false) (tg1 3) (sFor (bItemsX (b2 getD (bVar 1) (bC (.int 0))) false) (tg1 4) irs)) (sSeq (sSet false 10 (b2 (binD .mod) (bCall (argN 2 v__law_draw) (bCons (bVar 0) (bCons (bC (.int 35)) (bNil)))) (bCall (minmax .gt) (bCons (bC (.int 1)) (bCons (bCall lenD (bCons (bVar 2) (bNil))) (bNil))))) true) (sRet (bCall tupleD (bCons (b2 (binD .add) (bSlX (bVar 2) (bSome (bVar 10)) (bNone)) (bSlX (bVar 2) (bNone) (bSome (bVar 10)))) (bNil))) false))):=rfl
noncomputable def rr (ns : List Int) (M : List Mk) (T : List Tk) (R : List Rl) (x3 x4 x5 x6 x7 x8 x9 x10 : D) : List D:=[.scr (ns.map D.int),bkD M T,.lst (R.map rlD),x3,x4,x5,x6,x7,x8,x9,x10]
theorem cfold_one {α : Type} (g : List D->D->Res (List D)) (d : α->D) : ∀ (xs acc : List D),(∀ x ∈ xs,∀ acc,∃ y : α,g acc x = .ok (acc ++ [d y]))->∃ zs : List α,zs.length = xs.length/\cfold g acc xs = .ok (acc ++ zs.map d)
 | [],acc,_=>⟨[],rfl,(by simp [cfold])⟩
 | x :: xs,acc,h=>by
  obtain ⟨y,h3⟩:=h x (List.mem_cons_self ..) acc
  obtain ⟨zs,i2,i3⟩:=cfold_one g d xs (acc ++ [d y]) fun y hy=>h y (List.mem_cons_of_mem _ hy)
  refine ⟨y :: zs,by rw [List.length_cons,List.length_cons,i2],?_⟩
  rw [cfold,h3]
  show cfold g _ _ = _
  rw [i3,List.map_cons,List.append_assoc]
  rfl
theorem names_ok {n : Nat} {ρ : List D} {f : FE} {ns : List Int} (hn : ns.length<=63) (hρ : ρ.length = n) (h0 : ∀ x : D,bVar 0 (ρ ++ [x]) = .ok (.scr (ns.map D.int))) {g : FA} {sz : Nat} (hg : g ρ = .ok [.int sz]) (hs1 : sz<=100)
  (hf : ∀ p : Int,∃ j : Int,0<=j/\j<=33/\f (ρ ++ [.int p]) = .ok (.int j)) :
  ∃ xs : List Str,xs.length = sz/\bComp n (bThen g rng1D) oneT bTrue (bCall (argN 2 v__law_word) (bCons (bVar 0) (bCons f (bNil)))) true ρ = .ok (.lst (xs.map D.str)):=by
 obtain ⟨xs,h2,h3⟩:=cfold_one (cstep n oneT bTrue (bCall (argN 2 v__law_word) (bCons (bVar 0) (bCons f (bNil)))) true ρ) D.str ((List.range sz).map fun (k : Nat)=>D.int (0 + (k : Int))) [] (fun x hx acc=>by
  obtain ⟨k,hk,rfl⟩:=List.mem_map.mp hx
  obtain ⟨j,j0,j1,e⟩:=hf (0 + (k : Int))
  have w:=(word_ok hn j0 j1).1
  refine ⟨wrd ns j,?_⟩
  exact cstep_gen (b:=true) (bs:=[.int (0 + (k : Int))]) (y:=.str (wrd ns j)) hρ rfl rfl fun _=>⟨call_ok (cons_ok (h0 _) (cons_ok e rfl)) w,rfl⟩)
 rw [List.nil_append] at h3
 rw [List.length_map,List.length_range] at h2
 have rg:=rng_ok hg (by lia) (by lia)
 rw [Int.toNat_natCast] at rg
 exact ⟨xs,h2,comp_ok rg (by rw [List.length_map,List.length_range,lim_eq];lia) h3⟩
theorem rev_ok (a : List Str) : revD (.lst (a.map D.str)) = .ok (.lst (a.reverse.map D.str)):=by
 rw [revD,if_pos (pures_strs a),List.map_reverse]
theorem irs_ok {ns : List Int} {many : Int} {M : List Mk} {T : List Tk} {R : List Rl} {t : Tk} {m : Mk} {x5 x6 x7 x8 x9 x10 : D} (hn : ns.length<=63) (hm : 0 < many) (hm3 : many<=3) (hM : MOk ns many many.toNat M) (hT : ∀ t ∈ T,TkPart ns many t) (hTl : T.length<=3) (ht : t ∈ T) (hmm : m ∈ M) (hR : R.length<=200) :
  ∃ (R' : List Rl) (y5 y6 y7 y8 y9 : D),R'.length<=R.length + 1/\irs (rr ns M T R (tkD t) (mkD m) x5 x6 x7 x8 x9 x10) = .ok (.nx (rr ns M T R' (tkD t) (mkD m) y5 y6 y7 y8 y9 x10)):=by
 have tp:=hT t ht
 have mp:=hM.part m hmm
 have c : bTB (b2 (cmpD .eq) (b2 getD (bVar 4) (bC (.int 1))) (b2 getD (bVar 3) (bC (.int 2)))) (rr ns M T R (tkD t) (mkD m) x5 x6 x7 x8 x9 x10) = .ok (m.2.1 == t.2.2.1):=tb_ok (b2_ok (x:=.str m.2.1) (y:=.str t.2.2.1) (b2_ok (x:=mkD m) (y:=.int 1) rfl rfl rfl) (b2_ok (x:=tkD t) (y:=.int 2) rfl rfl rfl) (eq_str _ _))
 by_cases z : (m.2.1 == t.2.2.1) = true
 ·rw [z] at c
  have at1:=addT_ok (m.2.2.map D.str) (t.2.2.2.map D.str) (by rw [List.length_map,List.length_map];have:=mp.2.1;have:=tp.2.2.2.1;lia)
  rw [<- List.map_append] at at1
  generalize hks : m.2.2 ++ t.2.2.2 = ks at at1
  have kl : ks.length<=6:=by rw [<- hks,List.length_append];have:=mp.2.1;have:=tp.2.2.2.1;lia
  have a26:=add_ok 26 (R.length : Nat)
  generalize hdr : drw ns (26 + (R.length : Nat)) = dr
  have s1 : sSet false 5 (b2 addT (b2 getD (bVar 4) (bC (.int 2))) (b2 getD (bVar 3) (bC (.int 3)))) false (rr ns M T R (tkD t) (mkD m) x5 x6 x7 x8 x9 x10) = .ok (.nx (rr ns M T R (tkD t) (mkD m) (.tup (ks.map D.str)) x6 x7 x8 x9 x10)):=setP_ok (i:=5) (b2_ok (x:=.tup (m.2.2.map D.str)) (y:=.tup (t.2.2.2.map D.str)) (b2_ok (x:=mkD m) (y:=.int 2) rfl rfl rfl) (b2_ok (x:=tkD t) (y:=.int 3) rfl rfl rfl) at1) (by rw [D.pure,pures_strs])
  have s2 : sSet false 6 (bCall (argN 2 v__law_draw) (bCons (bVar 0) (bCons (b2 (binD .add) (bC (.int 26)) (bCall lenD (bCons (bVar 2) (bNil)))) (bNil)))) true (rr ns M T R (tkD t) (mkD m) (.tup (ks.map D.str)) x6 x7 x8 x9 x10) = .ok (.nx (rr ns M T R (tkD t) (mkD m) (.tup (ks.map D.str)) (.int dr) x7 x8 x9 x10)):=by
   refine set_ok (i:=6) ?_
   rw [<- hdr]
   exact draw_w hn rfl (b2_ok (x:=.int 26) (y:=.int (R.length : Nat)) rfl (call_ok (xs:=[.lst (R.map rlD)]) (cons_ok rfl rfl) (by rw [len_ok,List.length_map])) a26)
  obtain ⟨nm,nl,en⟩:=names_ok (n:=11) (ρ:=rr ns M T R (tkD t) (mkD m) (.tup (ks.map D.str)) (.int dr) x7 x8 x9 x10) (f:=b2 (binD .add) (bC (.int 12)) (b2 (binD .mod) (b2 (binD .add) (bVar 6) (bVar 11)) (bC (.int 5)))) (sz:=ks.length) (g:=bCons (bCall lenD (bCons (bVar 5) (bNil))) bNil) hn rfl (fun _=>rfl) (cons_ok (call_ok (xs:=[.tup (ks.map D.str)]) (cons_ok rfl rfl) (show lenD [.tup (ks.map D.str)] = .ok (.int (ks.length : Nat)) by rw [show lenD [.tup (ks.map D.str)] = .ok (.int ((ks.map D.str).length : Nat)) from rfl,List.length_map])) rfl) (by lia) (fun p=>by
   have e1:=add_ok dr p
   have e2:=mod_ok (dr + p) 5 (by decide)
   have e3:=add_ok 12 ((dr + p) % 5)
   exact ⟨12 + (dr + p) % 5,by lia,by lia,b2_ok (x:=.int 12) (y:=.int ((dr + p) % 5)) rfl (b2_ok (x:=.int (dr + p)) (y:=.int 5) (b2_ok (x:=.int dr) (y:=.int p) rfl rfl e1) rfl e2) e3⟩)
  have s3:=set_ok (i:=7) en
  have f5:=fdiv_ok dr 5 (by decide) (by decide)
  have m2:=mod_ok (dr / 5) 2 (by decide)
  have gt:=get_two (.lst (nm.map D.str)) (.lst (nm.reverse.map D.str)) (dr / 5 % 2) (by lia) (by lia)
  obtain ⟨nn,nnl,gt'⟩ : ∃ nn : List Str,nn.length = nm.length/\getD (.lst [.lst (nm.map D.str),.lst (nm.reverse.map D.str)]) (.int (dr / 5 % 2)) = .ok (.lst (nn.map D.str)):=by
   by_cases y : dr / 5 % 2 = 0
   ·rw [if_pos y] at gt
    exact ⟨nm,rfl,gt⟩
   ·rw [if_neg y] at gt
    exact ⟨nm.reverse,List.length_reverse,gt⟩
  have s4 : sSet false 7 (bCall tupleD (bCons (b2 getD (bLst (bCons (bVar 7) (bCons (b1 revD (bVar 7)) (bNil)))) (b2 (binD .mod) (b2 (binD .fdiv) (bVar 6) (bC (.int 5))) (bC (.int 2)))) (bNil))) false (rr ns M T R (tkD t) (mkD m) (.tup (ks.map D.str)) (.int dr) (.lst (nm.map D.str)) x8 x9 x10) = .ok (.nx (rr ns M T R (tkD t) (mkD m) (.tup (ks.map D.str)) (.int dr) (.tup (nn.map D.str)) x8 x9 x10)):=by
   have rv : b1 revD (bVar 7) (rr ns M T R (tkD t) (mkD m) (.tup (ks.map D.str)) (.int dr) (.lst (nm.map D.str)) x8 x9 x10) = .ok (.lst (nm.reverse.map D.str)):=rev_ok nm
   exact setP_ok (i:=7) (d:=.tup (nn.map D.str)) (call_ok (xs:=[.lst (nn.map D.str)]) (cons_ok (b2_ok (lst_ok (xs:=[.lst (nm.map D.str),.lst (nm.reverse.map D.str)]) (cons_ok rfl (cons_ok rv rfl)) lim2) (b2_ok (x:=.int (dr / 5)) (b2_ok (x:=.int dr) rfl rfl f5) rfl m2) gt') rfl) rfl) (by rw [D.pure,pures_strs])
  obtain ⟨K,kk,ek⟩:=kn_zip nn ks []
  rw [List.length_nil] at kk
  have zp : zipDct [.tup (nn.map D.str),.tup (ks.map D.str)] = .ok (.dct (knD K)):=by
   rw [zipDct,if_pos (by rw [flat_strs,pures_strs,List.length_map,List.length_map,decide_eq_true (show nn.length<=1000 by lia),decide_eq_true (show ks.length = nn.length by lia)];rfl)]
   exact congrArg (fun x=>Res.ok (D.dct x)) ek
  have s5 : sSet false 8 (bCall zipDct (bCons (bVar 7) (bCons (bVar 5) (bNil)))) true (rr ns M T R (tkD t) (mkD m) (.tup (ks.map D.str)) (.int dr) (.tup (nn.map D.str)) x8 x9 x10) = .ok (.nx (rr ns M T R (tkD t) (mkD m) (.tup (ks.map D.str)) (.int dr) (.tup (nn.map D.str)) (.dct (knD K)) x9 x10)):=set_ok (i:=8) (call_ok (xs:=[.tup (nn.map D.str),.tup (ks.map D.str)]) (cons_ok rfl (cons_ok rfl rfl)) zp)
  have m20:=mul_okL 20 (R.length : Nat) (by decide)
  have a100:=add_ok 100 (20 * (R.length : Nat))
  obtain ⟨vs,ew⟩:=words_ok (at_:=100 + 20 * (R.length : Nat)) (K:=K) (kind:=t.2.1) hn hm hm3 hM hT hTl (by lia) tp.2.1
  have s6 : sSet false 9 (bCall (fun ds=>argN 7 v__law_words (ds ++ [.int 0])) (bCons (bVar 0) (bCons (b2 (binD .add) (bC (.int 100)) (b2 mulX (bC (.int 20)) (bCall lenD (bCons (bVar 2) (bNil))))) (bCons (bVar 1) (bCons (bVar 8) (bCons (b2 getD (bVar 3) (bC (.int 1))) (bCons (bC (.int 5)) (bNil)))))))) true (rr ns M T R (tkD t) (mkD m) (.tup (ks.map D.str)) (.int dr) (.tup (nn.map D.str)) (.dct (knD K)) x9 x10) = .ok (.nx (rr ns M T R (tkD t) (mkD m) (.tup (ks.map D.str)) (.int dr) (.tup (nn.map D.str)) (.dct (knD K)) (.tup (vs.map D.str)) x10)):=set_ok (i:=9) (call_ok (xs:=[.scr (ns.map D.int),.int (100 + 20 * (R.length : Nat)),bkD M T,.dct (knD K),.str t.2.1,.int 5]) (cons_ok rfl (cons_ok (b2_ok (x:=.int 100) (y:=.int (20 * (R.length : Nat))) rfl (b2_ok (x:=.int 20) (y:=.int (R.length : Nat)) rfl (call_ok (xs:=[.lst (R.map rlD)]) (cons_ok rfl rfl) (by rw [len_ok,List.length_map])) m20) a100) (cons_ok rfl (cons_ok rfl (cons_ok (b2_ok (x:=tkD t) (y:=.int 1) rfl rfl rfl) (cons_ok rfl rfl)))))) ew)
  have ap:=app_ok (i:=2) (ρ:=rr ns M T R (tkD t) (mkD m) (.tup (ks.map D.str)) (.int dr) (.tup (nn.map D.str)) (.dct (knD K)) (.tup (vs.map D.str)) x10) (f:=bTup (bCons (b2 getD (bVar 3) (bC (.int 0))) (bCons (b2 getD (bVar 4) (bC (.int 0))) (bCons (bVar 7) (bCons (bVar 9) (bNil)))))) (xs:=R.map rlD) (d:=rlD (t.1,m.1,nn,vs)) (tup_ok (xs:=[.str t.1,.str m.1,.tup (nn.map D.str),.tup (vs.map D.str)]) (cons_ok (b2_ok (x:=tkD t) (y:=.int 0) rfl rfl rfl) (cons_ok (b2_ok (x:=mkD m) (y:=.int 0) rfl rfl rfl) (cons_ok rfl (cons_ok rfl rfl)))) (one_lim (Nat.le_of_ble_eq_true rfl))) rfl (by rw [List.length_map,lim_eq];lia) (rl_pure _)
  refine ⟨R ++ [(t.1,m.1,nn,vs)],.tup (ks.map D.str),.int dr,.tup (nn.map D.str),.dct (knD K),.tup (vs.map D.str),by rw [List.length_append];exact Nat.le_refl _,if_t c (seq_ok s1 (seq_ok s2 (seq_ok s3 (seq_ok s4 (seq_ok s5 (seq_ok s6 ?_))))))⟩
  unfold rr
  rw [List.map_append]
  exact ap
 ·rw [Bool.not_eq_true] at z
  rw [z] at c
  exact ⟨R,x5,x6,x7,x8,x9,Nat.le_succ _,if_f c rfl⟩
theorem irs_loop {ns : List Int} {many : Int} {M : List Mk} {T : List Tk} {t : Tk} (hn : ns.length<=63) (hm : 0 < many) (hm3 : many<=3) (hM : MOk ns many many.toNat M) (hT : ∀ t ∈ T,TkPart ns many t) (hTl : T.length<=3) (ht : t ∈ T) :
  ∀ (N : List Mk) (R : List Rl) (x4 x5 x6 x7 x8 x9 x10 : D),(∀ m ∈ N,m ∈ M)->R.length + N.length<=200->∃ (R' : List Rl) (y4 y5 y6 y7 y8 y9 : D),R'.length<=R.length + N.length/\forS (tg1 4) irs (N.map mkD) (rr ns M T R (tkD t) x4 x5 x6 x7 x8 x9 x10) = .ok (.nx (rr ns M T R' (tkD t) y4 y5 y6 y7 y8 y9 x10))
 | [],R,x4,x5,x6,x7,x8,x9,x10,_,_=>⟨R,x4,x5,x6,x7,x8,x9,Nat.le_refl _,rfl⟩
 | m :: N,R,x4,x5,x6,x7,x8,x9,x10,hN,hl=>by
  rw [List.length_cons] at hl
  obtain ⟨R1,y5,y6,y7,y8,y9,h1,h2⟩:=irs_ok (x5:=x5) (x6:=x6) (x7:=x7) (x8:=x8) (x9:=x9) (x10:=x10) hn hm hm3 hM hT hTl ht (hN m (List.mem_cons_self ..)) (R:=R) (by lia)
  obtain ⟨R2,z4,z5,z6,z7,z8,z9,i1,i2⟩:=irs_loop hn hm hm3 hM hT hTl ht N R1 (mkD m) y5 y6 y7 y8 y9 x10 (fun q hq=>hN q (List.mem_cons_of_mem _ hq)) (by lia)
  refine ⟨R2,z4,z5,z6,z7,z8,z9,by rw [List.length_cons];lia,?_⟩
  exact fors_cons (ρ1:=rr ns M T R (tkD t) (mkD m) x5 x6 x7 x8 x9 x10) rfl h2 i2
theorem ors_loop {ns : List Int} {many : Int} {M : List Mk} {T : List Tk} (hn : ns.length<=63) (hm : 0 < many) (hm3 : many<=3) (hM : MOk ns many many.toNat M) (hT : ∀ t ∈ T,TkPart ns many t) (hTl : T.length<=3) :
  ∀ (N : List Tk) (R : List Rl) (x3 x4 x5 x6 x7 x8 x9 x10 : D),(∀ m ∈ N,m ∈ T)->R.length + 9 * N.length<=200->∃ (R' : List Rl) (y3 y4 y5 y6 y7 y8 y9 : D),R'.length<=R.length + 9 * N.length/\forS (tg1 3) (sFor (bItemsX (b2 getD (bVar 1) (bC (.int 0))) false) (tg1 4) irs) (N.map tkD) (rr ns M T R x3 x4 x5 x6 x7 x8 x9 x10) = .ok (.nx (rr ns M T R' y3 y4 y5 y6 y7 y8 y9 x10))
 | [],R,x3,x4,x5,x6,x7,x8,x9,x10,_,_=>⟨R,x3,x4,x5,x6,x7,x8,x9,Nat.le_refl _,rfl⟩
 | t :: N,R,x3,x4,x5,x6,x7,x8,x9,x10,hN,hl=>by
  rw [List.length_cons] at hl
  have ml:=hM.len
  obtain ⟨R1,y4,y5,y6,y7,y8,y9,h1,h2⟩:=irs_loop hn hm hm3 hM hT hTl (hN t (List.mem_cons_self ..)) M R x4 x5 x6 x7 x8 x9 x10 (fun _ h=>h) (by lia)
  obtain ⟨R2,z3,z4,z5,z6,z7,z8,z9,i1,i2⟩:=ors_loop hn hm hm3 hM hT hTl N R1 (tkD t) y4 y5 y6 y7 y8 y9 x10 (fun q hq=>hN q (List.mem_cons_of_mem _ hq)) (by lia)
  refine ⟨R2,z3,z4,z5,z6,z7,z8,z9,by rw [List.length_cons];lia,?_⟩
  have pm : (false || (D.tup (M.map mkD)).pure) = true:=by rw [D.pure,pures_map mk_pure];rfl
  have it:=itemsX_ok (a:=b2 getD (bVar 1) (bC (.int 0))) (ρ:=rr ns M T R (tkD t) x4 x5 x6 x7 x8 x9 x10) (xs:=M.map mkD) (b2_ok (x:=bkD M T) (y:=.int 0) rfl rfl rfl)
  rw [pm] at it
  exact fors_cons (ρ1:=rr ns M T R (tkD t) x4 x5 x6 x7 x8 x9 x10) rfl (for_ok it h2) i2
theorem cut_mapD {α : Type} (f : α->D) (L : List α) (lo hi : Option Int) : cutD (L.map f) lo hi = (cutD L lo hi).map f:=by
 unfold cutD
 rw [List.length_map,List.map_take,List.map_drop]
theorem cut_lenD {α : Type} (L : List α) (lo hi : Option Int) : (cutD L lo hi).length<=L.length:=by
 unfold cutD
 exact Nat.le_trans (List.length_take_le' ..) (by rw [List.length_drop];lia)
theorem rules_ok {ns : List Int} {many : Int} {M : List Mk} {T : List Tk} (hn : ns.length<=63) (hm : 0 < many) (hm3 : many<=3) (hM : MOk ns many many.toNat M) (hT : ∀ t ∈ T,TkPart ns many t) (hTl : T.length<=3) : ∃ R : List Rl,argN 2 v__law_rules [.scr (ns.map D.int),bkD M T] = .ok (.tup (R.map rlD)):=by
 obtain ⟨R,y3,y4,y5,y6,y7,y8,y9,h1,h2⟩:=ors_loop hn hm hm3 hM hT hTl T [] .undef .undef .undef .undef .undef .undef .undef .undef (fun _ h=>h) (by show 0 + _<=200;lia)
 rw [List.length_nil] at h1
 obtain ⟨n,n1,hx⟩ : ∃ n : Int,0 < n/\minmax .gt [.int 1,.int (R.length : Nat)] = .ok (.int n):=by
  refine ⟨_,?_,max1 R.length⟩
  split <;> lia
 have mn:=mod_ok (drw ns 35) n n1
 generalize hat : drw ns 35 % n = at_ at mn
 have pt : (false || (D.tup (T.map tkD)).pure) = true:=by rw [D.pure,pures_map tk_pure];rfl
 have it:=itemsX_ok (a:=b2 getD (bVar 1) (bC (.int 1))) (ρ:=rr ns M T [] .undef .undef .undef .undef .undef .undef .undef .undef) (xs:=T.map tkD) (b2_ok (x:=bkD M T) (y:=.int 1) rfl rfl rfl)
 rw [pt] at it
 refine ⟨cutD R (some at_) none ++ cutD R none (some at_),(argN_ok rfl).trans (call_v ?_)⟩
 rw [rules_def]
 refine seq_ok (ρ':=rr ns M T [] .undef .undef .undef .undef .undef .undef .undef .undef) (setV_ok (i:=2) (lst_ok (xs:=[]) rfl (Nat.zero_le _)) rfl) ?_
 refine seq_ok (for_ok it h2) ?_
 refine seq_ok (ρ':=rr ns M T R y3 y4 y5 y6 y7 y8 y9 (.int at_)) (set_ok (i:=10) (b2_ok (x:=.int (drw ns 35)) (y:=.int n) (draw_w hn rfl rfl) (call_ok (xs:=[.int 1,.int (R.length : Nat)]) (cons_ok rfl (cons_ok (call_ok (xs:=[.lst (R.map rlD)]) (cons_ok rfl rfl) (by rw [len_ok,List.length_map])) rfl)) hx) mn)) ?_
 have sl : ∀ lo hi,slcX (.lst (R.map rlD)) lo hi = .ok (.lst ((cutD R lo hi).map rlD)):=fun lo hi=>by
  show slcD (.lst (R.map rlD)) lo hi = _
  rw [slcD,if_pos (pures_map rl_pure R),cut_mapD]
 have e1 : bSlX (bVar 2) (bSome (bVar 10)) bNone (rr ns M T R y3 y4 y5 y6 y7 y8 y9 (.int at_)) = .ok (.lst ((cutD R (some at_) none).map rlD)):=sl (some at_) none
 have e2 : bSlX (bVar 2) bNone (bSome (bVar 10)) (rr ns M T R y3 y4 y5 y6 y7 y8 y9 (.int at_)) = .ok (.lst ((cutD R none (some at_)).map rlD)):=sl none (some at_)
 have l1:=cut_lenD R (some at_) none
 have l2:=cut_lenD R none (some at_)
 have e3:=add_lst ((cutD R (some at_) none).map rlD) ((cutD R none (some at_)).map rlD) (by rw [List.length_map,List.length_map];exact one_lim (by lia)) (pures_map rl_pure _) (pures_map rl_pure _)
 rw [<- List.map_append] at e3
 exact ret_ok (d:=.tup ((cutD R (some at_) none ++ cutD R none (some at_)).map rlD)) (call_ok (xs:=[.lst ((cutD R (some at_) none ++ cutD R none (some at_)).map rlD)]) (cons_ok (b2_ok e1 e2 e3) rfl) rfl) (by rw [D.pure,pures_map rl_pure];rfl)
end Lk61
end
section
set_option maxRecDepth 100000
namespace Lk61
open PySem L2 Mi
noncomputable def pgD (ks : List Str) (M : List Mk) (T : List Tk) (R : List Rl) : D:=.tup [.tup (ks.map D.str),.tup (M.map mkD),.tup (T.map tkD),.tup (R.map rlD)]
theorem pg_pure (ks : List Str) (M : List Mk) (T : List Tk) (R : List Rl) : (pgD ks M T R).pure = true:=by
 show ((D.tup (ks.map D.str)).pure && ((D.tup (M.map mkD)).pure && ((D.tup (T.map tkD)).pure && ((D.tup (R.map rlD)).pure && true)))) = true
 rw [D.pure,D.pure,D.pure,D.pure,pures_strs,pures_map mk_pure,pures_map tk_pure,pures_map rl_pure]
 rfl
theorem program_ok {ns : List Int} (hn : ns.length<=63) : ∃ (ks : List Str) (M : List Mk) (T : List Tk) (R : List Rl),(∀ m ∈ M,Good m.1)/\(∀ t ∈ T,Good t.1)/\M.length<=9/\T.length<=3/\argN 1 v__law_program [.scr (ns.map D.int)] = .ok (pgD ks M T R):=by
 have m3:=mod_ok (drw ns 39) 3 (by decide)
 have a1:=add_ok 1 (drw ns 39 % 3)
 generalize hmany : 1 + drw ns 39 % 3 = many at a1
 have hm : 0 < many:=by lia
 have hm3 : many<=3:=by lia
 obtain ⟨M,hM,eM⟩:=makers_ok hn hm hm3
 obtain ⟨T,hT,hTl,eT⟩:=takers_ok hn hm hm3
 obtain ⟨R,eR⟩:=rules_ok hn hm hm3 hM hT hTl
 have ml:=hM.len
 obtain ⟨ks,h1,h2,h3⟩:=cfold_all (cstep 4 oneT bTrue (bCall (argN 2 v__law_word) (bCons (bVar 0) (bCons (bVar 4) (bNil)))) true [.scr (ns.map D.int),.int many,bkD M T,.undef]) D.str (fun _=>True) ((List.range many.toNat).map fun (k : Nat)=>D.int (0 + (k : Int))) [] (fun x hx acc=>by
  obtain ⟨k,hk,rfl⟩:=List.mem_map.mp hx
  have hk:=List.mem_range.mp hk
  have w:=(word_ok hn (i:=0 + (k : Int)) (by lia) (by lia)).1
  exact ⟨[wrd ns (0 + (k : Int))],fun y hy=>trivial,Nat.le_refl _,cstep_gen (b:=true) (bs:=[.int (0 + (k : Int))]) (y:=.str (wrd ns (0 + (k : Int)))) rfl rfl rfl fun _=>⟨call_ok (xs:=[.scr (ns.map D.int),.int (0 + (k : Int))]) (cons_ok rfl (cons_ok rfl rfl)) w,rfl⟩⟩)
 rw [List.nil_append] at h3
 refine ⟨ks,M,T,R,fun m hq=>(hM.part m hq).1,fun t hq=>(hT t hq).1,by lia,hTl,(argN_ok rfl).trans (call_v ?_)⟩
 refine seq_ok (ρ':=[.scr (ns.map D.int),.int many,.undef,.undef]) (set_ok (i:=1) (b2_ok (x:=.int 1) (y:=.int (drw ns 39 % 3)) rfl (b2_ok (x:=.int (drw ns 39)) (draw_w hn rfl rfl) rfl m3) a1)) ?_
 refine seq_ok (ρ':=[.scr (ns.map D.int),.int many,bkD M T,.undef]) (set_ok (i:=2) (tup_ok (xs:=[.tup (M.map mkD),.tup (T.map tkD)]) (cons_ok (call_ok (xs:=[.scr (ns.map D.int),.int many]) (cons_ok rfl (cons_ok rfl rfl)) eM) (cons_ok (call_ok (xs:=[.scr (ns.map D.int),.int many]) (cons_ok rfl (cons_ok rfl rfl)) eT) rfl)) lim2)) ?_
 refine seq_ok (ρ':=[.scr (ns.map D.int),.int many,bkD M T,.tup (ks.map D.str)]) (setP_ok (i:=3) (call_ok (xs:=[.lst (ks.map D.str)]) (cons_ok (comp_ok (rng_ok (n:=many) (cons_ok rfl rfl) (by lia) (by lia)) (by rw [List.length_map,List.length_range,lim_eq];lia) h3) rfl) rfl) (by rw [D.pure,pures_strs])) ?_
 exact ret_ok (d:=pgD ks M T R) (tup_ok (xs:=[.tup (ks.map D.str),.tup (M.map mkD),.tup (T.map tkD),.tup (R.map rlD)]) (cons_ok rfl (cons_ok (b2_ok (x:=bkD M T) (y:=.int 0) rfl rfl rfl) (cons_ok (b2_ok (x:=bkD M T) (y:=.int 1) rfl rfl rfl) (cons_ok (call_ok (xs:=[.scr (ns.map D.int),bkD M T]) (cons_ok rfl (cons_ok rfl rfl)) eR) rfl)))) (one_lim (Nat.le_of_ble_eq_true rfl))) (by rw [pg_pure];rfl)
noncomputable def stD (S : List (Str × Int)) : List (D × D):=S.map fun p=>(.str p.1,.int p.2)
noncomputable def put : List (Str × Int)->Str->Int->List (Str × Int)
 | [],x,v=>[(x,v)]
 | p :: r,x,v=>if (p.1 == x) then (p.1,v) :: r else p :: put r x v
noncomputable def look : List (Str × Int)->Str->Option Int
 | [],_=>none
 | p :: r,x=>if (p.1 == x) then some p.2 else look r x
noncomputable def puts (S : List (Str × Int)) (ps : List (Str × Int)) : List (Str × Int):=ps.foldl (fun S p=>put S p.1 p.2) S
theorem st_put : ∀ (S : List (Str × Int)) (x : Str) (v : Int),putD (stD S) (.str x) (.int v) = stD (put S x v)
 | [],x,v=>rfl
 | p :: r,x,v=>by
  show (if (p.1 == x) then (D.str p.1,D.int v) :: stD r else (D.str p.1,D.int p.2) :: putD (stD r) (.str x) (.int v)) = stD (if (p.1 == x) then (p.1,v) :: r else p :: put r x v)
  by_cases z : (p.1 == x) = true
  ·rw [if_pos z,if_pos z];rfl
  ·rw [if_neg z,if_neg z,st_put r x v];rfl
theorem st_look : ∀ (S : List (Str × Int)) (x : Str),lookD (stD S) (.str x) = (look S x).map D.int
 | [],x=>rfl
 | p :: r,x=>by
  show (if (p.1 == x) then some (D.int p.2) else lookD (stD r) (.str x)) = (if (p.1 == x) then some p.2 else look r x).map D.int
  by_cases z : (p.1 == x) = true
  ·rw [if_pos z,if_pos z];rfl
  ·rw [if_neg z,if_neg z,st_look r x]
theorem st_fit (S : List (Str × Int)) (x : Str) : fitK (stD S) (.str x) = true:=by
 unfold fitK
 rw [Bool.and_eq_true]
 refine ⟨rfl,List.all_eq_true.mpr fun p hp=>?_⟩
 obtain ⟨q,_,rfl⟩:=List.mem_map.mp hp
 rfl
theorem st_flat (S : List (Str × Int)) : (stD S).all (fun p=>!isTup p.1) = true:=by
 rw [List.all_eq_true]
 intro p hp
 obtain ⟨q,_,rfl⟩:=List.mem_map.mp hp
 rfl
theorem st_keys (S : List (Str × Int)) : keysD (stD S) = (S.map (·.1)).map D.str:=by
 unfold keysD stD
 rw [List.map_map,List.map_map]
 rfl
theorem st_inner (S : List (Str × Int)) : inner (.dct (stD S)) = true:=by
 show D.pures ((stD S).map (·.2)) = true
 unfold stD
 rw [List.map_map]
 exact pures_map (f:=fun p : Str × Int=>D.int p.2) (fun _=>rfl) S
theorem st_len (S : List (Str × Int)) : (stD S).length = S.length:=by unfold stD;rw [List.length_map]
theorem put_keys : ∀ (S : List (Str × Int)) (x : Str) (v : Int) (y : Str),y ∈ (put S x v).map (·.1)->y ∈ S.map (·.1)\/y = x
 | [],x,v,y,h=>.inr (List.mem_singleton.mp h)
 | p :: r,x,v,y,h=>by
  unfold put at h
  by_cases z : (p.1 == x) = true
  ·rw [if_pos z] at h
   exact .inl h
  ·rw [if_neg z] at h
   rcases List.mem_cons.mp h with h | h
   ·exact .inl (List.mem_cons.mpr (.inl h))
   ·rcases put_keys r x v y h with q | q
    ·exact .inl (List.mem_cons_of_mem _ q)
    ·exact .inr q
theorem put_len : ∀ (S : List (Str × Int)) (x : Str) (v : Int),(put S x v).length<=S.length + 1
 | [],x,v=>Nat.le_refl _
 | p :: r,x,v=>by
  unfold put
  split
  ·exact Nat.le_succ _
  ·rw [List.length_cons,List.length_cons]
   have:=put_len r x v
   lia
theorem put_new : ∀ (S : List (Str × Int)) (x : Str) (v : Int),x ∉ S.map (·.1)->put S x v = S ++ [(x,v)]
 | [],x,v,_=>rfl
 | p :: r,x,v,h=>by
  unfold put
  rw [if_neg (fun z=>h (by rw [List.map_cons];exact List.mem_cons.mpr (.inl (eq_of_beq z).symm))),put_new r x v fun z=>h (List.mem_cons_of_mem _ z)]
  rfl
theorem put_app : ∀ (A S : List (Str × Int)) (x : Str) (v : Int),x ∉ A.map (·.1)->put (A ++ S) x v = A ++ put S x v
 | [],S,x,v,_=>rfl
 | p :: A,S,x,v,h=>by
  rw [List.cons_append,put,if_neg (fun z=>h (by rw [List.map_cons];exact List.mem_cons.mpr (.inl (eq_of_beq z).symm))),put_app A S x v fun z=>h (List.mem_cons_of_mem _ z)]
  rfl
theorem puts_app (A : List (Str × Int)) : ∀ (ps S : List (Str × Int)),(∀ p ∈ ps,p.1 ∉ A.map (·.1))->puts (A ++ S) ps = A ++ puts S ps
 | [],S,_=>rfl
 | p :: ps,S,h=>by
  show puts (put (A ++ S) p.1 p.2) ps = A ++ puts (put S p.1 p.2) ps
  rw [put_app A S p.1 p.2 (h p (List.mem_cons_self ..)),puts_app A ps _ fun q hq=>h q (List.mem_cons_of_mem _ hq)]
theorem puts_keys : ∀ (ps S : List (Str × Int)) (y : Str),y ∈ (puts S ps).map (·.1)->y ∈ S.map (·.1)\/y ∈ ps.map (·.1)
 | [],S,y,h=>.inl h
 | p :: ps,S,y,h=>by
  rcases puts_keys ps (put S p.1 p.2) y h with q | q
  ·rcases put_keys S _ _ y q with q | q
   ·exact .inl q
   ·exact .inr (List.mem_cons.mpr (.inl q))
  ·exact .inr (List.mem_cons_of_mem _ q)
theorem look_app : ∀ (A B : List (Str × Int)) (x : Str),look (A ++ B) x = (look A x).or (look B x)
 | [],B,x=>rfl
 | p :: A,B,x=>by
  rw [List.cons_append,look,look]
  split
  ·rfl
  ·exact look_app A B x
theorem look_none : ∀ (S : List (Str × Int)) (x : Str),x ∉ S.map (·.1)->look S x = none
 | [],x,_=>rfl
 | p :: r,x,h=>by
  rw [look,if_neg (fun z=>h (by rw [List.map_cons];exact List.mem_cons.mpr (.inl (eq_of_beq z).symm))),look_none r x fun z=>h (List.mem_cons_of_mem _ z)]
theorem look_some : ∀ (S : List (Str × Int)) (x : Str),x ∈ S.map (·.1)->∃ v,look S x = some v
 | [],x,h=>by cases h
 | p :: r,x,h=>by
  rw [look]
  by_cases z : (p.1 == x) = true
  ·rw [if_pos z];exact ⟨_,rfl⟩
  ·rw [if_neg z]
   refine look_some r x ?_
   rcases List.mem_cons.mp h with rfl | h
   ·exact absurd (beq_self_eq_true _) z
   ·exact h
noncomputable def cd : List (Str × Int):=[("copy",2),("drop",0)]
theorem cd_keys : cd.map (·.1) = [("copy" : Str),("drop" : Str)]:=rfl
theorem look_swap (S : List (Str × Int)) (h1 : ("copy" : Str) ∉ S.map (·.1)) (h2 : ("drop" : Str) ∉ S.map (·.1)) (x : Str) : look (S ++ cd) x = look (cd ++ S) x:=by
 rw [look_app,look_app]
 by_cases z : x ∈ S.map (·.1)
 ·have e : look cd x = none:=look_none cd x (by
   rw [cd_keys]
   intro q
   rcases List.mem_cons.mp q with rfl | q
   ·exact h1 z
   ·rw [List.mem_singleton.mp q] at z
    exact h2 z)
  rw [e]
  cases look S x <;> rfl
 ·rw [look_none S x z]
  cases look cd x <;> rfl
noncomputable def psM (M : List Mk) : List (Str × Int):=M.map fun m=>(m.1,((m.2.2.length : Nat) : Int))
noncomputable def psT (T : List Tk) : List (Str × Int):=T.map fun t=>(t.1,1 + ((t.2.2.2.length : Nat) : Int))
noncomputable def base (M : List Mk) (T : List Tk) : List (Str × Int):=puts (puts [] (psM M)) (psT T)
theorem puts_len : ∀ (ps S : List (Str × Int)),(puts S ps).length<=S.length + ps.length
 | [],S=>Nat.le_refl _
 | p :: ps,S=>by
  have:=puts_len ps (put S p.1 p.2)
  have:=put_len S p.1 p.2
  show (puts (put S p.1 p.2) ps).length<=_
  rw [List.length_cons]
  lia
theorem lenT (xs : List Str) : lenD [.tup (xs.map D.str)] = .ok (.int (xs.length : Nat)):=by
 rw [show lenD [.tup (xs.map D.str)] = .ok (.int ((xs.map D.str).length : Nat)) from rfl,List.length_map]
theorem sk_lim {n : Nat} (h : n<=100) : n < lim:=by rw [lim_eq];lia
theorem stM_loop (pg : D) : ∀ (M : List Mk) (S : List (Str × Int)) (x2 x3 x4 x5 x6 : D),S.length + M.length<=100->∃ y2 y3 y4 : D,forS (tgN [2,3,4]) (sPut 1 (bVar 2) (bCall lenD (bCons (bVar 4) (bNil)))) (M.map mkD) [pg,.dct (stD S),x2,x3,x4,x5,x6] = .ok (.nx [pg,.dct (stD (puts S (psM M))),y2,y3,y4,x5,x6])
 | [],S,x2,x3,x4,x5,x6,_=>⟨x2,x3,x4,rfl⟩
 | m :: M,S,x2,x3,x4,x5,x6,hl=>by
  rw [List.length_cons] at hl
  have pl:=put_len S m.1 ((m.2.2.length : Nat) : Int)
  obtain ⟨y2,y3,y4,e⟩:=stM_loop pg M (put S m.1 ((m.2.2.length : Nat) : Int)) (.str m.1) (.str m.2.1) (.tup (m.2.2.map D.str)) x5 x6 (by lia)
  refine ⟨y2,y3,y4,?_⟩
  have p:=put_ok (i:=1) (ρ:=[pg,.dct (stD S),.str m.1,.str m.2.1,.tup (m.2.2.map D.str),x5,x6]) (f:=bVar 2) (g:=bCall lenD (bCons (bVar 4) (bNil))) (kvs:=stD S) (k:=.str m.1) (d:=.int (m.2.2.length : Nat)) (call_ok (xs:=[.tup (m.2.2.map D.str)]) (cons_ok rfl rfl) (lenT _)) rfl rfl (by rw [st_len];exact sk_lim (by lia)) (st_fit S m.1) rfl
  rw [st_put] at p
  exact fors_cons (ρ1:=[pg,.dct (stD S),.str m.1,.str m.2.1,.tup (m.2.2.map D.str),x5,x6]) rfl p e
theorem stT_loop (pg : D) : ∀ (T : List Tk) (S : List (Str × Int)) (x2 x3 x4 x5 x6 : D),S.length + T.length<=100->∃ y2 y3 y5 y6 : D,forS (tgN [2,3,5,6]) (sPut 1 (bVar 2) (b2 (binD .add) (bC (.int 1)) (bCall lenD (bCons (bVar 6) (bNil))))) (T.map tkD) [pg,.dct (stD S),x2,x3,x4,x5,x6] = .ok (.nx [pg,.dct (stD (puts S (psT T))),y2,y3,x4,y5,y6])
 | [],S,x2,x3,x4,x5,x6,_=>⟨x2,x3,x5,x6,rfl⟩
 | t :: T,S,x2,x3,x4,x5,x6,hl=>by
  rw [List.length_cons] at hl
  have pl:=put_len S t.1 (1 + ((t.2.2.2.length : Nat) : Int))
  obtain ⟨y2,y3,y5,y6,e⟩:=stT_loop pg T (put S t.1 (1 + ((t.2.2.2.length : Nat) : Int))) (.str t.1) (.str t.2.1) x4 (.str t.2.2.1) (.tup (t.2.2.2.map D.str)) (by lia)
  refine ⟨y2,y3,y5,y6,?_⟩
  have p:=put_ok (i:=1) (ρ:=[pg,.dct (stD S),.str t.1,.str t.2.1,x4,.str t.2.2.1,.tup (t.2.2.2.map D.str)]) (f:=bVar 2) (g:=b2 (binD .add) (bC (.int 1)) (bCall lenD (bCons (bVar 6) (bNil)))) (kvs:=stD S) (k:=.str t.1) (d:=.int (1 + (t.2.2.2.length : Nat))) (b2_ok (x:=.int 1) (y:=.int (t.2.2.2.length : Nat)) rfl (call_ok (xs:=[.tup (t.2.2.2.map D.str)]) (cons_ok rfl rfl) (lenT _)) (add_ok _ _)) rfl rfl (by rw [st_len];exact sk_lim (by lia)) (st_fit S t.1) rfl
  rw [st_put] at p
  exact fors_cons (ρ1:=[pg,.dct (stD S),.str t.1,.str t.2.1,x4,.str t.2.2.1,.tup (t.2.2.2.map D.str)]) rfl p e
theorem base_not {M : List Mk} {T : List Tk} (h1 : ∀ m ∈ M,Good m.1) (h2 : ∀ t ∈ T,Good t.1) : ∀ x ∈ (base M T).map (·.1),Good x:=by
 intro x hx
 rcases puts_keys _ _ x hx with q | q
 ·rcases puts_keys _ _ x q with q | q
  ·cases q
  ·unfold psM at q
   rw [List.map_map] at q
   obtain ⟨m,hm,rfl⟩:=List.mem_map.mp q
   exact h1 m hm
 ·unfold psT at q
  rw [List.map_map] at q
  obtain ⟨m,hm,rfl⟩:=List.mem_map.mp q
  exact h2 m hm
theorem base_len {M : List Mk} {T : List Tk} (hM : M.length<=9) (hT : T.length<=3) : (base M T).length<=12:=by
 have a:=puts_len (psM M) []
 have b:=puts_len (psT T) (puts [] (psM M))
 unfold base
 have c : (psM M).length = M.length:=List.length_map ..
 have d : (psT T).length = T.length:=List.length_map ..
 rw [List.length_nil] at a
 lia
theorem fors_items {a : FE} {t : D->List D->Res (List D)} {body : FS} {ρ xs : List D} {r : Res Fl} (h1 : a ρ = .ok (.tup xs)) (hp : D.pures xs = true) (h2 : forS t body xs ρ = r) : sFor (bItemsX a false) t body ρ = r:=by
 have it:=itemsX_ok h1
 rw [D.pure,hp] at it
 exact for_ok it h2
theorem stock_ok {ks : List Str} {M : List Mk} {T : List Tk} {R : List Rl} (h1 : ∀ m ∈ M,Good m.1) (h2 : ∀ t ∈ T,Good t.1) (hM : M.length<=9) (hT : T.length<=3) : argN 1 v_stock_of [pgD ks M T R] = .ok (.dct (stD (base M T ++ cd))):=by
 refine (argN_ok rfl).trans (call_v ?_)
 have gd:=base_not h1 h2
 have bl:=base_len hM hT
 obtain ⟨y2,y3,y4,e1⟩:=stM_loop (pgD ks M T R) M [] .undef .undef .undef .undef .undef (by show 0 + _<=100;lia)
 have pl:=puts_len (psM M) []
 have pm : (psM M).length = M.length:=List.length_map ..
 rw [List.length_nil] at pl
 obtain ⟨z2,z3,z5,z6,e2⟩:=stT_loop (pgD ks M T R) T (puts [] (psM M)) y2 y3 y4 .undef .undef (by lia)
 refine seq_ok (ρ':=[pgD ks M T R,.dct (stD []),.undef,.undef,.undef,.undef,.undef]) (setV_ok (i:=1) rfl rfl) ?_
 refine seq_ok (fors_items (b2_ok (x:=pgD ks M T R) (y:=.int 1) rfl rfl rfl) (pures_map mk_pure M) e1) ?_
 refine seq_ok (fors_items (b2_ok (x:=pgD ks M T R) (y:=.int 2) rfl rfl rfl) (pures_map tk_pure T) e2) ?_
 have p1:=put_ok (i:=1) (ρ:=[pgD ks M T R,.dct (stD (base M T)),z2,z3,y4,z5,z6]) (f:=bC (.str "copy")) (g:=bC (.int 2)) (kvs:=stD (base M T)) (k:=.str "copy") (d:=.int 2) rfl rfl rfl (by rw [st_len];exact sk_lim (by lia)) (st_fit _ _) rfl
 rw [st_put,put_new _ _ _ fun q=>(gd _ q).1 rfl] at p1
 refine seq_ok p1 ?_
 have p2:=put_ok (i:=1) (ρ:=[pgD ks M T R,.dct (stD (base M T ++ [(("copy" : Str),(2 : Int))])),z2,z3,y4,z5,z6]) (f:=bC (.str "drop")) (g:=bC (.int 0)) (kvs:=stD (base M T ++ [(("copy" : Str),(2 : Int))])) (k:=.str "drop") (d:=.int 0) rfl rfl rfl (by rw [st_len,List.length_append];exact sk_lim (by show _ + 1<=100;lia)) (st_fit _ _) rfl
 rw [st_put,put_new _ _ _ (fun q=>by
  rw [List.map_append] at q
  rcases List.mem_append.mp q with q | q
  ·exact (gd _ q).2.1 rfl
  ·exact absurd (List.mem_singleton.mp q) (by decide +kernel)),List.append_assoc] at p2
 refine seq_ok p2 ?_
 rfl
end Lk61
end
section
set_option maxRecDepth 100000
namespace Lk61
open PySem L2 Mi
theorem duM_loop (fd pg : D) : ∀ (M : List Mk) (S : List (Str × Int)) (x3 x4 x5 : D),S.length + M.length<=100->∃ y3 : D,forS (tg1 3) (sPut 2 (b2 getD (bVar 3) (bC (.int 0))) (bCall lenD (bCons (b2 getD (bVar 3) (bC (.int 2))) (bNil)))) (M.map mkD) [fd,pg,.dct (stD S),x3,x4,x5] = .ok (.nx [fd,pg,.dct (stD (puts S (psM M))),y3,x4,x5])
 | [],S,x3,x4,x5,_=>⟨x3,rfl⟩
 | m :: M,S,x3,x4,x5,hl=>by
  rw [List.length_cons] at hl
  have pl:=put_len S m.1 ((m.2.2.length : Nat) : Int)
  obtain ⟨y3,e⟩:=duM_loop fd pg M (put S m.1 ((m.2.2.length : Nat) : Int)) (mkD m) x4 x5 (by lia)
  refine ⟨y3,?_⟩
  have p:=put_ok (i:=2) (ρ:=[fd,pg,.dct (stD S),mkD m,x4,x5]) (f:=b2 getD (bVar 3) (bC (.int 0))) (g:=bCall lenD (bCons (b2 getD (bVar 3) (bC (.int 2))) (bNil))) (kvs:=stD S) (k:=.str m.1) (d:=.int (m.2.2.length : Nat)) (call_ok (xs:=[.tup (m.2.2.map D.str)]) (cons_ok (b2_ok (x:=mkD m) (y:=.int 2) rfl rfl rfl) rfl) (lenT _)) (b2_ok (x:=mkD m) (y:=.int 0) rfl rfl rfl) rfl (by rw [st_len];exact sk_lim (by lia)) (st_fit S m.1) rfl
  rw [st_put] at p
  exact fors_cons (ρ1:=[fd,pg,.dct (stD S),mkD m,x4,x5]) rfl p e
theorem duT_loop (fd pg : D) : ∀ (T : List Tk) (S : List (Str × Int)) (x3 x4 x5 : D),S.length + T.length<=100->∃ y4 : D,forS (tg1 4) (sPut 2 (b2 getD (bVar 4) (bC (.int 0))) (b2 (binD .add) (bCall lenD (bCons (b2 getD (bVar 4) (bC (.int 3))) (bNil))) (bC (.int 1)))) (T.map tkD) [fd,pg,.dct (stD S),x3,x4,x5] = .ok (.nx [fd,pg,.dct (stD (puts S (psT T))),x3,y4,x5])
 | [],S,x3,x4,x5,_=>⟨x4,rfl⟩
 | t :: T,S,x3,x4,x5,hl=>by
  rw [List.length_cons] at hl
  have pl:=put_len S t.1 (1 + ((t.2.2.2.length : Nat) : Int))
  obtain ⟨y4,e⟩:=duT_loop fd pg T (put S t.1 (1 + ((t.2.2.2.length : Nat) : Int))) x3 (tkD t) x5 (by lia)
  refine ⟨y4,?_⟩
  have p:=put_ok (i:=2) (ρ:=[fd,pg,.dct (stD S),x3,tkD t,x5]) (f:=b2 getD (bVar 4) (bC (.int 0))) (g:=b2 (binD .add) (bCall lenD (bCons (b2 getD (bVar 4) (bC (.int 3))) (bNil))) (bC (.int 1))) (kvs:=stD S) (k:=.str t.1) (d:=.int ((t.2.2.2.length : Nat) + 1)) (b2_ok (x:=.int (t.2.2.2.length : Nat)) (y:=.int 1) (call_ok (xs:=[.tup (t.2.2.2.map D.str)]) (cons_ok (b2_ok (x:=tkD t) (y:=.int 3) rfl rfl rfl) rfl) (lenT _)) rfl (add_ok _ _)) (b2_ok (x:=tkD t) (y:=.int 0) rfl rfl rfl) rfl (by rw [st_len];exact sk_lim (by lia)) (st_fit S t.1) rfl
  rw [st_put,Int.add_comm] at p
  exact fors_cons (ρ1:=[fd,pg,.dct (stD S),x3,tkD t,x5]) rfl p e
noncomputable def rbody : FS:=(sIf (bOr (bTB (b2 (cmpD .notin) (bVar 5) (bVar 0))) (bOr (bNot (bTr (bCall (argN 1 v__law_whole) (bCons (b2 getD (bVar 0) (bVar 5)) (bNil))))) (bTB (b2 (cmpD .ne) (b2 getD (bVar 0) (bVar 5)) (b2 getD (bVar 2) (bVar 5)))))) (sRet (bC (.bl false)) true) (sNil))
theorem not_ok {a : FT} {ρ : List D} {x : Bool} (h : a ρ = .ok x) : bNot a ρ = .ok (!x):=by
 unfold bNot
 rw [h]
 rfl
theorem get_st (S : List (Str × Int)) (x : Str) (v : Int) (h : look S x = some v) : getD (.dct (stD S)) (.str x) = .ok (.int v):=by
 show (if keyOk (.str x) then Res.ofOpt (lookD (stD S) (.str x)) else .bad) = _
 rw [if_pos (show keyOk (.str x) = true from rfl),st_look,h]
 rfl
theorem get_fst (S : List (Str × Int)) (x : Str) (v : Int) (h : look S x = some v) : getD (.fdc (stD S)) (.str x) = .ok (.int v):=by
 show (if keyOk (.str x) then Res.ofOpt (lookD (stD S) (.str x)) else .bad) = _
 rw [if_pos (show keyOk (.str x) = true from rfl),st_look,h]
 rfl
theorem rbody_ok {A B : List (Str × Int)} {pg x3 x4 : D} {x : Str} {v : Int} (h1 : look A x = some v) (h2 : look B x = some v) : rbody [.dct (stD A),pg,.fdc (stD B),x3,x4,.str x] = .ok (.nx [.dct (stD A),pg,.fdc (stD B),x3,x4,.str x]):=by
 have n1 : cmpD .notin (.str x) (.dct (stD A)) = .ok (.bl false):=by
  show (if fitK (stD A) (.str x) then Res.ok (D.bl (!(lookD (stD A) (.str x)).isSome)) else .bad) = _
  rw [if_pos (st_fit A x),st_look,h1]
  rfl
 have n2 : cmpD .ne (.int v) (.int v) = .ok (.bl false):=by
  show Res.ok (D.bl (!(v == v))) = _
  rw [beq_self_eq_true]
  rfl
 have w : argN 1 v__law_whole [.int v] = .ok (.bl true):=rfl
 refine if_f (or_f (tb_ok (b2_ok (x:=.str x) (y:=.dct (stD A)) rfl rfl n1)) (or_f (not_ok (x:=true) (tr_ok (call_ok (xs:=[.int v]) (cons_ok (b2_ok (x:=.dct (stD A)) (y:=.str x) rfl rfl (get_st A x v h1)) rfl) w))) (tb_ok (b2_ok (x:=.int v) (y:=.int v) (b2_ok (x:=.dct (stD A)) (y:=.str x) rfl rfl (get_st A x v h1)) (b2_ok (x:=.fdc (stD B)) (y:=.str x) rfl rfl (get_fst B x v h2)) n2)))) rfl
theorem rloop {A B : List (Str × Int)} {pg x3 x4 : D} : ∀ (xs : List Str) (x5 : D),(∀ x ∈ xs,∃ v,look A x = some v/\look B x = some v)->∃ y5 : D,forS (tg1 5) rbody (xs.map D.str) [.dct (stD A),pg,.fdc (stD B),x3,x4,x5] = .ok (.nx [.dct (stD A),pg,.fdc (stD B),x3,x4,y5])
 | [],x5,_=>⟨x5,rfl⟩
 | x :: xs,x5,h=>by
  obtain ⟨v,h1,h2⟩:=h x (List.mem_cons_self ..)
  obtain ⟨y5,e⟩:=rloop xs (.str x) fun q hq=>h q (List.mem_cons_of_mem _ hq)
  exact ⟨y5,fors_cons (ρ1:=[.dct (stD A),pg,.fdc (stD B),x3,x4,.str x]) rfl (rbody_ok h1 h2) e⟩
theorem right_def : b__law_right = sSeq (sIf (bNot (bTr (b1 (isTyD .dict) (bVar 0)))) (sRet (bC (.bl false)) true) (sNil)) (sSeq (sSet true 2 (bC (.dct [(.str "copy",.int 2),(.str "drop",.int 0)])) true) (sSeq (sFor (bItemsX (b2 getD (bVar 1) (bC (.int 1))) false) (tg1 3) (sPut 2 (b2 getD (bVar 3) (bC (.int 0))) (bCall lenD (bCons (b2 getD (bVar 3) (bC (.int 2))) (bNil))))) (sSeq (sFor (bItemsX (b2 getD (bVar 1) (bC (.int 2))) false) (tg1 4) (sPut 2 (b2 getD (bVar 4) (bC (.int 0))) (b2 (binD .add) (bCall lenD (bCons (b2 getD (bVar 4) (bC (.int 3))) (bNil))) (bC (.int 1))))) (sSeq (sIf (bTB (b2 (cmpD .ne) (bCall lenX (bCons (bVar 0) (bNil))) (bCall lenX (bCons (bVar 2) (bNil))))) (sRet (bC (.bl false)) true) (sNil)) (sFzD 2 (tg1 5) rbody (sRet (bC (.bl true)) true)))))):=rfl
theorem lenX_ok (S : List (Str × Int)) : lenX [.dct (stD S)] = .ok (.int (S.length : Nat)):=by
 rw [lenX,if_pos (st_flat S),st_len]
theorem right_ok {ks : List Str} {M : List Mk} {T : List Tk} {R : List Rl} (h1 : ∀ m ∈ M,Good m.1) (h2 : ∀ t ∈ T,Good t.1) (hM : M.length<=9) (hT : T.length<=3) : argN 2 v__law_right [.dct (stD (base M T ++ cd)),pgD ks M T R] = .ok (.bl true):=by
 have gd:=base_not h1 h2
 have gM : ∀ p ∈ psM M,p.1 ∉ cd.map (·.1):=fun p hp q=>by
  obtain ⟨m,hm,rfl⟩:=List.mem_map.mp hp
  rw [cd_keys] at q
  rcases List.mem_cons.mp q with q | q
  ·exact (h1 m hm).1 q
  ·exact (h1 m hm).2.1 (List.mem_singleton.mp q)
 have gT : ∀ p ∈ psT T,p.1 ∉ cd.map (·.1):=fun p hp q=>by
  obtain ⟨m,hm,rfl⟩:=List.mem_map.mp hp
  rw [cd_keys] at q
  rcases List.mem_cons.mp q with q | q
  ·exact (h2 m hm).1 q
  ·exact (h2 m hm).2.1 (List.mem_singleton.mp q)
 have bl:=base_len hM hT
 have pl:=puts_len (psM M) []
 have pm : (psM M).length = M.length:=List.length_map ..
 rw [List.length_nil] at pl
 have cl : cd.length = 2:=rfl
 generalize hfd : D.dct (stD (base M T ++ cd)) = fd
 obtain ⟨y3,e1⟩:=duM_loop fd (pgD ks M T R) M cd .undef .undef .undef (by lia)
 have s1 : puts cd (psM M) = cd ++ puts [] (psM M):=by
  have:=puts_app cd (psM M) [] gM
  rw [List.append_nil] at this
  exact this
 rw [s1] at e1
 obtain ⟨y4,e2⟩:=duT_loop fd (pgD ks M T R) T (cd ++ puts [] (psM M)) y3 .undef .undef (by rw [List.length_append];lia)
 rw [puts_app cd (psT T) _ gT] at e2
 have n1 : ("copy" : Str) ∉ (base M T).map (·.1):=fun q=>(gd _ q).1 rfl
 have n2 : ("drop" : Str) ∉ (base M T).map (·.1):=fun q=>(gd _ q).2.1 rfl
 obtain ⟨y5,e3⟩:=rloop (A:=base M T ++ cd) (B:=cd ++ base M T) (pg:=pgD ks M T R) (x3:=y3) (x4:=y4) ((cd ++ base M T).map (·.1)) .undef (fun x hx=>by
  obtain ⟨v,hv⟩:=look_some _ x hx
  exact ⟨v,(look_swap _ n1 n2 x).trans hv,hv⟩)
 rw [<- st_keys] at e3
 refine (argN_ok rfl).trans (call_v ?_)
 rw [right_def]
 refine seq_ok (ρ':=[fd,pgD ks M T R,.undef,.undef,.undef,.undef]) (if_f (not_ok (x:=true) (by rw [<- hfd];rfl)) rfl) ?_
 refine seq_ok (ρ':=[fd,pgD ks M T R,.dct (stD cd),.undef,.undef,.undef]) (setV_ok (i:=2) rfl rfl) ?_
 refine seq_ok (fors_items (b2_ok (x:=pgD ks M T R) (y:=.int 1) (by rw [<- hfd];rfl) rfl rfl) (pures_map mk_pure M) e1) ?_
 refine seq_ok (fors_items (b2_ok (x:=pgD ks M T R) (y:=.int 2) (by rw [<- hfd];rfl) rfl rfl) (pures_map tk_pure T) e2) ?_
 rw [<- hfd]
 have ln : cmpD .ne (.int ((base M T ++ cd).length : Nat)) (.int ((cd ++ base M T).length : Nat)) = .ok (.bl false):=by
  rw [List.length_append,List.length_append,Nat.add_comm]
  show Res.ok (D.bl (!(_ == _))) = _
  rw [beq_self_eq_true]
  rfl
 refine seq_ok (ρ':=[.dct (stD (base M T ++ cd)),pgD ks M T R,.dct (stD (cd ++ base M T)),y3,y4,.undef]) (if_f (tb_ok (b2_ok (x:=.int ((base M T ++ cd).length : Nat)) (y:=.int ((cd ++ base M T).length : Nat)) (call_ok (xs:=[.dct (stD (base M T ++ cd))]) (cons_ok rfl rfl) (lenX_ok _)) (call_ok (xs:=[.dct (stD (cd ++ base M T))]) (cons_ok rfl rfl) (lenX_ok _)) ln)) rfl) ?_
 unfold sFzD
 show (if (stD (cd ++ base M T)).all (fun p=>!isTup p.1) then (do
   let r <- forS (tg1 5) rbody (keysD (stD (cd ++ base M T))) [.dct (stD (base M T ++ cd)),pgD ks M T R,.fdc (stD (cd ++ base M T)),y3,y4,.undef]
   match r with
   | .nx ρ'=>(do
    let r2 <- sRet (bC (.bl true)) true ρ'
    match r2 with
    | .rt d=>.ok (.rt d)
    | _=>.bad)
   | .rt d=>.ok (.rt d)
   | _=>.bad) else .bad) = Res.ok (Fl.rt _)
 rw [if_pos (st_flat _),e3]
 rfl
theorem main : ∀ ns : List Int,ns.length<=63->v_law [.scr (ns.map D.int)] = .ok (.bl true):=by
 intro ns hn
 obtain ⟨ks,M,T,R,h1,h2,h3,h4,e⟩:=program_ok hn
 have s:=stock_ok (ks:=ks) (R:=R) h1 h2 h3 h4
 have r:=right_ok (ks:=ks) (R:=R) h1 h2 h3 h4
 refine call_v ?_
 refine seq_ok (ρ':=[.scr (ns.map D.int),pgD ks M T R,.undef]) (set_ok (i:=1) (call_ok (xs:=[.scr (ns.map D.int)]) (cons_ok rfl rfl) e)) ?_
 refine seq_ok (ρ':=[.scr (ns.map D.int),pgD ks M T R,.dct (stD (base M T ++ cd))]) (setV_ok (i:=2) (call_ok (xs:=[pgD ks M T R]) (cons_ok rfl rfl) s) (st_inner _)) ?_
 refine seq_ok (ρ':=[.scr (ns.map D.int),pgD ks M T R,.dct (stD (base M T ++ cd))]) (if_f (not_ok (x:=true) (tr_ok (call_ok (xs:=[.dct (stD (base M T ++ cd)),pgD ks M T R]) (cons_ok rfl (cons_ok rfl rfl)) r))) rfl) ?_
 refine seq_ok (ρ':=[.scr (ns.map D.int),pgD ks M T R,.dct []]) (by
  show (if (stD (base M T ++ cd)).all (fun p=>!isTup p.1) then Res.ok (Fl.nx [.scr (ns.map D.int),pgD ks M T R,.dct []]) else .bad) = _
  rw [if_pos (st_flat _)]) ?_
 exact ret_ok (call_ok (xs:=[.dct (stD (base M T ++ cd)),pgD ks M T R]) (cons_ok (call_ok (xs:=[pgD ks M T R]) (cons_ok rfl rfl) s) (cons_ok rfl rfl)) r) rfl
end Lk61
end
section
open PySem PySem.W PyProof.Rows
set_option maxRecDepth 100000 in
set_option maxHeartbeats 0 in
theorem PySem.Challenge.cw_hookmill_k61_stock_holds : PySem.Challenge.rw_hookmill_k61_stock.Holds := by
 w_on;o_law;k_head;(case hw=>w_witness2)
 k_fill
 refine Lk61.walk (l:=PySem.Challenge.rw_hookmill_k61_stock) Lk61.main rfl rfl (fun w h Y=>PySem.W.kIn_of Y) ?F
 case F=>
  intro w mg fa h KX G hmg
  refine' Lk61.all_mk KX G hmg ?a0 ?l0 ?c0 ?k0 ?a1 ?l1 ?c1 ?k1 ?a2 ?l2 ?c2 ?k2 ?a3 ?l3 ?c3 ?k3 ?a4 ?l4 ?c4 ?k4 ?t4 ?a5 ?l5 ?c5 ?k5 ?a6 ?l6 ?c6 ?k6 ?a7 ?l7 ?c7 ?k7 ?a8 ?l8 ?c8 ?k8 ?a9 ?l9 ?c9 ?k9 ?a10 ?l10 ?c10 ?k10 ?z_len ?z_min ?z_max ?z_list ?z_tuple ?z_sorted ?z_range ?z_isinstance ?z_int ?z_bool ?z_str ?z_dict ?z_all ?z_enumerate ?z_sum ?z_zip ?z_abs ?z_reversed
  (case a0=>k_is)
  (case l0=>k_is)
  (case c0=>k_is)
  (case k0=>k_is)
  (case a1=>k_is)
  (case l1=>k_is)
  (case c1=>k_is)
  (case k1=>k_is)
  (case a2=>k_is)
  (case l2=>k_is)
  (case c2=>k_is)
  (case k2=>k_is)
  (case a3=>k_is)
  (case l3=>k_is)
  (case c3=>k_is)
  (case k3=>k_is)
  (case a4=>k_is)
  (case l4=>k_is)
  (case c4=>k_is)
  (case k4=>k_is)
  (case t4=>k_is)
  (case a5=>k_is)
  (case l5=>k_is)
  (case c5=>k_is)
  (case k5=>k_is)
  (case a6=>k_is)
  (case l6=>k_is)
  (case c6=>k_is)
  (case k6=>k_is)
  (case a7=>k_is)
  (case l7=>k_is)
  (case c7=>k_is)
  (case k7=>k_is)
  (case a8=>k_is)
  (case l8=>k_is)
  (case c8=>k_is)
  (case k8=>k_is)
  (case a9=>k_is)
  (case l9=>k_is)
  (case c9=>k_is)
  (case k9=>k_is)
  (case a10=>k_is)
  (case l10=>k_is)
  (case c10=>k_is)
  (case k10=>k_is)
  (case z_len=>k_is)
  (case z_min=>k_is)
  (case z_max=>k_is)
  (case z_list=>k_is)
  (case z_tuple=>k_is)
  (case z_sorted=>k_is)
  (case z_range=>k_is)
  (case z_isinstance=>k_is)
  (case z_int=>k_is)
  (case z_bool=>k_is)
  (case z_str=>k_is)
  (case z_dict=>k_is)
  (case z_all=>k_is)
  (case z_enumerate=>k_is)
  (case z_sum=>k_is)
  (case z_zip=>k_is)
  (case z_abs=>k_is)
  (case z_reversed=>k_is)
end
