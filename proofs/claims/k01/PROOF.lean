import PyProof.Rows.All
import Wide.All
import OpenK.AllK
import Wide.FinOn
import PyProof.EqAt
import PyProof.EqKinds
import PyProof.TupleCall
import Lean
import PyProof.Rows.SortRuns
import PySem.Syntax
import PyProof.NeKinds
import PyProof.WalkInts
import KE.KDictList
import PyProof.CompUse
import PyProof.StrWalks
import PyProof.EnumMake
import PyProof.EnumFor
import PyProof.StrCalls2
import PyProof.StrBlock2
import PyProof.StrBlockI
import PyProof.SliceStr2
import PyProof.ConsumeWalk
import PyProof.StrLawsJoin
import KE.KTryMore
import KE.KTryDeep
import OpenK.KOwn
import PyProof.ExcClass3
import KE.KIsAll
import PyProof.ExcArgsOwn
import PyProof.NsDelKeeps
import PySem.Challenge.RW_hookmill_k01_mates
set_option Elab.async false
set_option linter.all false
set_option autoImplicit false
set_option genSizeOfSpec false
set_option genInjectivity true
section
set_option Elab.async false
set_option maxRecDepth 100000
namespace L2
open PySem PySem.Spec PyProof.Rows
noncomputable abbrev Key:=Sum Int Str
noncomputable def keyIs : Key->Value->Bool
 | .inl k,v=>Value.isInt k v
 | .inr x,v=>Value.isStrOf x v
noncomputable def keyH (w : World) : Key->Int
 | .inl k=>hashInt k
 | .inr x=>hashStr w x
theorem keyIs_shape : ∀ {k : Key} {v : Value},keyIs k v = true->(∃ i t,k = Sum.inl i/\v = Value.int i t)\/(∃ x t,k = Sum.inr x/\v = Value.str x t)
 | .inl i,v,h=>by
  obtain ⟨t,e⟩:=Value.isInt_shape (k:=i) (v:=v) h
  exact .inl ⟨i,t,rfl,e⟩
 | .inr x,v,h=>by
  obtain ⟨t,e⟩:=Value.isStrOf_shape (x:=x) (v:=v) h
  exact .inr ⟨x,t,rfl,e⟩
theorem keyIs_int (i : Int) (t : Tok) : keyIs (.inl i) (.int i t) = true:=by simp [keyIs,Value.isInt]
theorem keyIs_str (x : Str) (t : Tok) : keyIs (.inr x) (.str x t) = true:=by simp [keyIs,Value.isStrOf]
theorem key_ll (a b : Int) : decide ((Sum.inl a : Key) = Sum.inl b) = (a == b):=by
 by_cases e : a = b
 ·subst e;simp
 ·have h : ¬ (Sum.inl a : Key) = Sum.inl b:=fun q=>e (Sum.inl.inj q)
  rw [decide_eq_false h]
  exact (beq_eq_false_iff_ne.mpr e).symm
theorem key_rr (a b : Str) : decide ((Sum.inr a : Key) = Sum.inr b) = decide (a = b):=by
 by_cases e : a = b
 ·subst e;simp
 ·have h : ¬ (Sum.inr a : Key) = Sum.inr b:=fun q=>e (Sum.inr.inj q)
  rw [decide_eq_false h,decide_eq_false e]
theorem key_lr (a : Int) (b : Str) : decide ((Sum.inl a : Key) = Sum.inr b) = false:=decide_eq_false (fun q=>nomatch q)
theorem key_rl (a : Str) (b : Int) : decide ((Sum.inr a : Key) = Sum.inl b) = false:=decide_eq_false (fun q=>nomatch q)
noncomputable def mixKind (prog : Program) (w : World) : PySem.KeyKind prog w Key where
 is:=keyIs
 hash:=keyH w
 inj:=fun v a b ha hb=>by
  rcases keyIs_shape ha with ⟨i,t,rfl,rfl⟩ | ⟨x,t,rfl,rfl⟩
  ·rcases keyIs_shape hb with ⟨j,u,rfl,e⟩ | ⟨y,u,rfl,e⟩
   ·injection e with e1 _;rw [e1]
   ·exact nomatch e
  ·rcases keyIs_shape hb with ⟨j,u,rfl,e⟩ | ⟨y,u,rfl,e⟩
   ·exact nomatch e
   ·injection e with e1 _;rw [e1]
 byValue:=fun k v h=>by
  rcases keyIs_shape h with ⟨i,t,rfl,rfl⟩ | ⟨x,t,rfl,rfl⟩ <;> rfl
 pyHash:=fun hv h=>by
  rcases keyIs_shape hv with ⟨i,t,rfl,rfl⟩ | ⟨x,t,rfl,rfl⟩
  ·exact wpAny_pyHash_int h
  ·exact wpAny_pyHash_str h
 eqBool:=fun hu hv h=>by
  rcases keyIs_shape hu with ⟨i,t,rfl,rfl⟩ | ⟨x,t,rfl,rfl⟩
  ·rcases keyIs_shape hv with ⟨j,u,rfl,rfl⟩ | ⟨y,u,rfl,rfl⟩
   ·rw [key_ll] at h;exact wpAny_eqBool_int h
   ·rw [key_lr] at h;exact SeqAt.EqAt.int_str i t y u _ _ _ _ h
  ·rcases keyIs_shape hv with ⟨j,u,rfl,rfl⟩ | ⟨y,u,rfl,rfl⟩
   ·rw [key_rl] at h;exact SeqAt.EqAt.str_int x t j u _ _ _ _ h
   ·rw [key_rr] at h;exact wpAny_eqBool_str h
 «strs»:=fun k x t v h=>by
  rcases keyIs_shape h with ⟨i,u,rfl,e⟩ | ⟨y,u,rfl,e⟩
  ·exact nomatch e
  ·injection e with e1 _
   subst e1
   cases v <;> rfl
theorem mixKind_int (prog : Program) (w : World) (i : Int) (t : Tok) : (mixKind prog w).is (.inl i) (.int i t) = true:=keyIs_int i t
theorem mixKind_str (prog : Program) (w : World) (x : Str) (t : Tok) : (mixKind prog w).is (.inr x) (.str x t) = true:=keyIs_str x t
end L2
namespace L2
open PySem PySem.Spec PyProof.Rows
inductive V where
 | non | bl (b : Bool) | int (i : Int) | str (x : Str) | byt (b : Array UInt8) | flt (b : UInt64) | ref (a : Addr) | ty (n : String)
 deriving DecidableEq
noncomputable def RelV : V->Value->Prop
 | .non,u=>u = Value.none
 | .bl b,u=>u = Value.bool b
 | .int i,u=>∃ t,u = Value.int i t
 | .str x,u=>∃ t,u = Value.str x t
 | .byt b,u=>∃ t,u = Value.bytes b t
 | .flt b,u=>∃ t,u = Value.float b t
 | .ref a,u=>u = Value.ref a
 | .ty n,u=>u = Value.type n
noncomputable abbrev Vals : List V->List Value->Prop:=Paired RelV
theorem Vals.length {xs : List V} {us : List Value} (r : Vals xs us) : xs.length = us.length:=Paired.length r
theorem Vals.get : ∀ {xs : List V} {us : List Value} {i : Nat} {x : V},Vals xs us->xs[i]? = some x->∃ u,us[i]? = some u/\RelV x u
 | _,_,_,_,.nil,e=>by simp at e
 | _,_,0,_,.cons r _,e=>by simp at e;subst e;exact ⟨_,rfl,r⟩
 | _,_,i + 1,x,.cons _ t,e=>by
  obtain ⟨u,h1,h2⟩:=Vals.get (i:=i) (x:=x) t (by simpa using e)
  exact ⟨u,by simpa using h1,h2⟩
theorem Vals.append : ∀ {xs ys : List V} {us ws : List Value},Vals xs us->Vals ys ws->Vals (xs ++ ys) (us ++ ws)
 | _,_,_,_,.nil,s=>s
 | _,_,_,_,.cons r t,s=>.cons r (Vals.append t s)
theorem Vals.take : ∀ {xs : List V} {us : List Value} (n : Nat),Vals xs us->Vals (xs.take n) (us.take n)
 | _,_,0,_=>.nil
 | _,_,_ + 1,.nil=>.nil
 | _,_,n + 1,.cons r t=>.cons r (Vals.take n t)
theorem Vals.drop : ∀ {xs : List V} {us : List Value} (n : Nat),Vals xs us->Vals (xs.drop n) (us.drop n)
 | _,_,0,r=>r
 | _,_,_ + 1,.nil=>.nil
 | _,_,n + 1,.cons _ t=>Vals.drop n t
noncomputable def RelO : Option V->Option Value->Prop
 | some v,some u=>RelV v u
 | none,none=>True
 | _,_=>False
noncomputable def KV {κ : Type} : List (κ × V)->List (κ × Value)->Prop:=Paired fun (p : κ × V) (q : κ × Value)=>p.1 = q.1/\RelV p.2 q.2
noncomputable def kV : Key->V
 | .inl i=>.int i
 | .inr x=>.str x
inductive HO where
 | lst (xs : List V)
 | tup (xs : List V)
 | dK (kvs : List (Key × V)) | dT (kvs : List (List Key × V))
 | set (S : Int->Bool) (n : Nat)
 | ins (C dx : Addr) (fs : List (Str × V))
 | own (x : Addr)
 | xd (fs : List (Str × V))
 | met (f x : Addr)
 | rng (lo hi : Int)
 | frz (o : Obj) (u : HO)
 | tbl (ps : Array Value)
 | ext (φ : Heap->Prop)
noncomputable abbrev Hp:=Addr->Option HO
noncomputable def upd (H : Hp) (a : Addr) (o : HO) : Hp:=fun b=>if b = a then some o else H b
theorem upd_same {H : Hp} {a : Addr} {o : HO} : upd H a o a = some o:=by unfold upd;rw [if_pos rfl]
theorem upd_ne {H : Hp} {a b : Addr} {o : HO} (h : b ≠ a) : upd H a o b = H b:=by unfold upd;rw [if_neg h]
theorem upd_upd {H : Hp} {a : Addr} {o u : HO} : upd (upd H a o) a u = upd H a u:=by
 funext b;unfold upd;split <;> rfl
theorem ne_of {H : Hp} {a b : Addr} {o u : HO} (h : H a = some o) (h' : H b = some u) (d : o ≠ u) : a ≠ b:=by
 intro e;subst e;rw [h] at h';exact d (Option.some.inj h')
theorem ne_of_none {H : Hp} {a b : Addr} {o : HO} (h : H a = some o) (h' : H b = none) : a ≠ b:=by
 intro e;subst e;rw [h] at h';cases h'
noncomputable def IsTupN (h : Heap) (a : Addr) (its : Array Value) : Prop:=∃ o,h.get? a = some o/\o.cls = .type "tuple"/\∃ n,(o.data,o.dict) = (Data.seq its n,none)
theorem IsTupN.tup {h : Heap} {a : Addr} {its : Array Value} (t : IsTupN h a its) : IsTup h a its:=let ⟨o,e,c,n,d⟩:=t;⟨o,e,c,n,congrArg (·.1) d⟩
theorem IsTupN.bare {h : Heap} {a : Addr} {its : Array Value} (t : IsTupN h a its) : ∃ o,h.get? a = some o/\o.dict = none:=let ⟨o,e,_,_,d⟩:=t;⟨o,e,congrArg (·.2) d⟩
theorem IsTupN.new (h : Heap) (items : Array Value) : IsTupN (h.push { cls:=.type "tuple",data:=.seq items }) h.objs.size items:=⟨_,Heap.get?_push_size _ rfl,rfl,_,rfl⟩
section
variable (P : Program) (w : World)
noncomputable def ObjOk (H : Hp) (h : Heap) (a : Addr) : HO->Prop
 | .lst xs=>xs.length<=sizeLine/\∃ (its : List Value) (n : Nat),Vals xs its/\h.get? a = some { cls:=.type "list",data:=.seq its.toArray n }
 | .tup xs=>xs.length<=sizeLine/\∃ its : List Value,Vals xs its/\IsTupN h a its.toArray
 | .dK kvs=>kvs.length<=sizeLine/\(a == sysModules) = false/\∃ vs,KV kvs vs/\h.DictOf (mixKind P w) a vs
 | .dT kvs=>kvs.length<=sizeLine/\(a == sysModules) = false/\∃ xs : List (List Key × Addr × Value),
   Paired (fun (p : List Key × V) (q : List Key × Addr × Value)=>p.1 = q.1/\H q.2.1 = some (.tup (p.1.map kV))/\RelV p.2 q.2.2) kvs xs/\
   ∃ o es ep,h.get? a = some o/\o.ExactDict/\o.data = .dict es ep/\es.toList = xs.map (entryOfKey (tupleKind (mixKind P w)))/\(xs.map (·.1)).Nodup
 | .set S n=>h.SetOf (intKind P w) a S n
 | .ins C dx fs=>H dx = some (.own a)/\fs.length<=1000/\dx ≠ a/\h.get? a = some (PySem.W.instObj C dx)/\
   ∃ mA,h.Ns1 dx mA/\(∀ f,RelO (fs.lookup f) (mA f))/\PySem.Within mA (fs.map (·.1))
 | .own _=>∃ o,h.get? a = some o
 | .xd fs=>∃ mA,h.Ns1 a mA/\∀ f,RelO (fs.lookup f) (mA f)
 | .rng lo hi=>∃ t u v,h.get? a = some { cls:=.type "range",data:=.fields #[.int lo t,.int hi u,.int 1 v] }
 | .frz o u=>h.get? a = some o/\ObjOk H h a u
 | .tbl ps=>h.get? a = some { cls:=.none,data:=.fields ps }
 | .met f x=>h.get? a = some (PySem.W.methodObj (.ref f) (.ref x))
 | .ext φ=>φ h/\(∃ o,h.get? a = some o)/\∀ h1 h2 : Heap,φ h1->(∀ o,h1.get? a = some o->h2.get? a = some o)->φ h2
noncomputable def HOk (H : Hp) (h : Heap) : Prop:=∀ a o,H a = some o->ObjOk P w H h a o
end
section
variable {P : Program} {w : World} {H H' : Hp} {h h' : Heap} {a : Addr} {o : HO}
theorem ObjOk.lt (x : ObjOk P w H h a o) : a < h.objs.size:=by
 cases o with
 | lst xs=>obtain ⟨_,_,_,_,e⟩:=x;exact Heap.lt_size e
 | tup xs=>obtain ⟨_,_,_,p⟩:=x;exact p.tup.lt
 | dK kvs=>obtain ⟨_,_,_,_,o,_,_,e,_⟩:=x;exact Heap.lt_size e
 | dT kvs=>obtain ⟨_,_,_,_,o,_,_,e,_⟩:=x;exact Heap.lt_size e
 | set S n=>obtain ⟨o,_,_,_,e,_⟩:=x;exact Heap.lt_size e
 | ins C dx fs=>obtain ⟨_,_,_,e,_⟩:=x;exact Heap.lt_size e
 | own y=>obtain ⟨_,e⟩:=x;exact Heap.lt_size e
 | xd fs=>obtain ⟨_,⟨_,_,_,e,_⟩,_⟩:=x;exact Heap.lt_size e
 | rng lo hi=>obtain ⟨_,_,_,e⟩:=x;exact Heap.lt_size e
 | frz ob u=>obtain ⟨e,_⟩:=x;exact Heap.lt_size e
 | tbl ps=>exact Heap.lt_size (show h.get? a = some _ from x)
 | met f y=>exact Heap.lt_size (show h.get? a = some _ from x)
 | ext φ=>obtain ⟨_,⟨_,e⟩,_⟩:=x;exact Heap.lt_size e
theorem Paired.mapP {α β : Type} {F G : α->β->Prop} : ∀ {l₁ : List α} {l₂ : List β},Paired F l₁ l₂->(∀ a b,F a b->G a b)->Paired G l₁ l₂
 | _,_,.nil,_=>.nil
 | _,_,.cons r t,f=>.cons (f _ _ r) (Paired.mapP t f)
theorem ObjOk.stay (x : ObjOk P w H h a o) (k : ∀ b u,(b = a\/H b = some (.own a))->h.get? b = some u->h'.get? b = some u)
  (ho : ∀ b,H b = some (.own a)->H' b = some (.own a)) (ht : ∀ b xs,H b = some (.tup xs)->H' b = some (.tup xs)) : ObjOk P w H' h' a o:=by
 induction o with
 | lst xs=>obtain ⟨z,its,n,r,e⟩:=x;exact ⟨z,its,n,r,k _ _ (.inl rfl) e⟩
 | tup xs=>obtain ⟨z,its,r,ob,e,c⟩:=x;exact ⟨z,its,r,ob,k _ _ (.inl rfl) e,c⟩
 | dK kvs=>obtain ⟨z,y,vs,r,ob,es,ep,e,c⟩:=x;exact ⟨z,y,vs,r,ob,es,ep,k _ _ (.inl rfl) e,c⟩
 | dT kvs=>
  obtain ⟨z,y,xs,r,ob,es,ep,e,c⟩:=x
  exact ⟨z,y,xs,Paired.mapP r fun p q z=>⟨z.1,ht _ _ z.2.1,z.2.2⟩,ob,es,ep,k _ _ (.inl rfl) e,c⟩
 | set S n=>obtain ⟨ob,es,ep,t,e,c⟩:=x;exact ⟨ob,es,ep,t,k _ _ (.inl rfl) e,c⟩
 | ins C dx fs=>
  obtain ⟨d,z,ne,e,mA,⟨od,es,ep,e2,c⟩,r⟩:=x
  exact ⟨ho _ d,z,ne,k _ _ (.inl rfl) e,mA,⟨od,es,ep,k _ _ (.inr d) e2,c⟩,r⟩
 | own y=>obtain ⟨ob,e⟩:=x;exact ⟨ob,k _ _ (.inl rfl) e⟩
 | xd fs=>obtain ⟨mA,⟨od,es,ep,e,c⟩,r⟩:=x;exact ⟨mA,⟨od,es,ep,k _ _ (.inl rfl) e,c⟩,r⟩
 | rng lo hi=>obtain ⟨t,u,v,e⟩:=x;exact ⟨t,u,v,k _ _ (.inl rfl) e⟩
 | frz ob u ih=>obtain ⟨e,q⟩:=x;exact ⟨k _ _ (.inl rfl) e,ih q⟩
 | tbl ps=>
  have e : h.get? a = some { cls:=.none,data:=.fields ps }:=x
  show h'.get? a = some { cls:=.none,data:=.fields ps }
  exact k a _ (.inl rfl) e
 | met f y=>
  have e : h.get? a = some (PySem.W.methodObj (.ref f) (.ref y)):=x
  show h'.get? a = some (PySem.W.methodObj (.ref f) (.ref y))
  exact k a _ (.inl rfl) e
 | ext φ=>obtain ⟨p,⟨o,e⟩,st⟩:=x;exact ⟨st _ _ p fun o q=>k _ _ (.inl rfl) q,⟨o,k _ _ (.inl rfl) e⟩,st⟩
theorem HOk.lt (x : HOk P w H h) (e : H a = some o) : a < h.objs.size:=(x a o e).lt
theorem HOk.fresh (x : HOk P w H h) (e : h.objs.size<=a) : H a = none:=by
 cases q : H a with
 | none=>rfl
 | some u=>exact absurd (Nat.lt_of_lt_of_le (x.lt q) e) (Nat.lt_irrefl _)
theorem HOk.kept (x : HOk P w H h) (k : ∀ b u,h.get? b = some u->h'.get? b = some u) : HOk P w H h':=fun a o e=>
 (x a o e).stay (fun b u _ q=>k b u q) (fun _ q=>q) fun _ _ q=>q
theorem HOk.laid (x : HOk P w H h) (k : ∀ b u,h.get? b = some u->h'.get? b = some u) (hp : h.objs.size<=a) (new : ObjOk P w (upd H a o) h' a o) : HOk P w (upd H a o) h':=fun b u e=>by
 have hn:=x.fresh hp
 by_cases hb : b = a
 ·subst hb;rw [upd_same] at e;cases e;exact new
 ·rw [upd_ne hb] at e
  exact (x b u e).stay (fun c v _ q=>k c v q) (fun c q=>by rw [upd_ne (ne_of_none q hn)];exact q) fun c xs q=>by rw [upd_ne (ne_of_none q hn)];exact q
end
noncomputable def Rd (H : Hp) (a : Addr) (u : HO) : Prop:=H a = some u\/∃ o,H a = some (.frz o u)
theorem Rd.ok {P : Program} {w : World} {H : Hp} {h : Heap} {a : Addr} {u : HO} (r : Rd H a u) (x : HOk P w H h) : ObjOk P w H h a u:=by
 rcases r with r | ⟨o,r⟩
 ·exact x a u r
 ·obtain ⟨_,q⟩:=x a _ r
  exact q
noncomputable def Mut : Option HO->Prop
 | some (.lst _)=>True
 | some (.dK _)=>True
 | some (.dT _)=>True
 | some (.set _ _)=>True
 | some (.ins _ _ _)=>True
 | some (.ext _)=>True
 | _=>False
section
variable {P : Program} {w : World} {H : Hp} {h h' : Heap} {x e : Addr} {o' : HO}
theorem HOk.write (ok : HOk P w H h) (mu : Mut (H x)) (he : e = x\/H e = some (.own x)) (k : ∀ b u,b ≠ e->h.get? b = some u->h'.get? b = some u) (heo : ∃ u,h'.get? e = some u)
  (new : ObjOk P w (upd H x o') h' x o') : HOk P w (upd H x o') h':=fun b u q=>by
 have nown : ∀ c y,H c = some (.own y)->c ≠ x:=fun c y r z=>by subst z;rw [r] at mu;exact mu
 have ntup : ∀ c xs,H c = some (.tup xs)->c ≠ x:=fun c xs r z=>by subst z;rw [r] at mu;exact mu
 by_cases hb : b = x
 ·subst hb;rw [upd_same] at q;cases q;exact new
 ·rw [upd_ne hb] at q
  by_cases hbe : b = e
  ·have q' : H b = some (.own x):=by
    rcases he with z | z
    ·exact absurd (hbe.trans z) hb
    ·rw [hbe];exact z
   rw [q] at q';cases q'
   obtain ⟨v,hv⟩:=heo
   exact ⟨v,by rw [hbe];exact hv⟩
  ·refine (ok b u q).stay (fun c v hc r=>k c v ?_ r) (fun c r=>by rw [upd_ne (nown c b r)];exact r) fun c xs r=>by rw [upd_ne (ntup c xs r)];exact r
   rcases hc with rfl | hc
   ·exact hbe
   ·rintro rfl
    rcases he with z | z
    ·exact nown c b hc z
    ·rw [hc] at z;cases z;exact hb rfl
end
structure Un (fs ex : List Addr) (H H' : Hp) (h h' : Heap) : Prop where
 keep : ∀ b o,h.get? b = some o->H b = none->b ∉ fs->b ∉ ex->h'.get? b = some o
 slot : ∀ b o,h.get? b = some o->H b = none->b ∈ fs->b ∉ ex->∃ sl,h'.get? b = some { o with slots:=sl }
 free : ∀ b o,h.get? b = some o->H b = none->b ∉ ex->H' b = none
 there : ∀ b o,h.get? b = some o->b ∉ ex->∃ o',h'.get? b = some o'
 tups : ∀ b xs,H b = some (.tup xs)->H' b = some (.tup xs)
 frzs : ∀ b o u,H b = some (.frz o u)->H' b = some (.frz o u)
 tbls : ∀ b ps,H b = some (.tbl ps)->∃ more,H' b = some (.tbl (ps ++ more))
section
variable {fs fs' ex ex' : List Addr} {H H1 H2 : Hp} {h h1 h2 h' : Heap} {a x e : Addr} {o : HO}
theorem Un.any (u : Un fs ex H H1 h h1) {b : Addr} {ob : Obj} (q : h.get? b = some ob) (n : H b = none) (hx : b ∉ ex) : ∃ sl,h1.get? b = some { ob with slots:=sl }:=by
 by_cases hb : b ∈ fs
 ·exact u.slot b ob q n hb hx
 ·exact ⟨ob.slots,u.keep b ob q n hb hx⟩
theorem Un.kept (k : ∀ b u,h.get? b = some u->h'.get? b = some u) : Un fs ex H H h h':=
 ⟨fun b ob q _ _ _=>k b ob q,fun b ob q _ _ _=>⟨ob.slots,k b ob q⟩,fun _ _ _ n _=>n,fun b ob q _=>⟨ob,k b ob q⟩,fun _ _ q=>q,fun _ _ _ q=>q,fun _ ps q=>⟨#[],by rw [q];simp⟩⟩
theorem Un.refl : Un fs ex H H h h:=Un.kept fun _ _ q=>q
theorem Un.laid (k : ∀ b u,h.get? b = some u->h'.get? b = some u) (hp : h.objs.size<=a) (hn : H a = none) : Un fs ex H (upd H a o) h h' where
 keep:=fun b u q _ _ _=>k b u q
 slot:=fun b u q _ _ _=>⟨u.slots,k b u q⟩
 free:=fun b u q n _=>by rw [upd_ne (Nat.ne_of_lt (Nat.lt_of_lt_of_le (Heap.lt_size q) hp))];exact n
 there:=fun b u q _=>⟨u,k b u q⟩
 tups:=fun b xs q=>by rw [upd_ne (ne_of_none q hn)];exact q
 frzs:=fun b u xs q=>by rw [upd_ne (ne_of_none q hn)];exact q
 tbls:=fun b ps q=>⟨#[],by rw [upd_ne (ne_of_none q hn),q];simp⟩
theorem Un.write (mu : Mut (H x)) (he : e = x\/H e = some (.own x)) (k : ∀ b u,b ≠ e->h.get? b = some u->h'.get? b = some u) (heo : ∃ u,h'.get? e = some u) : Un fs ex H (upd H x o) h h':=by
 have hx : ∀ b,H b = none->b ≠ x:=fun b n z=>by subst z;rw [n] at mu;exact mu
 have hb : ∀ b,H b = none->b ≠ e:=fun b n z=>by
  subst z
  rcases he with r | r
  ·exact hx b n r
  ·rw [n] at r;cases r
 have hm : ∀ b u,H b = some u->¬ Mut (some u)->b ≠ x:=fun b u q nm z=>by subst z;rw [q] at mu;exact nm mu
 refine ⟨fun b u q n _ _=>k b u (hb b n) q,fun b u q n _ _=>⟨u.slots,k b u (hb b n) q⟩,fun b u q n _=>by rw [upd_ne (hx b n)];exact n,fun b u q _=>?_,
  fun b xs q=>by rw [upd_ne (hm b _ q fun z=>z)];exact q,fun b u xs q=>by rw [upd_ne (hm b _ q fun z=>z)];exact q,fun b ps q=>⟨#[],by rw [upd_ne (hm b _ q fun z=>z),q];simp⟩⟩
 by_cases hbe : b = e
 ·subst hbe;exact heo
 ·exact ⟨u,k b u hbe q⟩
end
noncomputable def trk (h : Heap) (H : Hp) : List Addr:=(List.range h.objs.size).filter fun a=>(H a).isSome
noncomputable def hidT (h : Heap) (H : Hp) : Heap:=PySem.W.hideAll h (trk h H)
theorem hidT_size (h : Heap) (H : Hp) : (hidT h H).objs.size = h.objs.size:=PySem.W.hideAll_size _ _
theorem hidT_get {h : Heap} {H : Hp} {b : Addr} {o : Obj} (e : h.get? b = some o) (n : H b = none) : (hidT h H).get? b = some o:=
 PySem.W.hideAll_get _ e fun hm=>by
  have q : (H b).isSome = true:=(List.mem_filter.mp hm).2
  rw [n] at q;simp at q
theorem of_hidT {h : Heap} {H : Hp} {b : Addr} {o : Obj} (e : (hidT h H).get? b = some o) : h.get? b = some o/\H b = none:=by
 have e' : h.get? b = some o:=PySem.W.of_hideAll (trk h H) e
 refine ⟨e',?_⟩
 cases q : H b with
 | none=>rfl
 | some x=>
  have hm : b ∈ trk h H:=List.mem_filter.mpr ⟨List.mem_range.mpr (Heap.lt_size e'),by simp [q]⟩
  have z : (hidT h H).get? b = none:=PySem.W.hideAll_none (trk h H) hm
  rw [z] at e;cases e
end L2
namespace L2
open PySem PySem.Spec PyProof.Rows
structure Mod (K : PySem.W.Frag) (mg : Str->Option Value) (base : Heap) : Prop where
 kin : K.In base
 glob : base.Ns mainGlobals mg
 blt : ∃ mb,base.Ns builtinsNs mb/\∀ x : Str,x ≠ "__name__"->mb x = bootBuiltins x
 nolimit : base.NoLimit
/-- the context: a def's body (or a comprehension's block) running. base: fixed through the whole law; s₀, H₀: the entry; outer: the frames whose slots others may change (a def's callers); stack: all frames that run;
   ex: iterators that were made ahead of the entry and are walked here (a comprehension's); fn: the names whose cells were made at the entry (a def: all; a comprehension's block: its own); calm: not within an except suite; pn: pins that every state bears; xe: what is wanted of an exception that leaves the code -/
structure Cx where
 prog : Program
 w : World
 K : PySem.W.Frag
 mg : Str->Option Value
 base : Heap
 A : Around
 N : List Str
 s₀ : Shared
 H₀ : Hp
 env : Env
 outer : List Env
 stack : List Env
 ex : List Addr
 fn : Str->Bool
 calm : Bool
 pn : List (Addr × Obj)
 xe : Value->Shared->Prop
noncomputable def frs (l : List Env) : List Addr:=l.filterMap (·.frame)
noncomputable abbrev Cx.fs (X : Cx) : List Addr:=frs X.outer
noncomputable def Vis (sc : Scope) (x : Str) : Prop:=sc.names.lookup x = some .local\/sc.names.lookup x = some .cell\/sc.names.lookup x = some .free
noncomputable def Loc (sc : Scope) (x : Str) : Prop:=sc.names.lookup x = some .local\/sc.names.lookup x = some .cell
noncomputable def Look (env : Env) (h : Heap) (m : Str->Option Value) (x : Str) (u : Value) : Prop:=
 (env.kindOf x = some .local/\m x = some u)\/((env.kindOf x = some .cell\/env.kindOf x = some .free)/\∃ c,env.cells.lookup x = some c/\h.IsCell c (some u))
structure Cx.Ok (X : Cx) : Prop where
 mod : Mod X.K X.mg X.base
 kind : X.env.scope.kind = .function
 glob : X.env.globals = mainGlobals
 blt : X.env.builtins = builtinsNs
 above : X.s₀.heap.objs.size<=X.env.locals
 inj : ∀ x y c,X.env.cells.lookup x = some c->X.env.cells.lookup y = some c->x = y
 has : ∀ x,(X.env.kindOf x = some .cell\/X.env.kindOf x = some .free)->∃ c,X.env.cells.lookup x = some c
 cab : ∀ x c,X.fn x = true->X.env.cells.lookup x = some c->X.s₀.heap.objs.size<=c
 hd : X.calm = true->X.A.handled = none
 frames : X.A.frames = some X.stack
 stk : X.stack = X.outer\/(X.stack = X.env :: X.outer/\X.env.frame = some X.env.locals)
 exf : ∀ b ∈ X.ex,b ≠ X.env.locals/\∀ x c,X.env.cells.lookup x = some c->c ≠ b
 bs : ∀ b o,X.base.get? b = some o->X.s₀.heap.get? b = some o/\X.H₀ b = none
 bsz : X.base.objs.size<=X.s₀.heap.objs.size
 noex : ∀ b o,X.base.get? b = some o->b ∉ X.ex
 exfs : ∀ b ∈ X.ex,b ∉ X.fs
 funs : X.s₀.heap.FunFrames X.base X.outer
 frf : ∀ b ∈ X.fs,X.H₀ b = none
structure Inv (X : Cx) (pins : List (Addr × Obj)) (σ : List (Option V)) (H : Hp) (s : Shared) : Prop where
 ok : X.Ok
 os : s.os = X.s₀.os
 bare : AllBare s.gens
 base : Un X.fs X.ex X.H₀ H X.s₀.heap s.heap
 loc : ∃ m,s.heap.Ns X.env.locals m/\∀ (i : Nat) (x : Str) (v : V),X.N[i]? = some x->σ[i]? = some (some v)->Vis X.env.scope x->∃ u,RelV v u/\Look X.env s.heap m x u
 cell : ∀ x c,X.env.cells.lookup x = some c->∃ v,s.heap.IsCell c v
 free : H X.env.locals = none
 freeC : ∀ x c,X.env.cells.lookup x = some c->H c = none
 pin : ∀ p ∈ X.pn ++ pins,s.heap.get? p.1 = some p.2/\H p.1 = none/\p.1 ≠ X.env.locals/\p.1 ∉ X.fs/\∀ v,p.2.data ≠ .cell v
 hok : HOk X.prog X.w H s.heap
 len : σ.length = X.N.length
section
variable {X : Cx} {pins : List (Addr × Obj)} {σ : List (Option V)} {H H' : Hp} {s : Shared} {h' : Heap}
theorem Cx.Ok.nofr (ok : X.Ok) {b : Addr} {o : Obj} (e : X.base.get? b = some o) : b ∉ X.fs:=fun hb=>by
 have:=(ok.funs.mem hb).1
 rw [e] at this;cases this
theorem Inv.bs (I : Inv X pins σ H s) : ∀ b o,X.base.get? b = some o->s.heap.get? b = some o/\H b = none:=fun b o e=>
 ⟨I.base.keep b o (I.ok.bs b o e).1 (I.ok.bs b o e).2 (I.ok.nofr e) (I.ok.noex b o e),I.base.free b o (I.ok.bs b o e).1 (I.ok.bs b o e).2 (I.ok.noex b o e)⟩
theorem Inv.bk (I : Inv X pins σ H s) : ∀ b o,X.base.get? b = some o->s.heap.get? b = some o:=fun b o e=>(I.bs b o e).1
theorem Inv.mod (I : Inv X pins σ H s) : Mod X.K X.mg X.base:=I.ok.mod
theorem Inv.kIn (I : Inv X pins σ H s) : X.K.In s.heap:=I.ok.mod.kin.keeps I.bk
theorem Inv.lt (I : Inv X pins σ H s) : X.env.locals < s.heap.objs.size:=let ⟨_,hn,_⟩:=I.loc;hn.lt
theorem Inv.sz (I : Inv X pins σ H s) : X.s₀.heap.objs.size<=s.heap.objs.size:=Nat.le_trans I.ok.above (Nat.le_of_lt I.lt)
theorem Inv.nofs (I : Inv X pins σ H s) {a : Addr} (h : s.heap.objs.size<=a) : a ∉ X.fs:=fun hb=>by
 obtain ⟨_,o,ho,_⟩:=I.ok.funs.mem hb
 exact absurd (Nat.lt_of_lt_of_le (Heap.lt_size ho) (Nat.le_trans I.sz h)) (Nat.lt_irrefl _)
theorem Inv.cne (I : Inv X pins σ H s) : ∀ x c,X.env.cells.lookup x = some c->c ≠ X.env.locals:=fun x c e z=>by
 obtain ⟨v,o,ho,hd⟩:=I.cell x c e
 obtain ⟨m,⟨o',es,ep,ho',hd',_⟩,_⟩:=I.loc
 rw [z,ho'] at ho;cases ho;rw [hd'] at hd;cases hd
theorem Inv.funs (I : Inv X pins σ H s) : s.heap.FunFrames X.base X.outer:=by
 have all : ∀ (l : List Env),(∀ b ∈ frs l,b ∈ X.fs)->X.s₀.heap.FunFrames X.base l->s.heap.FunFrames X.base l:=by
  intro l
  induction l with
  | nil=>intro _ _;trivial
  | cons env r ih=>
   intro hs hl
   obtain ⟨hk,⟨L,o,hf,hn,ho,hd⟩,hr⟩:=hl
   have hL : L ∈ X.fs:=hs L (by unfold frs;rw [List.filterMap_cons,hf];exact List.mem_cons_self)
   obtain ⟨sl,e⟩:=I.base.slot L o ho (I.ok.frf L hL) hL fun z=>I.ok.exfs L z hL
   exact ⟨hk,⟨L,_,hf,hn,e,hd⟩,ih (fun b hb=>hs b (by unfold frs;rw [List.filterMap_cons,hf];exact List.mem_cons_of_mem _ hb)) hr⟩
 exact all X.outer (fun _ hb=>hb) I.ok.funs
theorem Inv.stack (I : Inv X pins σ H s) : s.heap.FunFrames X.base X.stack:=by
 rcases I.ok.stk with e | ⟨e,hf⟩
 ·rw [e];exact I.funs
 ·rw [e]
  obtain ⟨m,hn,_⟩:=I.loc
  refine .cons (by rw [I.ok.kind];decide) hf hn ?_ I.funs
  exact Heap.get?_none_of_le (Nat.le_trans I.ok.bsz I.ok.above)
theorem Inv.stkSub (I : Inv X pins σ H s) : ∀ b ∈ frs X.stack,b ∈ X.env.locals :: X.fs:=fun b hb=>by
 rcases I.ok.stk with e | ⟨e,hf⟩
 ·rw [e] at hb;exact List.mem_cons_of_mem _ hb
 ·rw [e] at hb
  unfold frs at hb
  rw [List.filterMap_cons,hf] at hb
  exact hb
theorem Inv.stkFree (I : Inv X pins σ H s) : ∀ b ∈ frs X.stack,H b = none:=fun b hb=>by
 rcases List.mem_cons.mp (I.stkSub b hb) with e | hb
 ·rw [e];exact I.free
 ·obtain ⟨_,o,ho,_⟩:=I.ok.funs.mem hb
  exact I.base.free b o ho (I.ok.frf b hb) fun z=>I.ok.exfs b z hb
theorem Inv.step {g' : Array GenState} {t' : Nat} {d' : Drawn} {ch : List Addr} (I : Inv X pins σ H s)
  (hch : ∀ b ∈ ch,(b ∈ X.ex\/X.s₀.heap.objs.size<=b)/\b ≠ X.env.locals/\(∀ x c,X.env.cells.lookup x = some c->c ≠ b)/\∀ p ∈ X.pn ++ pins,p.1 ≠ b)
  (keep : ∀ b o,b ≠ X.env.locals->b ∉ X.fs->b ∉ ch->s.heap.get? b = some o->H b = none->h'.get? b = some o)
  (slot : ∀ b o,b ≠ X.env.locals->b ∈ X.fs->b ∉ ch->s.heap.get? b = some o->H b = none->∃ sl,h'.get? b = some { o with slots:=sl }) (free : ∀ b o,b ∉ ch->s.heap.get? b = some o->H b = none->H' b = none)
  (there : ∀ b o,b ∉ ch->s.heap.get? b = some o->∃ o',h'.get? b = some o')
  (tups : ∀ b xs,H b = some (.tup xs)->H' b = some (.tup xs)) (frzs : ∀ b o u,H b = some (.frz o u)->H' b = some (.frz o u)) (tbls : ∀ b ps,H b = some (.tbl ps)->∃ more,H' b = some (.tbl (ps ++ more)))
  (ns : ∀ m,s.heap.Ns X.env.locals m->h'.Ns X.env.locals m) (hok : HOk X.prog X.w H' h') (hg : AllBare g') :
  Inv X pins σ H' { s with heap:=h',gens:=g',drawn:=d',toks:=t' }:=by
 have neL : ∀ b o,X.s₀.heap.get? b = some o->b ≠ X.env.locals:=fun b o e=>Nat.ne_of_lt (Nat.lt_of_lt_of_le (Heap.lt_size e) I.ok.above)
 have neC : ∀ b o,X.s₀.heap.get? b = some o->b ∉ X.ex->b ∉ ch:=fun b o e hx hb=>by
  rcases (hch b hb).1 with z | z
  ·exact hx z
  ·exact absurd (Nat.lt_of_lt_of_le (Heap.lt_size e) z) (Nat.lt_irrefl _)
 have cellK : ∀ x c,X.env.cells.lookup x = some c->∀ v,s.heap.IsCell c v->h'.IsCell c v:=fun x c e v ⟨o,ho,hd⟩=>by
  have nch : c ∉ ch:=fun z=>(hch c z).2.2.1 x c e rfl
  by_cases hc : c ∈ X.fs
  ·obtain ⟨sl,q⟩:=slot c o (I.cne x c e) hc nch ho (I.freeC x c e)
   exact ⟨_,q,hd⟩
  ·exact ⟨o,keep c o (I.cne x c e) hc nch ho (I.freeC x c e),hd⟩
 refine ⟨I.ok,I.os,hg,⟨fun b o e n hb hx=>?_,fun b o e n hb hx=>?_,fun b o e n hx=>?_,fun b o e hx=>?_,fun b xs e=>tups b xs (I.base.tups b xs e),fun b o xs e=>frzs b o xs (I.base.frzs b o xs e),fun b ps e=>?_⟩,?_,fun x c e=>?_,?_,fun x c e=>?_,fun p hp=>?_,hok,I.len⟩
 ·exact keep b o (neL b o e) hb (neC b o e hx) (I.base.keep b o e n hb hx) (I.base.free b o e n hx)
 ·obtain ⟨sl,e1⟩:=I.base.slot b o e n hb hx
  obtain ⟨sl',e2⟩:=slot b _ (neL b o e) hb (neC b o e hx) e1 (I.base.free b o e n hx)
  exact ⟨sl',e2⟩
 ·obtain ⟨o',e1⟩:=I.base.there b o e hx
  exact free b o' (neC b o e hx) e1 (I.base.free b o e n hx)
 ·obtain ⟨o',e1⟩:=I.base.there b o e hx
  exact there b o' (neC b o e hx) e1
 ·obtain ⟨m1,e1⟩:=I.base.tbls b ps e
  obtain ⟨m2,e2⟩:=tbls b _ e1
  exact ⟨m1 ++ m2,by rw [e2,Array.append_assoc]⟩
 ·obtain ⟨m,hn,hl⟩:=I.loc
  refine ⟨m,ns m hn,fun i x v e1 e2 e3=>?_⟩
  obtain ⟨u,r,l⟩:=hl i x v e1 e2 e3
  refine ⟨u,r,?_⟩
  rcases l with l | ⟨k,c,e,z⟩
  ·exact .inl l
  ·exact .inr ⟨k,c,e,cellK x c e _ z⟩
 ·obtain ⟨v,z⟩:=I.cell x c e
  exact ⟨v,cellK x c e v z⟩
 ·obtain ⟨m,⟨o,_,_,ho,_⟩,_⟩:=I.loc
  exact free _ o (fun z=>(hch _ z).2.1 rfl) ho I.free
 ·obtain ⟨v,o,ho,hd⟩:=I.cell x c e
  exact free c o (fun z=>(hch c z).2.2.1 x c e rfl) ho (I.freeC x c e)
 ·obtain ⟨e,n,ne,nf,d⟩:=I.pin p hp
  have nch : p.1 ∉ ch:=fun z=>(hch p.1 z).2.2.2 p hp rfl
  exact ⟨keep p.1 p.2 ne nf nch e n,free p.1 p.2 nch e n,ne,nf,d⟩
theorem Inv.un {t' : Nat} (I : Inv X pins σ H s) (u : Un X.fs [] H H' s.heap h') (hok : HOk X.prog X.w H' h') : Inv X pins σ H' { s with heap:=h',toks:=t' }:=by
 obtain ⟨m,⟨o,es,ep,ho,r⟩,_⟩:=id I.loc
 obtain ⟨sl,hL⟩:=u.any ho I.free (by simp)
 exact I.step (g':=s.gens) (d':=s.drawn) (ch:=[]) (fun _ z=>nomatch z) (fun b o _ hb _ e n=>u.keep b o e n hb (by simp)) (fun b o _ hb _ e n=>u.slot b o e n hb (by simp)) (fun b o _ e n=>u.free b o e n (by simp)) (fun b o _ e=>u.there b o e (by simp)) u.tups u.frzs u.tbls (fun m' hm=>by
  obtain ⟨o',es',ep',ho',r'⟩:=hm
  rw [ho] at ho';cases ho'
  exact ⟨_,es',ep',hL,r'⟩) hok I.bare
theorem Inv.call {g' : Array GenState} {t' : Nat} {d' : Drawn} {ch : List Addr} (I : Inv X pins σ H s) (u : Un (frs X.stack) ch H H' s.heap h') (hok : HOk X.prog X.w H' h') (hg : AllBare g')
  (hch : ∀ b ∈ ch,(b ∈ X.ex\/X.s₀.heap.objs.size<=b)/\b ≠ X.env.locals/\(∀ x c,X.env.cells.lookup x = some c->c ≠ b)/\∀ p ∈ X.pn ++ pins,p.1 ≠ b) :
  Inv X pins σ H' { s with heap:=h',gens:=g',drawn:=d',toks:=t' }:=by
 obtain ⟨m,⟨o,es,ep,ho,r⟩,_⟩:=id I.loc
 obtain ⟨sl,hL⟩:=u.any ho I.free fun z=>(hch _ z).2.1 rfl
 exact I.step (ch:=ch) hch (fun b o hL hb hc e n=>u.keep b o e n (fun z=>(List.mem_cons.mp (I.stkSub b z)).elim hL hb) hc) (fun b o _ _ hc e n=>u.any e n hc) (fun b o hc e n=>u.free b o e n hc) (fun b o hc e=>u.there b o e hc) u.tups u.frzs u.tbls (fun m' hm=>by
  obtain ⟨o',es',ep',ho',r'⟩:=hm
  rw [ho] at ho';cases ho'
  exact ⟨_,es',ep',hL,r'⟩) hok hg
theorem Inv.turned {t' : Nat} {it : Addr} (I : Inv X pins σ H s) (k : ∀ b o,b ≠ it->s.heap.get? b = some o->h'.get? b = some o) (hn : H it = none) (hL : it ≠ X.env.locals)
  (h1 : it ∈ X.ex\/X.s₀.heap.objs.size<=it) (h2 : ∀ x c,X.env.cells.lookup x = some c->c ≠ it) (h3 : ∀ p ∈ X.pn ++ pins,p.1 ≠ it) : Inv X pins σ H { s with heap:=h',toks:=t' }:=by
 have nit : ∀ b u,H b = some u->b ≠ it:=fun b u e z=>by rw [z,hn] at e;cases e
 refine I.step (g':=s.gens) (d':=s.drawn) (ch:=[it]) (fun b hb=>?_) (fun b o _ _ hc e _=>k b o (fun z=>hc (by simp [z])) e) (fun b o _ _ hc e _=>⟨o.slots,k b o (fun z=>hc (by simp [z])) e⟩) (fun _ _ _ _ n=>n)
  (fun b o hc e=>⟨o,k b o (fun z=>hc (by simp [z])) e⟩) (fun _ _ e=>e) (fun _ _ _ e=>e) (fun b ps e=>⟨#[],by rw [e];simp⟩) (fun m hm=>?_) (fun b u e=>?_) I.bare
 ·have e : b = it:=by simpa using hb
  subst e
  exact ⟨h1,hL,h2,h3⟩
 ·obtain ⟨o,es,ep,ho,r⟩:=hm
  exact ⟨o,es,ep,k _ o (Ne.symm hL) ho,r⟩
 ·refine (I.hok b u e).stay (fun c v hc q=>k c v ?_ q) (fun _ q=>q) fun _ _ q=>q
  rcases hc with z | z
  ·rw [z];exact nit b u e
  ·exact nit c _ z
theorem Inv.tok (I : Inv X pins σ H s) (t : Nat) : Inv X pins σ H { s with toks:=t }:=I.un (h':=s.heap) (t':=t) Un.refl I.hok
theorem Inv.kept {t' : Nat} (I : Inv X pins σ H s) (k : ∀ b u,s.heap.get? b = some u->h'.get? b = some u) : Inv X pins σ H { s with heap:=h',toks:=t' }:=I.un (Un.kept k) (I.hok.kept k)
theorem Inv.laid {a : Addr} {o : HO} {t' : Nat} (I : Inv X pins σ H s) (k : ∀ b u,s.heap.get? b = some u->h'.get? b = some u) (hp : s.heap.objs.size<=a) (new : ObjOk X.prog X.w (upd H a o) h' a o) :
  Inv X pins σ (upd H a o) { s with heap:=h',toks:=t' }:=I.un (Un.laid k hp (I.hok.fresh hp)) (I.hok.laid k hp new)
theorem Inv.write {x e : Addr} {o : HO} {t' : Nat} (I : Inv X pins σ H s) (mu : Mut (H x)) (he : e = x\/H e = some (.own x)) (k : ∀ b u,b ≠ e->s.heap.get? b = some u->h'.get? b = some u) (heo : ∃ u,h'.get? e = some u)
  (new : ObjOk X.prog X.w (upd H x o) h' x o) : Inv X pins σ (upd H x o) { s with heap:=h',toks:=t' }:=I.un (Un.write mu he k heo) (I.hok.write mu he k heo new)
theorem Inv.weak {σ' : List (Option V)} (I : Inv X pins σ H s) (hl : σ'.length = σ.length) (w : ∀ (i : Nat) v,σ'[i]? = some (some v)->σ[i]? = some (some v)) : Inv X pins σ' H s:=
 ⟨I.ok,I.os,I.bare,I.base,let ⟨m,hn,hl'⟩:=I.loc;⟨m,hn,fun i x v e1 e2 e3=>hl' i x v e1 (w i v e2) e3⟩,I.cell,I.free,I.freeC,I.pin,I.hok,hl.trans I.len⟩
theorem Inv.pins_of {pins' : List (Addr × Obj)} (I : Inv X pins σ H s) (h : ∀ p ∈ pins',s.heap.get? p.1 = some p.2/\H p.1 = none/\p.1 ≠ X.env.locals/\p.1 ∉ X.fs/\∀ v,p.2.data ≠ .cell v) : Inv X pins' σ H s:=
 ⟨I.ok,I.os,I.bare,I.base,I.loc,I.cell,I.free,I.freeC,fun p hp=>(List.mem_append.mp hp).elim (fun z=>I.pin p (List.mem_append_left _ z)) (h p),I.hok,I.len⟩
theorem nodup_ix {N : List Str} (hN : N.Nodup) {i j : Nat} {x : Str} (a : N[i]? = some x) (b : N[j]? = some x) : i = j:=by
 obtain ⟨h1,e1⟩:=List.getElem?_eq_some_iff.mp a
 obtain ⟨h2,e2⟩:=List.getElem?_eq_some_iff.mp b
 exact (List.getElem_inj hN).mp (e1.trans e2.symm)
theorem store_ok2 {M : Model} {A : Around} {E : Value->Shared->Prop} {i : Nat} {x : Str} {v : V} {u : Value} {Q : Unit->Shared->Prop} (I : Inv X pins σ H s) (hN : X.N.Nodup) (hi : X.N[i]? = some x) (hx : Loc X.env.scope x) (r : RelV v u)
  (h : ∀ s',Inv X pins (σ.set i (some v)) H s'->(∃ a,Heap.SameBut a s.heap s'.heap/\(a = X.env.locals\/X.env.cells.lookup x = some a))->Q () s') (hf : X.fn x = true\/X.env.scope.names.lookup x = some .local:=by first | exact .inl rfl | exact .inr rfl | assumption) : wpAny M A (storeName X.env x u) Q E s:=by
 obtain ⟨m,hn,hl⟩:=id I.loc
 have hcls : (X.env.scope.kind == .class || (X.env.scope.kind == .module && X.env.locals != X.env.globals)) = false:=by rw [I.ok.kind];rfl
 have hiσ : i < σ.length:=by rw [I.len];exact (List.getElem?_eq_some_iff.mp hi).1
 have cne:=I.cne
 have tracked : ∀ {a : Addr} {h' : Heap},(∃ o,s.heap.get? a = some o/\H a = none)->Heap.SameBut a s.heap h'->HOk X.prog X.w H h':=fun {a h'} ha hs b ob e=>by
  obtain ⟨_,_,hfree⟩:=ha
  refine (I.hok b ob e).stay (fun c w' hc q=>(hs.2 c ?_).trans q) (fun _ q=>q) fun _ _ q=>q
  rintro rfl
  rcases hc with rfl | hc
  ·rw [hfree] at e;cases e
  ·rw [hfree] at hc;cases hc
 rcases hx with hk | hk
 ·refine wpAny_storeName_local hk hn (fun h' hn' hs=>?_) hcls
  obtain ⟨oL,_,_,hoL,_⟩:=id hn
  refine h _ ⟨I.ok,I.os,I.bare,⟨fun b o e n hb hx=>?_,fun b o e n hb hx=>?_,I.base.free,fun b o e hx=>?_,I.base.tups,I.base.frzs,I.base.tbls⟩,⟨_,hn',fun j y v' e1 e2 e3=>?_⟩,fun y c e=>?_,I.free,I.freeC,fun p hp=>?_,tracked ⟨oL,hoL,I.free⟩ hs,by simpa using I.len⟩ ⟨_,hs,.inl rfl⟩
  ·exact (hs.2 b (Nat.ne_of_lt (Nat.lt_of_lt_of_le (Heap.lt_size e) I.ok.above))).trans (I.base.keep b o e n hb hx)
  ·obtain ⟨sl,e1⟩:=I.base.slot b o e n hb hx
   exact ⟨sl,(hs.2 b (Nat.ne_of_lt (Nat.lt_of_lt_of_le (Heap.lt_size e) I.ok.above))).trans e1⟩
  ·obtain ⟨o',e1⟩:=I.base.there b o e hx
   exact ⟨o',(hs.2 b (Nat.ne_of_lt (Nat.lt_of_lt_of_le (Heap.lt_size e) I.ok.above))).trans e1⟩
  ·by_cases hj : j = i
   ·subst hj
    rw [hi] at e1;cases e1
    rw [List.getElem?_set_self hiσ] at e2
    cases e2
    exact ⟨u,r,.inl ⟨hk,by simp⟩⟩
   ·rw [List.getElem?_set_ne (Ne.symm hj)] at e2
    obtain ⟨u',r',q⟩:=hl j y v' e1 e2 e3
    refine ⟨u',r',?_⟩
    rcases q with ⟨k,e⟩ | ⟨k,c,e,z⟩
    ·refine .inl ⟨k,?_⟩
     have : y ≠ x:=fun e=>hj (nodup_ix hN e1 (e ▸ hi))
     simp [this,e]
    ·exact .inr ⟨k,c,e,z.sameBut hs (cne y c e)⟩
  ·obtain ⟨w',z⟩:=I.cell y c e
   exact ⟨w',z.sameBut hs (cne y c e)⟩
  ·obtain ⟨e,n,ne,nf,d⟩:=I.pin p hp
   exact ⟨(hs.2 p.1 ne).trans e,n,ne,nf,d⟩
 ·have hfn : X.fn x = true:=by
   rcases hf with z | z
   ·exact z
   ·rw [z] at hk;cases hk
  obtain ⟨c,hc⟩:=I.ok.has x (.inl hk)
  obtain ⟨w',z⟩:=I.cell x c hc
  refine wpAny_storeName_cell I.ok.kind hk hc z (fun h' hc' hs=>?_)
  obtain ⟨oc,hoc,hocd⟩:=id z
  refine h { s with heap:=h' } ⟨I.ok,I.os,I.bare,⟨fun b o e n hb hx=>?_,fun b o e n hb hx=>?_,I.base.free,fun b o e hx=>?_,I.base.tups,I.base.frzs,I.base.tbls⟩,⟨m,hn.sameBut hs (Ne.symm (cne x c hc)),fun j y v' e1 e2 e3=>?_⟩,fun y c' e=>?_,I.free,I.freeC,fun p hp=>?_,tracked ⟨oc,hoc,I.freeC x c hc⟩ hs,by simpa using I.len⟩ ⟨c,hs,.inr hc⟩
  ·exact (hs.2 b (Nat.ne_of_lt (Nat.lt_of_lt_of_le (Heap.lt_size e) (I.ok.cab x c hfn hc)))).trans (I.base.keep b o e n hb hx)
  ·obtain ⟨sl,e1⟩:=I.base.slot b o e n hb hx
   exact ⟨sl,(hs.2 b (Nat.ne_of_lt (Nat.lt_of_lt_of_le (Heap.lt_size e) (I.ok.cab x c hfn hc)))).trans e1⟩
  ·obtain ⟨o',e1⟩:=I.base.there b o e hx
   exact ⟨o',(hs.2 b (Nat.ne_of_lt (Nat.lt_of_lt_of_le (Heap.lt_size e) (I.ok.cab x c hfn hc)))).trans e1⟩
  ·by_cases hj : j = i
   ·subst hj
    rw [hi] at e1;cases e1
    rw [List.getElem?_set_self hiσ] at e2
    cases e2
    exact ⟨u,r,.inr ⟨.inl hk,c,hc,hc'⟩⟩
   ·rw [List.getElem?_set_ne (Ne.symm hj)] at e2
    obtain ⟨u',r',q⟩:=hl j y v' e1 e2 e3
    refine ⟨u',r',?_⟩
    rcases q with q | ⟨k,c',e,z'⟩
    ·exact .inl q
    ·refine .inr ⟨k,c',e,z'.sameBut hs ?_⟩
     rintro rfl
     exact hj (nodup_ix hN e1 (I.ok.inj _ _ _ e hc ▸ hi))
  ·by_cases hcc : c' = c
   ·subst hcc;exact ⟨_,hc'⟩
   ·obtain ⟨w2,z2⟩:=I.cell y c' e
    exact ⟨w2,z2.sameBut hs hcc⟩
  ·obtain ⟨e,n,ne,nf,d⟩:=I.pin p hp
   refine ⟨(hs.2 p.1 ?_).trans e,n,ne,nf,d⟩
   intro q
   rw [q,hoc] at e
   have q' : oc = p.2:=Option.some.inj e
   exact d w' (by rw [<- q'];exact hocd)
theorem store_ok {M : Model} {A : Around} {E : Value->Shared->Prop} {i : Nat} {x : Str} {v : V} {u : Value} {Q : Unit->Shared->Prop} (I : Inv X pins σ H s) (hN : X.N.Nodup) (hi : X.N[i]? = some x) (hx : Loc X.env.scope x) (r : RelV v u)
  (h : ∀ s',Inv X pins (σ.set i (some v)) H s'->Q () s') (hf : X.fn x = true\/X.env.scope.names.lookup x = some .local:=by first | exact .inl rfl | exact .inr rfl | assumption) : wpAny M A (storeName X.env x u) Q E s:=
 store_ok2 I hN hi hx r (fun s' I' _=>h s' I') hf
theorem Inv.call' {s' : Shared} {ch : List Addr} (I : Inv X pins σ H s) (ho : s'.os = s.os) (u : Un (frs X.stack) ch H H' s.heap s'.heap) (hok : HOk X.prog X.w H' s'.heap) (hg : AllBare s'.gens)
  (hch : ∀ b ∈ ch,(b ∈ X.ex\/X.s₀.heap.objs.size<=b)/\b ≠ X.env.locals/\(∀ x c,X.env.cells.lookup x = some c->c ≠ b)/\∀ p ∈ X.pn ++ pins,p.1 ≠ b) : Inv X pins σ H' s':=by
 obtain ⟨h',g',d',t',o'⟩:=s'
 have e : o' = s.os:=ho
 subst e
 exact I.call (g':=g') (t':=t') (d':=d') u hok hg hch
end
noncomputable abbrev XK:=Value->Option Addr->Hp->Prop
noncomputable abbrev St:=List (Option V)
noncomputable abbrev VK:=V->Hp->Prop
noncomputable abbrev TE:=St->Hp->VK->Prop
noncomputable abbrev TT:=St->Hp->(Bool->Hp->Prop)->Prop
noncomputable abbrev TA:=St->Hp->(List V->Hp->Prop)->Prop
structure Ends where
 nx : St->Hp->Prop
 rt : VK
 bk : St->Hp->Prop:=fun _ _=>False
 ct : St->Hp->Prop:=fun _ _=>False
noncomputable abbrev TS:=Ends->St->Hp->Prop
noncomputable def EP (X : Cx) (pins : List (Addr × Obj)) (σ : St) (Q : VK) (u : Value) (s' : Shared) : Prop:=∃ v H',Inv X pins σ H' s'/\RelV v u/\Q v H'
noncomputable def TP (X : Cx) (pins : List (Addr × Obj)) (σ : St) (Q : Bool->Hp->Prop) (b : Bool) (s' : Shared) : Prop:=∃ H',Inv X pins σ H' s'/\Q b H'
noncomputable def AP (X : Cx) (pins : List (Addr × Obj)) (σ : St) (Q : List V->Hp->Prop) (us : List Value) (s' : Shared) : Prop:=∃ vs H',Inv X pins σ H' s'/\Vals vs us/\Q vs H'
noncomputable def SP (X : Cx) (pins : List (Addr × Obj)) (D : Ends) (f : Flow) (s' : Shared) : Prop:=
 match f with
 | .next=>∃ σ' H',Inv X pins σ' H' s'/\D.nx σ' H'
 | .brk=>∃ σ' H',Inv X pins σ' H' s'/\D.bk σ' H'
 | .cont=>∃ σ' H',Inv X pins σ' H' s'/\D.ct σ' H'
 | .ret u=>∃ v σ' H',Inv X pins σ' H' s'/\RelV v u/\D.rt v H'
noncomputable def PE (X : Cx) (e : Expr) (t : TE) : Prop:=
 ∀ (pins : List (Addr × Obj)) (s : Shared) (σ : St) (H : Hp) (Q : VK),Inv X pins σ H s->t σ H Q->wpAny (model X.prog X.w) X.A (eval e X.env) (EP X pins σ Q) X.xe s
noncomputable def PT (X : Cx) (e : Expr) (t : TT) : Prop:=
 ∀ (pins : List (Addr × Obj)) (s : Shared) (σ : St) (H : Hp) (Q : Bool->Hp->Prop),Inv X pins σ H s->t σ H Q->wpAny (model X.prog X.w) X.A (isTrue e X.env (eval e X.env)) (TP X pins σ Q) X.xe s
noncomputable def PW (X : Cx) (e : Expr) (t : TT) : Prop:=
 ∀ (whole : Sem Value) (pins : List (Addr × Obj)) (s : Shared) (σ : St) (H : Hp) (Q : Bool->Hp->Prop),Inv X pins σ H s->t σ H Q->wpAny (model X.prog X.w) X.A (isTrue e X.env whole) (TP X pins σ Q) X.xe s
theorem PW.pt {X : Cx} {e : Expr} {t : TT} (h : PW X e t) : PT X e t:=h _
noncomputable def PA (X : Cx) (es : List Expr) (t : TA) : Prop:=
 ∀ (pos : Pos) (pins : List (Addr × Obj)) (s : Shared) (σ : St) (H : Hp) (Q : List V->Hp->Prop),Inv X pins σ H s->t σ H Q->wpAny (model X.prog X.w) X.A (spliced (backTo pos (starEach es X.env))) (AP X pins σ Q) X.xe s
noncomputable def PS (X : Cx) (st : Stmt) (t : TS) : Prop:=
 ∀ (pins : List (Addr × Obj)) (s : Shared) (σ : St) (H : Hp) (D : Ends),Inv X pins σ H s->t D σ H->wpAny (model X.prog X.w) X.A (exec st X.env) (SP X pins D) X.xe s
noncomputable def PSs (X : Cx) (st : List Stmt) (t : TS) : Prop:=
 ∀ (pins : List (Addr × Obj)) (s : Shared) (σ : St) (H : Hp) (D : Ends),Inv X pins σ H s->t D σ H->wpAny (model X.prog X.w) X.A (execs st X.env) (SP X pins D) X.xe s
theorem thn {α : Type} {t : Sem α} {Q Q' : α->Shared->Prop} {M : Model} {A : Around} {E : Value->Shared->Prop} {s : Shared} (h : wpAny M A t Q E s) (hQ : ∀ a s,Q a s->Q' a s) : wpAny M A t Q' E s:=wpAny_mono h hQ fun _ _ x=>x
end L2
namespace L2
open PySem PySem.Spec PyProof.Rows
section
variable {X : Cx}
noncomputable def tVar (i : Nat) : TE:=fun σ H Q=>∃ v,σ[i]? = some (some v)/\Q v H
noncomputable def tC (v : V) : TE:=fun _ H Q=>Q v H
theorem pe_var {i : Nat} {x : Str} {pos : Pos} (hN : X.N[i]? = some x) (hv : Vis X.env.scope x) (hd : (x == ("__debug__" : Str)) = false:=by decide) (hcd : (x == ("__classdict__" : Str)) = false:=by decide) : PE X (.Name x pos) (tVar i):=by
 intro pins s σ H Q I h
 obtain ⟨v,e,h⟩:=h
 obtain ⟨m,hn,hl⟩:=I.loc
 obtain ⟨u,r,l⟩:=hl i x v hN e hv
 have fin : EP X pins σ Q u s:=⟨v,H,I,r,h⟩
 rcases l with ⟨hk,hm⟩ | ⟨hk,c,hc,hcell⟩
 ·exact wpAny_Name (wpAny_loadName_local I.ok.kind hk hn hm fin) hd
 ·rcases hk with hk | hk
  ·exact wpAny_Name (wpAny_loadName_cell I.ok.kind hk hc hcell fin) hd
  ·exact wpAny_Name (wpAny_loadName_free I.ok.kind hk hc hcell fin hcd) hd
theorem pe_int {i j pos} : PE X (.Constant (.int i) j pos) (tC (.int i)):=fun _ _ _ H _ I h=>wpAny_Constant_int ⟨.int i,H,I.tok _,⟨_,rfl⟩,h⟩
theorem pe_bl {b j pos} : PE X (.Constant (.bool b) j pos) (tC (.bl b)):=fun _ _ _ H _ I h=>Constant_bool ⟨.bl b,H,I,rfl,h⟩
theorem pe_non {j pos} : PE X (.Constant .none j pos) (tC .non):=fun _ _ _ H _ I h=>Constant_none ⟨.non,H,I,rfl,h⟩
theorem pe_str {x j pos} : PE X (.Constant (.str x) j pos) (tC (.str x)):=fun _ _ _ H _ I h=>Calls.Constant_str ⟨.str x,H,I.tok _,⟨_,rfl⟩,h⟩
noncomputable def Gl (X : Cx) (x : Str) : Prop:=X.env.kindOf x = some .globalImplicit
theorem ld_glob {E : Value->Shared->Prop} {pins : List (Addr × Obj)} {s : Shared} {σ : St} {H : Hp} {x : Str} {u : Value} {pos : Pos} {Q : Value->Shared->Prop} (I : Inv X pins σ H s) (hg : Gl X x) (hm : X.mg x = some u) (h : Q u s)
  (hd : (x == ("__debug__" : Str)) = false:=by decide) : wpAny (model X.prog X.w) X.A (eval (.Name x pos) X.env) Q E s:=
 Calls.Name_function_global I.ok.kind hg (Calls.loadGlobal_global (by rw [I.ok.glob];exact I.mod.glob.keeps I.bk) hm h) hd
theorem ld_blt {E : Value->Shared->Prop} {pins : List (Addr × Obj)} {s : Shared} {σ : St} {H : Hp} {x : Str} {u : Value} {pos : Pos} {Q : Value->Shared->Prop} (I : Inv X pins σ H s) (hg : Gl X x) (hm : X.mg x = none) (hv : bootBuiltins x = some u) (h : Q u s)
  (hn : x ≠ "__name__":=by decide) (hd : (x == ("__debug__" : Str)) = false:=by decide) : wpAny (model X.prog X.w) X.A (eval (.Name x pos) X.env) Q E s:=by
 obtain ⟨mb,h1,h2⟩:=I.mod.blt
 exact Calls.Name_function_global I.ok.kind hg (Calls.loadGlobal_builtin (by rw [I.ok.glob];exact I.mod.glob.keeps I.bk) hm (by rw [I.ok.blt];exact h1.keeps I.bk) ((h2 x hn).trans hv) h) hd
theorem pe_glob {x : Str} {v : V} {u : Value} {pos : Pos} (hg : Gl X x) (hm : X.mg x = some u) (r : RelV v u) (hd : (x == ("__debug__" : Str)) = false:=by decide) : PE X (.Name x pos) (tC v):=
 fun _ _ _ H _ I h=>ld_glob I hg hm ⟨v,H,I,r,h⟩ hd
theorem pe_bltn {x : Str} {v : V} {u : Value} {pos : Pos} (hg : Gl X x) (hm : X.mg x = none) (hv : bootBuiltins x = some u) (r : RelV v u) (hn : x ≠ "__name__":=by decide) (hd : (x == ("__debug__" : Str)) = false:=by decide) : PE X (.Name x pos) (tC v):=
 fun _ _ _ H _ I h=>ld_blt I hg hm hv ⟨v,H,I,r,h⟩ hn hd
variable {a b : Expr} {ta tb : TE} {pos : Pos}
noncomputable def tB (t : TE) : TT:=fun σ H Q=>t σ H fun x H1=>∃ c,x = .bl c/\Q c H1
theorem pt_val {e : Expr} {t : TE} (h : PE X e t) (he : ∀ whole,isTrue e X.env whole = (do let v <- whole;standAt e.pos;holding [v] (truthy v)):=by intro _;rfl) : PT X e (tB t):=by
 intro pins s σ H Q I hw
 refine isTrue_plain (thn (h pins s σ H _ I hw) fun v s1 ⟨x,H1,I1,r1,q1⟩=>?_) (he _)
 obtain ⟨d,rfl,q⟩:=q1
 cases r1
 exact wpAny_truthy_bool ⟨H1,I1,q⟩
variable {tA tB' : TT} {rest : List Expr}
noncomputable def tAnd (t u : TT) : TT:=fun σ H Q=>t σ H fun c H1=>if c = true then u σ H1 Q else Q false H1
noncomputable def tOr (t u : TT) : TT:=fun σ H Q=>t σ H fun c H1=>if c = true then Q true H1 else u σ H1 Q
noncomputable def tNot (t : TT) : TT:=fun σ H Q=>t σ H fun c H1=>Q (!c) H1
theorem pw_and1 (ha : PT X a tA) : PW X (.BoolOp .And [a] pos) tA:=by
 intro wh pins s σ H Q I h
 refine isTrue_and (thn (ha pins s σ H Q I h) fun c s1 e=>?_)
 cases c with
 | true=>exact isTrue_and_nil e
 | false=>exact e
theorem pw_or1 (ha : PT X a tA) : PW X (.BoolOp .Or [a] pos) tA:=by
 intro wh pins s σ H Q I h
 refine isTrue_or (thn (ha pins s σ H Q I h) fun c s1 e=>?_)
 cases c with
 | false=>exact isTrue_or_nil e
 | true=>exact e
theorem pw_and (ha : PT X a tA) (hb : PW X (.BoolOp .And (b :: rest) pos) tB') : PW X (.BoolOp .And (a :: b :: rest) pos) (tAnd tA tB'):=by
 intro wh pins s σ H Q I h
 refine isTrue_and (thn (ha pins s σ H _ I h) fun c s1 ⟨H1,I1,q1⟩=>?_)
 cases c with
 | true=>exact hb wh pins s1 σ H1 Q I1 q1
 | false=>exact ⟨H1,I1,q1⟩
theorem pw_or (ha : PT X a tA) (hb : PW X (.BoolOp .Or (b :: rest) pos) tB') : PW X (.BoolOp .Or (a :: b :: rest) pos) (tOr tA tB'):=by
 intro wh pins s σ H Q I h
 refine isTrue_or (thn (ha pins s σ H _ I h) fun c s1 ⟨H1,I1,q1⟩=>?_)
 cases c with
 | true=>exact ⟨H1,I1,q1⟩
 | false=>exact hb wh pins s1 σ H1 Q I1 q1
theorem pt_not (ha : PT X a tA) : PT X (.UnaryOp .Not a pos) (tNot tA):=by
 intro pins s σ H Q I h
 exact isTrue_not (ha pins s σ H (fun c H1=>Q (!c) H1) I h)
noncomputable def tAndV (ta tb : TE) : TE:=fun σ H Q=>ta σ H fun x H1=>∃ c,x = .bl c/\if c = true then tb σ H1 Q else Q (.bl false) H1
noncomputable def tNotV (ta : TE) : TE:=fun σ H Q=>ta σ H fun x H1=>∃ c,x = .bl c/\Q (.bl (!c)) H1
theorem pe_one {op} {t : TE} (h : PE X a t) : PE X (.BoolOp op [a] pos) t:=fun pins s σ H Q I hw=>BoolOp_one (h pins s σ H Q I hw)
theorem pe_and (ha : PE X a ta) (hb : PE X (.BoolOp .And (b :: rest) pos) tb) : PE X (.BoolOp .And (a :: b :: rest) pos) (tAndV ta tb):=by
 intro pins s σ H Q I h
 refine BoolOp_and (thn (ha pins s σ H _ I h) fun v s1 ⟨x,H1,I1,r1,q1⟩=>?_)
 obtain ⟨c,rfl,q1⟩:=q1
 cases r1
 refine wpAny_truthy_bool ?_
 cases c with
 | true=>exact hb pins s1 σ H1 Q I1 q1
 | false=>exact ⟨.bl false,H1,I1,rfl,q1⟩
theorem pe_not (ha : PE X a ta) : PE X (.UnaryOp .Not a pos) (tNotV ta):=by
 intro pins s σ H Q I h
 refine UnaryOp_ (thn (ha pins s σ H _ I h) fun v s1 ⟨x,H1,I1,r1,q1⟩=>?_)
 obtain ⟨c,rfl,q1⟩:=q1
 cases r1
 exact not_of (wpAny_truthy_bool ⟨.bl (!c),H1,I1,rfl,q1⟩)
end
end L2
namespace L2
open PySem PySem.Spec PyProof.Rows
noncomputable def SqL (K : PySem.W.Frag) (H : Hp) (a : Addr) (xs : List V) : Prop:=
 Rd H a (.lst xs)\/
  ∃ (o : Obj) (its : Array Value) (n : Nat),K.lookup a = some o/\o.cls = .type "list"/\o.dict = none/\o.data = .seq its n/\its.size<=sizeLine/\Vals xs its.toList
noncomputable def SqT (K : PySem.W.Frag) (H : Hp) (a : Addr) (xs : List V) : Prop:=
 Rd H a (.tup xs)\/
  ∃ (o : Obj) (its : Array Value) (n : Nat),K.lookup a = some o/\o.cls = .type "tuple"/\o.data = .seq its n/\its.size<=sizeLine/\Vals xs its.toList
noncomputable def absV : Value->Option V
 | .none=>some .non
 | .bool b=>some (.bl b)
 | .int i _=>some (.int i)
 | .str x _=>some (.str x)
 | .bytes b _=>some (.byt b)
 | .float b _=>some (.flt b)
 | .ref a=>some (.ref a)
 | .type n=>some (.ty n)
 | _=>none
theorem RelV.abs {x : V} {u : Value} (r : RelV x u) : absV u = some x:=by
 cases x with
 | non=>cases r;rfl
 | bl _=>cases r;rfl
 | int _=>obtain ⟨t,rfl⟩:=r;rfl
 | str _=>obtain ⟨t,rfl⟩:=r;rfl
 | byt _=>obtain ⟨t,rfl⟩:=r;rfl
 | flt _=>obtain ⟨t,rfl⟩:=r;rfl
 | ref _=>cases r;rfl
 | ty _=>cases r;rfl
theorem RelV.inj {x y : V} {u : Value} (r : RelV x u) (q : RelV y u) : x = y:=Option.some.inj (r.abs.symm.trans q.abs)
theorem Vals.inj : ∀ {xs ys : List V} {us : List Value},Vals xs us->Vals ys us->xs = ys
 | _,_,_,.nil,.nil=>rfl
 | _,_,_,.cons r t,.cons r' t'=>by rw [r.inj r',Vals.inj t t']
section
variable {X : Cx} {pins : List (Addr × Obj)} {σ : St} {H : Hp} {s : Shared} {a : Addr} {xs ys : List V}
theorem SqL.of {K : PySem.W.Frag} (h : H a = some (.lst xs)) : SqL K H a xs:=.inl (.inl h)
theorem SqT.of {K : PySem.W.Frag} (h : H a = some (.tup xs)) : SqT K H a xs:=.inl (.inl h)
theorem Inv.list (I : Inv X pins σ H s) (h : SqL X.K H a xs) : ∃ its : List Value,Vals xs its/\PlainL s.heap a its.toArray/\xs.length<=sizeLine:=by
 rcases h with h | ⟨o,its,n,hk,hc,hd,hs,hz,r⟩
 ·obtain ⟨z,its,n,r,e⟩:=h.ok I.hok
  exact ⟨its,r,⟨_,n,e,rfl,rfl,rfl⟩,z⟩
 ·refine ⟨its.toList,r,⟨o,n,I.kIn a o hk,hc,hd,by simpa using hs⟩,?_⟩
  have e:=r.length
  simp only [Array.length_toList] at e
  lia
theorem Inv.tuple (I : Inv X pins σ H s) (h : SqT X.K H a xs) : ∃ its : List Value,Vals xs its/\IsTup s.heap a its.toArray/\xs.length<=sizeLine:=by
 rcases h with h | ⟨o,its,n,hk,hc,hs,hz,r⟩
 ·obtain ⟨z,its,r,p⟩:=h.ok I.hok
  exact ⟨its,r,p.tup,z⟩
 ·refine ⟨its.toList,r,⟨o,I.kIn a o hk,hc,n,by simpa using hs⟩,?_⟩
  have e:=r.length
  simp only [Array.length_toList] at e
  lia
theorem Inv.list_inj (I : Inv X pins σ H s) (h : SqL X.K H a xs) (h' : SqL X.K H a ys) : xs = ys:=by
 obtain ⟨its,r,⟨o,n,e,_,_,d⟩,_⟩:=I.list h
 obtain ⟨its',r',⟨o',n',e',_,_,d'⟩,_⟩:=I.list h'
 rw [e] at e';cases e'
 rw [d] at d'
 injection d' with d1 _
 have : its = its':=by simpa using congrArg Array.toList d1
 subst this
 exact r.inj r'
theorem Inv.tuple_inj (I : Inv X pins σ H s) (h : SqT X.K H a xs) (h' : SqT X.K H a ys) : xs = ys:=by
 obtain ⟨its,r,⟨o,e,_,n,d⟩,_⟩:=I.tuple h
 obtain ⟨its',r',⟨o',e',_,n',d'⟩,_⟩:=I.tuple h'
 rw [e] at e';cases e'
 rw [d] at d'
 injection d' with d1 _
 have : its = its':=by simpa using congrArg Array.toList d1
 subst this
 exact r.inj r'
end
noncomputable abbrev Cx.wish (X : Cx) (E : Value->Shared->Prop) : Cx:={ X with xe:=E }
noncomputable abbrev Cx.nox (X : Cx) : Cx:=X.wish fun _ _=>False
theorem Cx.Ok.wish {X : Cx} (ok : X.Ok) (E : Value->Shared->Prop) : (X.wish E).Ok:=
 ⟨ok.mod,ok.kind,ok.glob,ok.blt,ok.above,ok.inj,ok.has,ok.cab,ok.hd,ok.frames,ok.stk,ok.exf,ok.bs,ok.bsz,ok.noex,ok.exfs,ok.funs,ok.frf⟩
theorem Cx.Ok.unwish {X : Cx} {E : Value->Shared->Prop} (ok : (X.wish E).Ok) : X.Ok:=
 ⟨ok.mod,ok.kind,ok.glob,ok.blt,ok.above,ok.inj,ok.has,ok.cab,ok.hd,ok.frames,ok.stk,ok.exf,ok.bs,ok.bsz,ok.noex,ok.exfs,ok.funs,ok.frf⟩
section
variable {X : Cx} {pins : List (Addr × Obj)} {σ : St} {H : Hp} {s : Shared} {E : Value->Shared->Prop}
theorem Inv.wish (I : Inv X pins σ H s) (E : Value->Shared->Prop) : Inv (X.wish E) pins σ H s:=⟨I.ok.wish E,I.os,I.bare,I.base,I.loc,I.cell,I.free,I.freeC,I.pin,I.hok,I.len⟩
theorem Inv.unwish (I : Inv (X.wish E) pins σ H s) : Inv X pins σ H s:=⟨I.ok.unwish,I.os,I.bare,I.base,I.loc,I.cell,I.free,I.freeC,I.pin,I.hok,I.len⟩
theorem SP.unwish {D : Ends} {f : Flow} {s' : Shared} (h : SP (X.wish E) pins D f s') : SP X pins D f s':=by
 cases f with
 | next=>obtain ⟨σ',H',I,q⟩:=h;exact ⟨σ',H',I.unwish,q⟩
 | brk=>obtain ⟨σ',H',I,q⟩:=h;exact ⟨σ',H',I.unwish,q⟩
 | cont=>obtain ⟨σ',H',I,q⟩:=h;exact ⟨σ',H',I.unwish,q⟩
 | ret u=>obtain ⟨v,σ',H',I,r,q⟩:=h;exact ⟨v,σ',H',I.unwish,r,q⟩
theorem PSs.nox {st : List Stmt} {t : TS} (h : PSs X.nox st t) : PSs X st t:=fun pins s σ H D I hw=>
 wpAny_mono (h pins s σ H D (I.wish _) hw) (fun _ _ q=>q.unwish) fun _ _ z=>False.elim z
end
section
variable {X : Cx} {st : Stmt} {rest : List Stmt} {t u : TS} {e : Expr} {te : TE} {pos : Pos}
noncomputable def tNext : TS:=fun D σ H=>D.nx σ H
noncomputable def tSeq (t u : TS) : TS:=fun D σ H=>t { D with nx:=u D } σ H
theorem pss_nil : PSs X [] tNext:=fun _ _ σ H _ I h=>wpAny_execs_nil ⟨σ,H,I,h⟩
theorem pss_cons (h1 : PS X st t) (h2 : PSs X rest u) : PSs X (st :: rest) (tSeq t u):=by
 intro pins s σ H D I h
 refine wpAny_execs_cons (thn (h1 pins s σ H { D with nx:=u D } I h) fun f s1 q=>?_)
 cases f with
 | next=>
  obtain ⟨σ',H',I',q⟩:=q
  exact h2 pins s1 σ' H' D I' q
 | ret v=>exact q
 | brk=>exact q
 | cont=>exact q
theorem pss_one (h1 : PS X st t) : PSs X [st] t:=by
 intro pins s σ H D I h
 refine wpAny_execs_cons (thn (h1 pins s σ H D I h) fun f s1 q=>?_)
 cases f with
 | next=>exact wpAny_execs_nil q
 | ret v=>exact q
 | brk=>exact q
 | cont=>exact q
theorem Inv.quiet {pins : List (Addr × Obj)} {σ : St} {H : Hp} {s : Shared} (I : Inv X pins σ H s) : interactive X.env = false:=by simp [interactive,I.ok.kind]
noncomputable def tDrop (te : TE) : TS:=fun D σ H=>te σ H fun _ H1=>D.nx σ H1
theorem ps_expr (he : PE X e te) (hs : swapsWith e none pos.line X.env = pure false:=by rfl) : PS X (.Expr e pos) (tDrop te):=by
 intro pins s σ H D I h
 exact wpAny_Expr_any (thn (he pins s σ H _ I h) fun v s1 ⟨x,H1,I1,r1,q1⟩=>⟨σ,H1,I1,q1⟩) I.quiet hs
noncomputable def tRet (te : TE) : TS:=fun D σ H=>te σ H D.rt
theorem ps_ret (he : PE X e te) : PS X (.Return (some e) pos) (tRet te):=by
 intro pins s σ H D I h
 exact wpAny_Return_some (thn (he pins s σ H _ I h) fun v s1 ⟨x,H1,I1,r1,q1⟩=>⟨x,σ,H1,I1,r1,q1⟩)
noncomputable def tIfS (c : TT) (t u : TS) : TS:=fun D σ H=>c σ H fun b H1=>if b = true then t D σ H1 else u D σ H1
theorem ps_if {c : Expr} {a b : List Stmt} {tc : TT} (hc : PT X c tc) (ha : PSs X a t) (hb : PSs X b u) : PS X (.If c a b pos) (tIfS tc t u):=by
 intro pins s σ H D I h
 refine wpAny_If (thn (hc pins s σ H _ I h) fun d s1 ⟨H1,I1,q1⟩=>?_)
 cases d with
 | true=>exact ha pins s1 σ H1 D I1 q1
 | false=>exact hb pins s1 σ H1 D I1 q1
end
noncomputable abbrev TG:=V->St->Hp->(St->Hp->Prop)->Prop
noncomputable abbrev TGs:=List V->St->Hp->(St->Hp->Prop)->Prop
noncomputable def PG (X : Cx) (target : Expr) (t : TG) : Prop:=
 ∀ (pins : List (Addr × Obj)) (s : Shared) (σ : St) (H : Hp) (v : V) (u : Value) (Q : St->Hp->Prop),Inv X pins σ H s->RelV v u->t v σ H Q->
  wpAny (model X.prog X.w) X.A (assign target X.env u) (fun _ s'=>∃ σ' H',Inv X pins σ' H' s'/\Q σ' H') X.xe s
noncomputable def PGs (X : Cx) (ts : List Expr) (t : TGs) : Prop:=
 ∀ (pins : List (Addr × Obj)) (s : Shared) (σ : St) (H : Hp) (vs : List V) (us : List Value) (Q : St->Hp->Prop),Inv X pins σ H s->Vals vs us->t vs σ H Q->
  wpAny (model X.prog X.w) X.A (assignInOrder ((assignEach ts X.env).map (·.2)) us) (fun _ s'=>∃ σ' H',Inv X pins σ' H' s'/\Q σ' H') X.xe s
section
variable {X : Cx} {pos : Pos}
noncomputable def gName (i : Nat) : TG:=fun v σ H Q=>Q (σ.set i (some v)) H
theorem pg_name {i : Nat} {x : Str} (hN : X.N.Nodup) (hi : X.N[i]? = some x) (hx : Loc X.env.scope x) (hf : X.fn x = true\/X.env.scope.names.lookup x = some .local:=by first | exact .inl rfl | exact .inr rfl | assumption) : PG X (.Name x pos) (gName i):=by
 intro pins s σ H v u Q I r h
 exact wpAny_assign_Name (store_ok I hN hi hx r (fun s' I'=>⟨_,H,I',h⟩) hf)
noncomputable def gNil : TGs:=fun vs σ H Q=>vs = []/\Q σ H
noncomputable def gCons (t : TG) (u : TGs) : TGs:=fun vs σ H Q=>∃ v r,vs = v :: r/\t v σ H fun σ' H'=>u r σ' H' Q
theorem pgs_nil : PGs X [] gNil:=by
 intro pins s σ H vs us Q I r h
 obtain ⟨e,h⟩:=h
 subst e
 cases r
 exact assignInOrder_nil ⟨σ,H,I,h⟩
theorem pgs_cons {e : Expr} {es : List Expr} {t : TG} {u : TGs} (h1 : PG X e t) (h2 : PGs X es u)
  (hs : (assignEach (e :: es) X.env).map (·.2) = assign e X.env :: (assignEach es X.env).map (·.2):=by rfl) : PGs X (e :: es) (gCons t u):=by
 intro pins s σ H vs us Q I r h
 obtain ⟨v,vr,e1,h⟩:=h
 subst e1
 cases r with
 | cons r rr=>
  rw [hs]
  refine assignInOrder_cons (thn (h1 pins s σ H _ _ _ I r h) fun _ s1 ⟨σ1,H1,I1,q1⟩=>?_)
  exact h2 pins s1 σ1 H1 _ _ Q I1 rr q1
noncomputable def gTup (K : PySem.W.Frag) (n : Nat) (t : TGs) : TG:=fun v σ H Q=>∃ a xs,v = .ref a/\SqT K H a xs/\xs.length = n/\t xs σ H Q
theorem pg_tup {es : List Expr} {k : Nat} {t : TGs} {n : Nat} (hc : X.calm = true) (h : PGs X es t)
  (hn : (assignEach es X.env).length = n:=by rfl) (hst : (assignEach es X.env).findIdx? (·.1) = none:=by rfl) : PG X (.Tuple es k pos) (gTup X.K n t):=by
 intro pins s σ H v u Q I r hw
 obtain ⟨a,xs,e1,hq,hl,hw⟩:=hw
 subst e1
 cases r
 obtain ⟨its,rv,ht,hz⟩:=I.tuple hq
 refine assign_Tuple_tuple (I.ok.hd hc) ht (by simp [hn,<- hl,rv.length]) hst fun h' hx=>?_
 have I1 : Inv X pins σ H { s with heap:=h' }:=I.kept (t':=s.toks) fun b o e=>hx b o (Nat.ne_of_lt (Heap.lt_size e)) e
 exact h pins _ σ H xs _ Q I1 (by simpa using rv) hw
noncomputable def tAsg (te : TE) (g : TG) : TS:=fun D σ H=>te σ H fun x H1=>g x σ H1 D.nx
theorem ps_asg {tg e : Expr} {te : TE} {g : TG} (he : PE X e te) (hg : PG X tg g) (hs : swapsWithSole [tg] e pos.line X.env = pure false:=by rfl) (hw : swappedStores [tg] e X.env = pure none:=by rfl)
  (h1 : (assignEach [tg] X.env).map (·.2) = [assign tg X.env]:=by rfl) : PS X (.Assign [tg] e pos) (tAsg te g):=by
 intro pins s σ H D I h
 refine wpAny_Assign_stores (thn (he pins s σ H _ I h) fun v s1 ⟨x,H1,I1,r1,q1⟩=>?_) hs hw
 rw [h1]
 exact thn (hg pins s1 σ H1 x v _ I1 r1 q1) fun _ s2 q=>q
theorem ps_set {i : Nat} {x : Str} {e : Expr} {te : TE} {pos' : Pos} (hN : X.N.Nodup) (hi : X.N[i]? = some x) (hx : Loc X.env.scope x) (he : PE X e te) (hs : swapsWith e (some (.Name x pos')) pos.line X.env = pure false:=by rfl) (hf : X.fn x = true\/X.env.scope.names.lookup x = some .local:=by first | exact .inl rfl | exact .inr rfl | assumption) :
  PS X (.Assign [.Name x pos'] e pos) (tAsg te (gName i)):=by
 intro pins s σ H D I h
 refine wpAny_Assign_Name (thn (he pins s σ H _ I h) fun v s1 ⟨y,H1,I1,r1,q1⟩=>?_) hs
 exact store_ok I1 hN hi hx r1 (fun s2 I2=>⟨_,H1,I2,q1⟩) hf
end
section
variable {X : Cx} {pos : Pos}
end
structure It where
 go : Nat->Hp->Prop
 yld : Nat->Hp->V->Hp->Prop
 stop : Nat->Hp->Prop
noncomputable def FpOk (X : Cx) (pins : List (Addr × Obj)) (H : Hp) (b : Addr) : Prop:=
 H b = none/\b ≠ X.env.locals/\b ∉ X.fs/\(b ∈ X.ex\/X.s₀.heap.objs.size<=b)/\(∀ x c,X.env.cells.lookup x = some c->c ≠ b)/\∀ p ∈ X.pn ++ pins,p.1 ≠ b
theorem Inv.fpOk {X : Cx} {pins : List (Addr × Obj)} {σ : St} {H H' : Hp} {s : Shared} {b : Addr} (I : Inv X pins σ H s) (hb : s.heap.objs.size<=b) (hn : H' b = none) : FpOk X pins H' b:=by
 refine ⟨hn,Nat.ne_of_gt (Nat.lt_of_lt_of_le I.lt hb),I.nofs hb,.inr (Nat.le_trans I.sz hb),fun x c e z=>?_,fun p hp z=>?_⟩
 ·obtain ⟨v,q⟩:=I.cell x c e
  exact absurd (Nat.lt_of_lt_of_le q.lt (by rw [z];exact hb)) (Nat.lt_irrefl _)
 ·exact absurd (Nat.lt_of_lt_of_le (Heap.lt_size (I.pin p hp).1) (by rw [z];exact hb)) (Nat.lt_irrefl _)
structure Turn (P : Program) (w : World) (K : PySem.W.Frag) (tg : Expr) (J : It) (fp : List Addr) (it : Addr) (tn : Nat->Heap->Prop) : Prop where
 mem : it ∈ fp
 obj : ∀ i h,tn i h->∀ b ∈ fp,∃ o,h.get? b = some o/\∀ v,o.data ≠ .cell v
 keep : ∀ i h h',tn i h->(∀ b ∈ fp,∀ o,h.get? b = some o->h'.get? b = some o)->tn i h'
 item : ∀ (X : Cx),X.prog = P->X.w = w->X.K = K->X.calm = true->∀ (i : Nat) (pins : List (Addr × Obj)) (s : Shared) (σ : St) (H : Hp) (E : Value->Shared->Prop),Inv X pins σ H s->(∀ b ∈ fp,FpOk X pins H b)->tn i s.heap->J.go i H->
  wpAny (model P w) X.A (pyNext (.ref it)) (fun r s1=>∃ u,r = some u/\
   wpAny (model P w) X.A (letOwnedTupleGo tg (.ref it) u) (fun _ s2=>∃ x H',Inv X pins σ H' s2/\RelV x u/\J.yld i H x H'/\tn (i + 1) s2.heap/\∀ b ∈ fp,H' b = none) E s1) E s
 done : ∀ (X : Cx),X.prog = P->X.w = w->X.K = K->X.calm = true->∀ (i : Nat) (pins : List (Addr × Obj)) (s : Shared) (σ : St) (H : Hp) (E : Value->Shared->Prop),Inv X pins σ H s->(∀ b ∈ fp,FpOk X pins H b)->tn i s.heap->J.stop i H->
  wpAny (model P w) X.A (pyNext (.ref it)) (fun r s1=>r = none/\Inv X pins σ H s1) E s
 self : ∀ (A : Around) (i : Nat) (s : Shared) (Q : Value->Shared->Prop) (E : Value->Shared->Prop),tn i s.heap->Q (.ref it) s->wpAny (model P w) A (pyIter (.ref it)) Q E s
noncomputable abbrev TI:=St->Hp->(It->Hp->Prop)->Prop
noncomputable def PIE (X : Cx) (pins : List (Addr × Obj)) (σ : St) (tg : Expr) (R : It->Hp->Prop) (itv : Value) (s2 : Shared) : Prop:=
 ∃ (it : Addr) (fp : List Addr) (tn : Nat->Heap->Prop) (J : It) (H' : Hp),itv = .ref it/\Inv X pins σ H' s2/\Turn X.prog X.w X.K tg J fp it tn/\tn 0 s2.heap/\(∀ b ∈ fp,FpOk X pins H' b)/\R J H'
noncomputable def PI (X : Cx) (tg iter : Expr) (wi : TI) : Prop:=
 ∀ (pins : List (Addr × Obj)) (s : Shared) (σ : St) (H : Hp) (R : It->Hp->Prop),Inv X pins σ H s->wi σ H R->
  wpAny (model X.prog X.w) X.A (eval iter X.env) (fun v s1=>wpAny (model X.prog X.w) X.A (pyIter v) (PIE X pins σ tg R) X.xe s1) X.xe s
theorem go_of {M : Model} {A : Around} {E : Value -> Shared -> Prop} {s : Shared} {tg : Expr} {it : Addr} {u : Value} {o : Obj} {n : String} {vs : Array Value} {Q : Unit -> Shared -> Prop} (ho : s.heap.get? it = some o) (hc : o.cls = .type n) (hd : o.data = .fields vs)
    (hn : ["enumerate", "zip", "dict_itemiterator", "dict_reverseitemiterator", "odict_iterator", "itertools.zip_longest", "itertools.pairwise"].contains n = false) (hQ : Q () s) : wpAny M A (letOwnedTupleGo tg (.ref it) u) Q E s := by
  unfold letOwnedTupleGo
  cases tg <;> first
    | exact wpAny_pure hQ
    | (cases u <;> first
        | exact wpAny_pure hQ
        | (refine wpAny_bind (wpAny_load ho ?_)
           rw [hc, hd]
           show wpAny M A (if (["enumerate", "zip", "dict_itemiterator", "dict_reverseitemiterator", "odict_iterator", "itertools.zip_longest", "itertools.pairwise"].contains n && vs[0]? == some (rawInt _)) = true then _ else _) Q E s
           rw [if_neg (by intro h; rw [hn, Bool.false_and] at h; cases h)]
           exact wpAny_pure hQ))
noncomputable def Itl (K : PySem.W.Frag) (a : Addr) : It:=
 ⟨fun i H=>∃ xs x,SqL K H a xs/\xs[i]? = some x,fun i H x H'=>H' = H/\∀ xs,SqL K H a xs->xs[i]? = some x,fun i H=>∃ xs,SqL K H a xs/\xs.length<=i⟩
noncomputable def Itt (K : PySem.W.Frag) (a : Addr) : It:=
 ⟨fun i H=>∃ xs x,SqT K H a xs/\xs[i]? = some x,fun i H x H'=>H' = H/\∀ xs,SqT K H a xs->xs[i]? = some x,fun i H=>∃ xs,SqT K H a xs/\xs.length<=i⟩
noncomputable def Itr (lo : Int) (n : Nat) : It:=⟨fun i _=>i < n,fun i H x H'=>H' = H/\x = .int (lo + i),fun i _=>n<=i⟩
theorem turn_list {P : Program} {w : World} {K : PySem.W.Frag} {tg : Expr} (a it : Addr) : Turn P w K tg (Itl K a) [it] it (fun i h=>h.IsListIter it a i) where
 mem:=by simp
 obj:=fun i h st b hb=>by
  have e : b = it:=by simpa using hb
  subst e
  obtain ⟨o,e,c,d⟩:=st
  exact ⟨o,e,fun v z=>by rw [d] at z;cases z⟩
 keep:=fun i h h' st k=>st.at fun o e=>k it (by simp) o e
 item:=by
  intro X hP hw hK hc i pins s σ H E I hf st hg
  subst hP hw hK
  obtain ⟨xs,x,hq,hx⟩:=hg
  obtain ⟨its,rv,p,hz⟩:=I.list hq
  obtain ⟨u,hu,ru⟩:=rv.get hx
  obtain ⟨f0,f1,f2,f3,f4,f5⟩:=hf it (by simp)
  refine wpAny_pyNext_list_item st p.isList (x:=u) (by simpa using hu) fun h' st' sb=>?_
  have I1 : Inv X pins σ H { s with heap:=h' }:=I.turned (t':=s.toks) (fun b o hb e=>(sb.2 b hb).trans e) f0 f1 f3 f4 f5
  obtain ⟨o,e,c,d⟩:=id st'
  exact ⟨u,rfl,go_of (s:={ s with heap:=h' }) e c d (by decide) ⟨x,H,I1,ru,⟨rfl,fun ys hy=>by rw [I.list_inj hy hq];exact hx⟩,st',fun b hb=>(hf b hb).1⟩⟩
 done:=by
  intro X hP hw hK hc i pins s σ H E I hf st hg
  subst hP hw hK
  obtain ⟨xs,hq,hx⟩:=hg
  obtain ⟨its,rv,p,hz⟩:=I.list hq
  obtain ⟨f0,f1,f2,f3,f4,f5⟩:=hf it (by simp)
  have hl:=rv.length
  exact wpAny_pyNext_list_end (I.ok.hd hc) st p.isList (by simp;lia) fun h' eb=>⟨rfl,I.turned (t':=s.toks) (fun b o hb e=>eb b o hb e) f0 f1 f3 f4 f5⟩
 self:=fun _ _ _ _ _ st h=>wpAny_pyIter_listiter st h
theorem turn_tuple {P : Program} {w : World} {K : PySem.W.Frag} {tg : Expr} (a it : Addr) : Turn P w K tg (Itt K a) [it] it (fun i h=>h.IsTupleIter it a i) where
 mem:=by simp
 obj:=fun i h st b hb=>by
  have e : b = it:=by simpa using hb
  subst e
  obtain ⟨o,e,c,d⟩:=st
  exact ⟨o,e,fun v z=>by rw [d] at z;cases z⟩
 keep:=fun i h h' st k=>st.at fun o e=>k it (by simp) o e
 item:=by
  intro X hP hw hK hc i pins s σ H E I hf st hg
  subst hP hw hK
  obtain ⟨xs,x,hq,hx⟩:=hg
  obtain ⟨its,rv,p,hz⟩:=I.tuple hq
  obtain ⟨u,hu,ru⟩:=rv.get hx
  obtain ⟨f0,f1,f2,f3,f4,f5⟩:=hf it (by simp)
  refine wpAny_pyNext_tuple_item st (show s.heap.IsTuple a its.toArray from p) (x:=u) (by simpa using hu) fun h' st' sb=>?_
  have I1 : Inv X pins σ H { s with heap:=h' }:=I.turned (t':=s.toks) (fun b o hb e=>(sb.2 b hb).trans e) f0 f1 f3 f4 f5
  obtain ⟨o,e,c,d⟩:=id st'
  exact ⟨u,rfl,go_of (s:={ s with heap:=h' }) e c d (by decide) ⟨x,H,I1,ru,⟨rfl,fun ys hy=>by rw [I.tuple_inj hy hq];exact hx⟩,st',fun b hb=>(hf b hb).1⟩⟩
 done:=by
  intro X hP hw hK hc i pins s σ H E I hf st hg
  subst hP hw hK
  obtain ⟨xs,hq,hx⟩:=hg
  obtain ⟨its,rv,p,hz⟩:=I.tuple hq
  obtain ⟨f0,f1,f2,f3,f4,f5⟩:=hf it (by simp)
  have hl:=rv.length
  exact wpAny_pyNext_tuple_end (I.ok.hd hc) st (show s.heap.IsTuple a its.toArray from p) (by simp;lia) fun h' eb=>⟨rfl,I.turned (t':=s.toks) (fun b o hb e=>eb b o hb e) f0 f1 f3 f4 f5⟩
 self:=fun _ _ _ _ _ st h=>wpAny_pyIter_tupleiter st h
theorem turn_range {P : Program} {w : World} {K : PySem.W.Frag} {tg : Expr} (it : Addr) (lo : Int) (n : Nat) : Turn P w K tg (Itr lo n) [it] it (fun i h=>IsRangeIter h it (lo + (i : Nat) * 1) ((n : Int) - (i : Nat)) 1) where
 mem:=by simp
 obj:=fun i h st b hb=>by
  have e : b = it:=by simpa using hb
  subst e
  exact ⟨_,st,fun v z=>by
   have z' : Data.fields _ = Data.cell v:=z
   cases z'⟩
 keep:=fun i h h' st k=>k it (by simp) _ st
 item:=by
  intro X hP hw hK hc i pins s σ H E I hf st hg
  subst hP hw hK
  obtain ⟨f0,f1,f2,f3,f4,f5⟩:=hf it (by simp)
  have W:=Walks.range (prog:=X.prog) (w:=X.w) (I.ok.hd hc) it lo 1 n
  refine W.item i s _ _ hg st fun v h' tk hv st' kk=>?_
  obtain ⟨t,rfl⟩:=hv
  have I1 : Inv X pins σ H { s with heap:=h',toks:=tk }:=I.turned (fun b o hb e=>kk b o (by simpa using hb) e) f0 f1 f3 f4 f5
  refine ⟨_,rfl,go_of (s:={ s with heap:=h',toks:=tk }) (n := "range_iterator") st' rfl rfl (by decide) ⟨.int (lo + i),H,I1,⟨t,?_⟩,⟨rfl,rfl⟩,st',fun b hb=>(hf b hb).1⟩⟩
  rw [Int.mul_one]
 done:=by
  intro X hP hw hK hc i pins s σ H E I hf st hg
  subst hP hw hK
  obtain ⟨f0,f1,f2,f3,f4,f5⟩:=hf it (by simp)
  exact wpAny_pyNext_range_end (I.ok.hd hc) st (by have : n<=i:=hg;lia) fun h' eb=>⟨rfl,I.turned (t':=s.toks) (fun b o hb e=>eb b o hb e) f0 f1 f3 f4 f5⟩
 self:=fun _ _ _ _ _ st h=>wpAny_pyIter_rangeiter st h
end L2
namespace L2
open PySem PySem.Spec PyProof.Rows
section
variable {X : Cx} {tg : Expr}
theorem range_it {pins : List (Addr × Obj)} {σ : St} {H : Hp} {s : Shared} {R : It->Hp->Prop} {E : Value->Shared->Prop} {lo hi : Int} {t u v : Tok} {tk : Nat} (I : Inv X pins σ H s) (h1 : -(2 ^ 62)<=lo) (h2 : lo < 2 ^ 62) (h3 : -(2 ^ 62)<=hi) (h4 : hi < 2 ^ 62)
  (q : R (Itr lo (hi - lo).toNat) H) : wpAny (model X.prog X.w) X.A (pyIter (.ref s.heap.objs.size)) (PIE X pins σ tg R) E { s with heap:=s.heap.push { cls:=.type "range",data:=.fields #[.int lo t,.int hi u,.int 1 v] },toks:=tk }:=by
 refine wpAny_pyIter_range (IsRange.new ..) (small_one h1 h2 h3 h4) ?_
 have I1 : Inv X pins σ H { s with heap:=s.heap.push { cls:=.type "range",data:=.fields #[.int lo t,.int hi u,.int 1 v] },toks:=tk }:=I.kept fun b o e=>Heap.get?_push_of_some _ e
 refine ⟨(s.heap.push { cls:=.type "range",data:=.fields #[.int lo t,.int hi u,.int 1 v] }).objs.size,[(s.heap.push { cls:=.type "range",data:=.fields #[.int lo t,.int hi u,.int 1 v] }).objs.size],_,_,H,rfl,
  I1.kept (t':=tk) fun b o e=>Heap.get?_push_of_some _ e,turn_range _ lo (hi - lo).toNat,?_,fun b hb=>?_,q⟩
 ·have e1 : lo + ((0 : Nat) : Int) * 1 = lo:=by simp
  have e2 : (((hi - lo).toNat : Nat) : Int) - ((0 : Nat) : Int) = Builtin.Range.rangeSize lo hi 1:=by rw [rangeSize_one];split <;> lia
  show IsRangeIter _ _ (lo + ((0 : Nat) : Int) * 1) ((((hi - lo).toNat : Nat) : Int) - ((0 : Nat) : Int)) 1
  rw [e1,e2]
  exact Heap.get?_push_size _ rfl
 ·have e : b = (s.heap.push { cls:=.type "range",data:=.fields #[.int lo t,.int hi u,.int 1 v] }).objs.size:=by simpa using hb
  subst e
  exact I1.fpOk (Nat.le_refl _) (I1.hok.fresh (Nat.le_refl _))
noncomputable def iRng1 (ta : TA) : TI:=fun σ H R=>ta σ H fun vs H1=>∃ j : Int,vs = [.int j]/\-(2 ^ 62)<=j/\j < 2 ^ 62/\R (Itr 0 j.toNat) H1
theorem pi_range1 {a : Expr} {ta : TA} {p pos : Pos} (hg : Gl X "range") (hm : X.mg "range" = none) (ha : PA X [a] ta) (hs : starEach [a] X.env = [(false,eval a X.env)]:=by rfl) : PI X tg (.Call (.Name "range" p) [a] [] pos) (iRng1 ta):=by
 intro pins s σ H R I h
 refine Call_ (ld_blt I hg hm boot_range (PyProof.Rows.callWith_type1 (thn (ha pos pins s σ H _ I h) fun us s1 ⟨vs,H1,I1,r1,q1⟩=>?_) hs rfl))
 obtain ⟨j,e,q1,q2,q⟩:=q1
 subst e
 cases r1 with
 | cons r rr=>
  cases rr
  obtain ⟨t,rfl⟩:=r
  exact call_range_1 (range_it I1 (by lia) (by lia) q1 q2 (by simpa using q))
noncomputable def tFor (wi : TI) (g : TG) (tb : TS) : TS:=fun D σ H=>wi σ H fun J H1=>∃ W : Nat->Nat->St->Hp->Prop,(∃ m,W 0 m σ H1)/\∀ i m σ H,W i m σ H->
 (J.stop i H/\D.nx σ H)\/(J.go i H/\∃ N : St->Hp->Prop,(∀ σ' H',N σ' H'->∃ m',m' < m/\W (i + 1) m' σ' H')/\∀ x H',J.yld i H x H'->g x σ H' fun σ2 H2=>tb { D with nx:=N,ct:=N,bk:=D.nx } σ2 H2)
noncomputable def pinsAt (fp : List Addr) (h : Heap) : List (Addr × Obj):=fp.filterMap fun b=>(h.get? b).map fun o=>(b,o)
theorem mem_pinsAt {fp : List Addr} {h : Heap} {b : Addr} {o : Obj} (hb : b ∈ fp) (e : h.get? b = some o) : (b,o) ∈ pinsAt fp h:=List.mem_filterMap.mpr ⟨b,hb,by rw [e];rfl⟩
theorem of_pinsAt {fp : List Addr} {h : Heap} {p : Addr × Obj} (hp : p ∈ pinsAt fp h) : p.1 ∈ fp/\h.get? p.1 = some p.2:=by
 obtain ⟨b,hb,e⟩:=List.mem_filterMap.mp hp
 cases q : h.get? b with
 | none=>rw [q] at e;cases e
 | some o=>
  rw [q] at e
  have e' : (b,o) = p:=Option.some.inj e
  subst e'
  exact ⟨hb,q⟩
theorem Inv.pinned {pins : List (Addr × Obj)} {σ : St} {H : Hp} {s : Shared} {fp : List Addr} (I : Inv X pins σ H s) (hf : ∀ b ∈ fp,FpOk X pins H b) (ho : ∀ b ∈ fp,∃ o,s.heap.get? b = some o/\∀ v,o.data ≠ .cell v) : Inv X (pins ++ pinsAt fp s.heap) σ H s:=
 I.pins_of fun p hp=>(List.mem_append.mp hp).elim (fun z=>I.pin p (List.mem_append_right _ z)) fun z=>by
  obtain ⟨hb,e⟩:=of_pinsAt z
  obtain ⟨f0,f1,f2,_⟩:=hf p.1 hb
  obtain ⟨o,e',d⟩:=ho p.1 hb
  rw [e] at e';cases e'
  exact ⟨e,f0,f1,f2,d⟩
theorem Inv.unpinned {pins pl : List (Addr × Obj)} {σ : St} {H : Hp} {s : Shared} (I : Inv X (pins ++ pl) σ H s) : Inv X pins σ H s:=I.pins_of fun p hp=>I.pin p (List.mem_append_right _ (List.mem_append_left _ hp))
theorem ps_for {iter : Expr} {body : List Stmt} {wi : TI} {g : TG} {tb : TS} {pos : Pos} (hp : PassesOwn (model X.prog X.w) X.A X.env X.xe) (hc : X.calm = true) (hi : PI X tg iter wi) (hg : PG X tg g) (hb : PSs X body tb)
  (hs : ∀ x,foldedSetIterable iter X.env x = pure x:=by intro _;rfl) : PS X (.For tg iter body [] pos) (tFor wi g tb):=by
 intro pins s σ H D I h
 refine wpAny_For (thn (hi pins s σ H _ I h) fun v s1 h1=>thn h1 fun itv s2 h2=>?_) hs
 obtain ⟨it,fp,tn,J,H2,e,I2,T,st2,f2,W,⟨m0,w0⟩,turn⟩:=h2
 subst e
 -- what stays true of the iterator's objects through the loop
 have stat : ∀ {H' : Hp},(∀ b ∈ fp,H' b = none)->∀ b ∈ fp,FpOk X pins H' b:=fun hn b hb=>⟨hn b hb,(f2 b hb).2⟩
 refine codeAny_forLoop_any (fun n s'=>∃ i σ' H',Inv X pins σ' H' s'/\tn i s'.heap/\(∀ b ∈ fp,H' b = none)/\W i n σ' H') ?_ m0 ⟨0,σ,H2,I2,st2,fun b hb=>(f2 b hb).1,w0⟩
 rintro n s3 ⟨i,σ3,H3,I3,st3,fr3,w3⟩
 rcases turn i n σ3 H3 w3 with ⟨stop,qn⟩ | ⟨go,N,hN,step⟩
 ·refine wpAny_passesOwn hp (thn (T.done X rfl rfl rfl hc i pins s3 σ3 H3 X.xe I3 (stat fr3) st3 stop) fun r s4 ⟨hr,I4⟩=>?_)
  subst hr
  exact wpAny_execs_nil ⟨σ3,H3,I4,qn⟩
 ·refine wpAny_passesOwn hp (thn (T.item X rfl rfl rfl hc i pins s3 σ3 H3 X.xe I3 (stat fr3) st3 go) fun r s4 ⟨u,hr,h4⟩=>?_)
  subst hr
  refine wpAny_passesOwn hp (thn h4 fun _ s5 ⟨x,H5,I5,r5,y5,st5,fr5⟩=>?_)
  have I5':=I5.pinned (stat fr5) (T.obj _ _ st5)
  refine wpAny_passesOwn hp (thn (hg _ s5 σ3 H5 x u _ I5' r5 (step x H5 y5)) fun _ s6 ⟨σ6,H6,I6,q6⟩=>?_)
  refine wpAny_passesOwn hp (thn (hb _ s6 σ6 H6 _ I6 q6) fun f s7 q7=>?_)
  have again : ∀ {σ7 : St} {H7 : Hp},Inv X (pins ++ pinsAt fp s5.heap) σ7 H7 s7->N σ7 H7->∃ m,m < n/\∃ i σ' H',Inv X pins σ' H' s7/\tn i s7.heap/\(∀ b ∈ fp,H' b = none)/\W i m σ' H':=fun {σ7 H7} I7 n7=>by
   obtain ⟨m',hm,w7⟩:=hN σ7 H7 n7
   refine ⟨m',hm,i + 1,σ7,H7,I7.unpinned,T.keep _ _ _ st5 fun b hb o e=>(I7.pin (b,o) (List.mem_append_right _ (List.mem_append_right _ (mem_pinsAt hb e)))).1,fun b hb=>?_,w7⟩
   obtain ⟨o,e,d⟩:=T.obj _ _ st5 b hb
   exact (I7.pin (b,o) (List.mem_append_right _ (List.mem_append_right _ (mem_pinsAt hb e)))).2.1
  cases f with
  | next=>obtain ⟨σ7,H7,I7,n7⟩:=q7;exact again I7 n7
  | cont=>obtain ⟨σ7,H7,I7,n7⟩:=q7;exact again I7 n7
  | brk=>obtain ⟨σ7,H7,I7,q7⟩:=q7;exact ⟨σ7,H7,I7.unpinned,q7⟩
  | ret v=>obtain ⟨x7,σ7,H7,I7,r7,q7⟩:=q7;exact ⟨x7,σ7,H7,I7.unpinned,r7,q7⟩
end
end L2
namespace L2
open PySem PySem.Spec PyProof.Rows
noncomputable abbrev R2:=V->V->Hp->VK->Prop
noncomputable def OpR (X : Cx) (f : Value->Value->Sem Value) (r : R2) : Prop:=
 ∀ (pins : List (Addr × Obj)) (s : Shared) (σ : St) (H : Hp) (x y : V) (v u : Value) (Q : VK),Inv X pins σ H s->RelV x v->RelV y u->r x y H Q->
  wpAny (model X.prog X.w) X.A (f v u) (EP X pins σ Q) X.xe s
noncomputable def UnR (X : Cx) (f : Value->Sem Value) (r : V->Hp->VK->Prop) : Prop:=
 ∀ (pins : List (Addr × Obj)) (s : Shared) (σ : St) (H : Hp) (x : V) (v : Value) (Q : VK),Inv X pins σ H s->RelV x v->r x H Q->
  wpAny (model X.prog X.w) X.A (f v) (EP X pins σ Q) X.xe s
noncomputable def CallR (X : Cx) (f : Value) (r : List V->Hp->VK->Prop) : Prop:=
 ∀ (pins : List (Addr × Obj)) (s : Shared) (σ : St) (H : Hp) (xs : List V) (us : List Value) (Q : VK),Inv X pins σ H s->Vals xs us->r xs H Q->
  wpAny (model X.prog X.w) X.A (call f us) (EP X pins σ Q) X.xe s
noncomputable def TruR (X : Cx) (r : V->Hp->(Bool->Hp->Prop)->Prop) : Prop:=
 ∀ (pins : List (Addr × Obj)) (s : Shared) (σ : St) (H : Hp) (x : V) (v : Value) (Q : Bool->Hp->Prop),Inv X pins σ H s->RelV x v->r x H Q->
  wpAny (model X.prog X.w) X.A (truthy v) (TP X pins σ Q) X.xe s
noncomputable def tOp (r : R2) (ta tb : TE) : TE:=fun σ H Q=>ta σ H fun x H1=>tb σ H1 fun y H2=>r x y H2 Q
noncomputable def tUn (r : V->Hp->VK->Prop) (ta : TE) : TE:=fun σ H Q=>ta σ H fun x H1=>r x H1 Q
noncomputable def rI (C : Int->Int->Prop) (g : Int->Int->V) : R2:=fun x y H Q=>∃ i j,x = .int i/\y = .int j/\C i j/\Q (g i j) H
noncomputable def rI0 (g : Int->Int->V) : R2:=fun x y H Q=>∃ i j,x = .int i/\y = .int j/\Q (g i j) H
noncomputable def rU (g : Int->V) : V->Hp->VK->Prop:=fun x H Q=>∃ i,x = .int i/\Q (g i) H
section
variable {X : Cx} {a b c : Expr} {ta tb tc : TE} {pos : Pos}
theorem binT (ha : PE X a ta) (hb : PE X b tb) {pins : List (Addr × Obj)} {s : Shared} {σ : St} {H : Hp} {R : V->V->Hp->Prop} (I : Inv X pins σ H s)
  (h : ta σ H fun x H1=>tb σ H1 fun y H2=>R x y H2) {Q : Value->Shared->Prop} {f : Value->Value->Sem Value}
  (hf : ∀ v u s2 x y H2,Inv X pins σ H2 s2->RelV x v->RelV y u->R x y H2->wpAny (model X.prog X.w) X.A (f v u) Q X.xe s2) :
  wpAny (model X.prog X.w) X.A (eval a X.env) (fun v s₁=>wpAny (model X.prog X.w) X.A (eval b X.env) (fun u s₂=>wpAny (model X.prog X.w) X.A (f v u) Q X.xe s₂) X.xe s₁) X.xe s:=by
 refine thn (ha pins s σ H _ I h) fun v s1 ⟨x,H1,I1,r1,q1⟩=>?_
 refine thn (hb pins s1 σ H1 _ I1 q1) fun u s2 ⟨y,H2,I2,r2,q2⟩=>?_
 exact hf v u s2 x y H2 I2 r1 r2 q2
theorem pe_op {op : Operator} {r : R2} (ho : OpR X (binaryOp op) r) (ha : PE X a ta) (hb : PE X b tb) : PE X (.BinOp a op b pos) (tOp r ta tb):=by
 intro pins s σ H Q I h
 exact wpAny_BinOp (binT ha hb I h fun v u s2 x y H2 I2 rx ry q=>ho pins s2 σ H2 x y v u Q I2 rx ry q)
theorem pe_un {op : UnaryOp} {r : V->Hp->VK->Prop} (ho : UnR X (unaryOp op) r) (ha : PE X a ta) : PE X (.UnaryOp op a pos) (tUn r ta):=by
 intro pins s σ H Q I h
 exact UnaryOp_ (thn (ha pins s σ H _ I h) fun v s1 ⟨x,H1,I1,r1,q1⟩=>ho pins s1 σ H1 x v Q I1 r1 q1)
theorem opI {f : Value->Value->Sem Value} {C : Int->Int->Prop} {g : Int->Int->Int}
  (rule : ∀ (i j : Int) (t u : Tok) (s : Shared) (Q : Value->Shared->Prop) (E : Value->Shared->Prop),C i j->Q (.int (g i j) s.toks) { s with toks:=s.toks + 1 }->wpAny (model X.prog X.w) X.A (f (.int i t) (.int j u)) Q E s) :
  OpR X f (rI C fun i j=>.int (g i j)):=by
 intro pins s σ H x y v u Q I rx ry h
 obtain ⟨i,j,rfl,rfl,hc,q⟩:=h
 obtain ⟨t,rfl⟩:=rx
 obtain ⟨t',rfl⟩:=ry
 exact rule i j t t' s _ _ hc ⟨.int (g i j),H,I.tok _,⟨_,rfl⟩,q⟩
theorem opI0 {f : Value->Value->Sem Value} {g : Int->Int->Int}
  (rule : ∀ (i j : Int) (t u : Tok) (s : Shared) (Q : Value->Shared->Prop) (E : Value->Shared->Prop),Q (.int (g i j) s.toks) { s with toks:=s.toks + 1 }->wpAny (model X.prog X.w) X.A (f (.int i t) (.int j u)) Q E s) :
  OpR X f (rI0 fun i j=>.int (g i j)):=by
 intro pins s σ H x y v u Q I rx ry h
 obtain ⟨i,j,rfl,rfl,q⟩:=h
 obtain ⟨t,rfl⟩:=rx
 obtain ⟨t',rfl⟩:=ry
 exact rule i j t t' s _ _ ⟨.int (g i j),H,I.tok _,⟨_,rfl⟩,q⟩
noncomputable def CDiv (i j : Int) : Prop:=0 < j/\j < 1073741824
noncomputable def CPow (i j : Int) : Prop:=0<=j/\j<=1000000/\i.natAbs < 2 ^ 64
noncomputable def CMul (i j : Int) : Prop:=(-(2 ^ 64) < i/\i < 2 ^ 64)\/(-(2 ^ 64) < j/\j < 2 ^ 64)
theorem CMul.ok {i j : Int} (h : CMul i j) : IntMulOk i j:=by
 rcases h with ⟨h1,h2⟩ | ⟨h1,h2⟩
 ·exact .of_left (intBits_le_64 h1 h2)
 ·exact .of_right (intBits_le_64 h1 h2)
theorem op_add : OpR X (binaryOp .Add) (rI0 fun i j=>.int (i + j)):=opI0 fun _ _ _ _ _ _ _ q=>add_int q
theorem op_mul : OpR X (binaryOp .Mult) (rI CMul fun i j=>.int (i * j)):=opI fun _ _ _ _ _ _ _ hc q=>mul_int q hc.ok
theorem op_fdiv : OpR X (binaryOp .FloorDiv) (rI CDiv fun i j=>.int (i / j)):=opI fun i j _ _ _ _ _ hc q=>by
 have h1 : (0 : Int) < j:=hc.1
 have h2 : j < 1073741824:=hc.2
 exact floordiv_int (by lia) (by rw [Int.fdiv_eq_ediv_of_nonneg i (by lia)];exact q) (.inl (PyProof.noPylong_small (by lia)))
theorem op_mod : OpR X (binaryOp .Mod) (rI (fun _ j=>0 < j) fun i j=>.int (i % j)):=opI fun i j _ _ _ _ _ hc q=>by
 have h1 : (0 : Int) < j:=hc
 exact mod_int' (by lia) (by rw [Int.fmod_eq_emod_of_nonneg i (by lia)];exact q)
theorem op_pow : OpR X (binaryOp .Pow) (rI CPow fun i j=>.int (i ^ j.toNat)):=opI fun _ _ _ _ _ _ _ hc q=>pow_int_small hc.1 hc.2.1 hc.2.2 q
theorem unI {f : Value->Sem Value} {g : Int->Int}
  (rule : ∀ (i : Int) (t : Tok) (s : Shared) (Q : Value->Shared->Prop) (E : Value->Shared->Prop),Q (.int (g i) s.toks) { s with toks:=s.toks + 1 }->wpAny (model X.prog X.w) X.A (f (.int i t)) Q E s) :
  UnR X f (rU fun i=>.int (g i)):=by
 intro pins s σ H x v Q I rx h
 obtain ⟨i,rfl,q⟩:=h
 obtain ⟨t,rfl⟩:=rx
 exact rule i t s _ _ ⟨.int (g i),H,I.tok _,⟨_,rfl⟩,q⟩
theorem un_neg : UnR X (unaryOp .USub) (rU fun i=>.int (-i)):=unI fun _ _ _ _ _ q=>neg_int q
end
section
variable {X : Cx} {a b c : Expr} {ta tb tc : TE} {pos : Pos}
theorem nomark (b : Expr) {op : CmpOp} (h : op ≠ .In:=by decide) (h2 : op ≠ .NotIn:=by decide) : behindInMarks op b = false:=by
 have e1 : (op == CmpOp.In) = false:=by cases op <;> first | rfl | exact absurd rfl h
 have e2 : (op == CmpOp.NotIn) = false:=by cases op <;> first | rfl | exact absurd rfl h2
 cases b <;> simp [behindInMarks,e1,e2]
theorem pe_cmpR {op : CmpOp} {r : R2} (ho : OpR X (compareOp op) r) (ha : PE X a ta) (hb : PE X b tb) (hm : behindInMarks op b = false) : PE X (.Compare a [op] [b] pos) (tOp r ta tb):=by
 intro pins s σ H Q I h
 exact wpAny_Compare1 (binT ha hb I h fun v u s2 x y H2 I2 rx ry q=>ho pins s2 σ H2 x y v u Q I2 rx ry q) hm
noncomputable def tTest (t : TE) : TT:=fun σ H Q=>t σ H fun x H'=>∃ k,x = .bl k/\Q k H'
theorem pt_cmpR {op : CmpOp} {r : R2} (ho : OpR X (compareOp op) r) (ha : PE X a ta) (hb : PE X b tb) (hm : behindInMarks op b = false) : PT X (.Compare a [op] [b] pos) (tTest (tOp r ta tb)):=by
 intro pins s σ H Q I h
 refine wpAny_isTrue_Compare1 (thn (ha pins s σ H _ I h) fun v s1 ⟨x,H1,I1,r1,q1⟩=>thn (hb pins s1 σ H1 _ I1 q1) fun u s2 ⟨y,H2,I2,r2,q2⟩=>
  thn (ho pins s2 σ H2 x y v u _ I2 r1 r2 q2) fun c s3 ⟨z,H3,I3,r3,k,e,q3⟩=>?_) hm
 subst e
 cases r3
 exact wpAny_truthy_bool ⟨H3,I3,q3⟩
noncomputable def tChain (r r' : R2) (ta tb tc : TE) : TE:=fun σ H Q=>ta σ H fun x H1=>tb σ H1 fun y H2=>r x y H2 fun z H3=>∃ k,z = .bl k/\
 (if k = true then tc σ H3 fun w' H4=>r' y w' H4 Q else Q (.bl false) H3)
theorem pt_chain {op op' : CmpOp} {r r' : R2} (ho : OpR X (compareOp op) r) (ho' : OpR X (compareOp op') r') (ha : PE X a ta) (hb : PE X b tb) (hc : PE X c tc)
  (hm : lastMarks [op,op'] [b,c] = false:=by with_unfolding_all rfl) : PT X (.Compare a [op,op'] [b,c] pos) (tTest (tChain r r' ta tb tc)):=by
 intro pins s σ H Q I h
 refine isTrue_chain (thn (ha pins s σ H _ I h) fun v s1 ⟨x,H1,I1,r1,q1⟩=>test_link (thn (hb pins s1 σ H1 _ I1 q1) fun u s2 ⟨y,H2,I2,r2,q2⟩=>
  thn (ho pins s2 σ H2 x y v u _ I2 r1 r2 q2) fun d s3 ⟨z,H3,I3,r3,k,e,q3⟩=>?_)) hm
 subst e
 cases r3
 refine wpAny_truthy_bool ?_
 cases k with
 | false=>
  obtain ⟨k',e',q'⟩:=q3
  cases e'
  exact ite_ff ⟨H3,I3,q'⟩
 | true=>
  refine ite_tt (test_last (thn (hc pins s3 σ H3 _ I3 q3) fun w' s4 ⟨z',H4,I4,r4,q4⟩=>thn (ho' pins s4 σ H4 y z' u w' _ I4 r2 r4 q4) fun d' s5 ⟨z2,H5,I5,r5,k2,e2,q5⟩=>?_))
  subst e2
  cases r5
  exact wpAny_truthy_bool ⟨H5,I5,q5⟩
noncomputable def TruV (K : PySem.W.Frag) (x : V) (H : Hp) (k : Bool) : Prop:=
 match x with
 | .non=>k = false
 | .bl b=>k = b
 | .int i=>k = (i != 0)
 | .str y=>y.length<=sizeLine/\k = ((y.length : Int) != 0)
 | .byt y=>y.size<=sizeLine/\k = ((y.size : Int) != 0)
 | .ref p=>(∃ xs,SqL K H p xs/\k = !xs.isEmpty)\/(∃ xs,SqT K H p xs/\k = !xs.isEmpty)\/∃ kvs,H p = some (.dK kvs)/\k = !kvs.isEmpty
 | _=>False
theorem isEmpty_kv {κ : Type} {kvs : List (κ × V)} {vs : List (κ × Value)} (r : KV kvs vs) : (!vs.isEmpty) = !kvs.isEmpty:=by
 cases r <;> rfl
theorem isEmpty_of {xs : List V} {its : List Value} (r : Vals xs its) : (!its.toArray.isEmpty) = !xs.isEmpty:=by
 cases r <;> simp
theorem line63 : (sizeLine : Nat) < 2 ^ 63:=by rw [sizeLine_eq];decide
theorem tru_ok : TruR X (fun x H Q=>∃ k,TruV X.K x H k/\Q k H):=by
 intro pins s σ H x v Q I rx h
 obtain ⟨k,e,q⟩:=h
 have hl:=line63
 have hs : sizeLine = 16777216:=sizeLine_eq
 cases x with
 | non=>
  cases rx
  have e' : k = false:=e
  subst e'
  exact truthy_none ⟨H,I,q⟩
 | bl b=>
  cases rx
  have e' : k = b:=e
  subst e'
  exact wpAny_truthy_bool ⟨H,I,q⟩
 | int i=>
  obtain ⟨t,rfl⟩:=rx
  have e' : k = (i != 0):=e
  subst e'
  exact PySem.P.truthy_int ⟨H,I,q⟩
 | str y=>
  obtain ⟨t,rfl⟩:=rx
  obtain ⟨hy,e'⟩ : y.length<=sizeLine/\k = ((y.length : Int) != 0):=e
  subst e'
  exact PySem.P.truthy_str (by lia) ⟨H,I.tok _,q⟩
 | byt y=>
  obtain ⟨t,rfl⟩:=rx
  obtain ⟨hy,e'⟩ : y.size<=sizeLine/\k = ((y.size : Int) != 0):=e
  subst e'
  exact PySem.W.truthy_bytes (by lia) ⟨H,I.tok _,q⟩
 | ref p=>
  cases rx
  have e' : (∃ xs,SqL X.K H p xs/\k = !xs.isEmpty)\/(∃ xs,SqT X.K H p xs/\k = !xs.isEmpty)\/∃ kvs,H p = some (.dK kvs)/\k = !kvs.isEmpty:=e
  rcases e' with ⟨xs,hx,e'⟩ | ⟨xs,hx,e'⟩ | ⟨kvs,hx,e'⟩
  ·subst e'
   obtain ⟨its,r,pl,hz⟩:=I.list hx
   have hlen:=r.length
   exact wpAny_truthy_list pl.isList (by simp only [List.size_toArray];lia) ⟨H,I.tok _,by rw [isEmpty_of r];exact q⟩
  ·subst e'
   obtain ⟨its,r,pl,hz⟩:=I.tuple hx
   have hlen:=r.length
   exact truthy_tuple pl (by simp only [List.size_toArray];lia) ⟨H,I.tok _,by rw [isEmpty_of r];exact q⟩
  ·subst e'
   obtain ⟨hz,hS,vs,r,m⟩ : kvs.length<=sizeLine/\(p == sysModules) = false/\∃ vs,KV kvs vs/\s.heap.DictOf (mixKind X.prog X.w) p vs:=I.hok p _ hx
   have hlen : kvs.length = vs.length:=Paired.length r
   exact wpAny_truthy_dict hS m (by lia) ⟨H,I.tok _,by rw [isEmpty_kv r];exact q⟩
 | _=>exact (show False from e).elim
theorem pt_truth (ha : PE X a ta) (he : ∀ whole,isTrue a X.env whole = (do let v <- whole;standAt a.pos;holding [v] (truthy v))) :
  PT X a (fun σ H Q=>ta σ H fun x H'=>∃ k,TruV X.K x H' k/\Q k H'):=by
 intro pins s σ H Q I h
 exact isTrue_plain (thn (ha pins s σ H _ I h) fun v s1 ⟨x,H1,I1,r1,q1⟩=>tru_ok pins s1 σ H1 x v Q I1 r1 q1) (he _)
theorem op_add_str : OpR X (binaryOp .Add) (fun x y H Q=>∃ i j,x = .str i/\y = .str j/\i.length + j.length<=sizeLine/\Q (.str (i ++ j)) H):=by
 intro pins s σ H x y v u Q I rx ry h
 obtain ⟨i,j,rfl,rfl,hz,q⟩:=h
 obtain ⟨t,rfl⟩:=rx
 obtain ⟨t',rfl⟩:=ry
 exact add_str (fun t' tk=>⟨.str (i ++ j),H,I.tok _,⟨_,rfl⟩,q⟩) hz
theorem vals1 {x : V} {us : List Value} (r : Vals [x] us) : ∃ u,us = [u]/\RelV x u:=by
 cases r with
 | cons r1 r2=>cases r2;exact ⟨_,rfl,r1⟩
end
end L2
namespace L2
open PySem PySem.Spec PyProof.Rows
section
variable {prog : Program} {w : World} {A : Around} {E : Value->Shared->Prop} {s : Shared} {K : PySem.W.Frag} {x dx C f : Addr} {mA : Str->Option Value} {name : Str} {v : Value}
end
theorem RelO.some_of {v : V} {o : Option Value} (r : RelO (some v) o) : ∃ u,o = some u/\RelV v u:=by
 cases o with
 | none=>exact (show False from r).elim
 | some u=>exact ⟨u,rfl,r⟩
section
variable {P : Program} {w : World} {H H' : Hp} {h h' : Heap} {a C dx : Addr} {fs fs' : List (Str × V)}
end
section
variable {X : Cx} {pins : List (Addr × Obj)} {σ : St} {H : Hp} {s : Shared} {a C dx : Addr} {fs : List (Str × V)} {f : Str} {v : V} {A : Around} {E : Value->Shared->Prop}
end
section
variable {X : Cx} {o e value : Expr} {f : Str} {pos pos' tpos : Pos} {ta tv : TE}
end
section
variable {X : Cx} {pins : List (Addr × Obj)} {σ : St} {H : Hp} {s : Shared} {A : Around} {E : Value->Shared->Prop} {Q : Value->Shared->Prop} {c : Value} {b : Bool}
end
end L2
namespace L2
open PySem PySem.Spec PyProof.Rows
structure Room (k : Nat) (A : Around) : Prop where
 hd : A.handled = none
 dp : A.depth + 3 * k + 5 < recursionLimit
 un : A.units + 16 * k + 200 < cLine
theorem Room.mono {j k : Nat} {A : Around} (r : Room k A) (h : j<=k) : Room j A:=⟨r.hd,by have:=r.dp;lia,by have:=r.un;lia⟩
theorem Room.deeper {k : Nat} {A : Around} (r : Room (k + 1) A) (env : Env) : Room k (A.deeper env):=
 ⟨r.hd,by have:=r.dp;show A.depth + 1 + 3 * k + 5 < _;lia,by have:=r.un;show A.units + 3 + 16 * k + 200 < _;lia⟩
theorem Room.depth {k : Nat} {A : Around} (r : Room k A) : A.depth < recursionLimit:=by have:=r.dp;lia
theorem Room.units {k : Nat} {A : Around} (r : Room k A) : A.units + 64 < cLine:=by have:=r.un;lia
noncomputable def tNil : TA:=fun _ H Q=>Q [] H
noncomputable def tCons (ta : TE) (tr : TA) : TA:=fun σ H Q=>ta σ H fun x H1=>tr σ H1 fun xs H2=>Q (x :: xs) H2
section
variable {X : Cx} {e : Expr} {es : List Expr} {te : TE} {t : TA} {pos : Pos}
theorem pa_nil : PA X [] tNil:=fun _ _ _ _ H Q I h=>Calls.spliced_nil ⟨[],H,I,.nil,h⟩
theorem pa_cons (ha : PE X e te) (hr : PA X es t) (hs : starEach (e :: es) X.env = (false,eval e X.env) :: starEach es X.env:=by rfl) : PA X (e :: es) (tCons te t):=by
 intro pos pins s σ H Q I h
 rw [hs]
 show wpAny _ _ (spliced ((false,eval e X.env) :: backTo pos (starEach es X.env))) _ _ s
 refine Calls.spliced_cons (thn (ha pins s σ H _ I h) fun u s1 ⟨x,H1,I1,r1,q1⟩=>?_)
 exact thn (hr pos pins s1 σ H1 _ I1 q1) fun us s2 ⟨xs,H2,I2,r2,q2⟩=>⟨x :: xs,H2,I2,.cons r1 r2,q2⟩
noncomputable def tTup (t : TA) : TE:=fun σ H Q=>t σ H fun xs H1=>xs.length<=sizeLine/\∀ p,H1 p = none->Q (.ref p) (upd H1 p (.tup xs))
noncomputable def tLst (t : TA) : TE:=fun σ H Q=>t σ H fun xs H1=>xs.length<=sizeLine/\∀ p,H1 p = none->Q (.ref p) (upd H1 p (.lst xs))
theorem pe_tup {x1} (h : PA X es t) : PE X (.Tuple es x1 pos) (tTup t):=by
 intro pins s σ H Q I hq
 refine wpAny_Tuple_spliced (thn (h pos pins s σ H _ I hq) fun us s1 ⟨xs,H1,I1,r,z,q⟩=>⟨by rw [<- r.length];exact z,?_⟩)
 have hf : H1 s1.heap.objs.size = none:=I1.hok.fresh (Nat.le_refl _)
 refine ⟨.ref s1.heap.objs.size,upd H1 s1.heap.objs.size (.tup xs),I1.laid (t':=s1.toks) (fun b u e=>Heap.get?_push_of_some _ e) (Nat.le_refl _) ?_,rfl,q _ hf⟩
 exact ⟨z,us,r,⟨_,Heap.get?_push_size _ rfl,rfl,_,rfl⟩⟩
theorem pe_lst (h : PA X es t) : PE X (.List es pos) (tLst t):=by
 intro pins s σ H Q I hq
 refine wpAny_List_spliced (thn (h pos pins s σ H _ I hq) fun us s1 ⟨xs,H1,I1,r,z,q⟩=>⟨by rw [<- r.length];exact z,?_⟩)
 have hf : H1 s1.heap.objs.size = none:=I1.hok.fresh (Nat.le_refl _)
 refine ⟨.ref s1.heap.objs.size,upd H1 s1.heap.objs.size (.lst xs),I1.laid (t':=s1.toks) (fun b u e=>Heap.get?_push_of_some _ e) (Nat.le_refl _) ?_,rfl,q _ hf⟩
 exact ⟨z,us,0,r,Heap.get?_push_size _ rfl⟩
end
noncomputable abbrev Sp:=List V->Hp->VK->XK->Prop
noncomputable abbrev CXT:=List Env->Hp->Shared->XK->Value->Shared->Prop
structure Env0 (P : Program) (w : World) (K : PySem.W.Frag) (mg : Str->Option Value) (base : Heap) (A : Around) (outer : List Env) (s : Shared) (H : Hp) : Prop where
 frames : A.frames = some outer
 mod : Mod K mg base
 bs : ∀ b o,base.get? b = some o->s.heap.get? b = some o/\H b = none
 bsz : base.objs.size<=s.heap.objs.size
 funs : s.heap.FunFrames base outer
 frf : ∀ b ∈ frs outer,H b = none
 hok : HOk P w H s.heap
 bare : AllBare s.gens
noncomputable def CE (outer : List Env) (P : Program) (w : World) (H : Hp) (s : Shared) (Q : VK) (u : Value) (s' : Shared) : Prop:=
 ∃ v H',s'.os = s.os/\AllBare s'.gens/\Un (frs outer) [] H H' s.heap s'.heap/\HOk P w H' s'.heap/\RelV v u/\Q v H'
noncomputable def CR (CX : CXT) (outer : List Env) (P : Program) (w : World) (H : Hp) (s : Shared) (Q : VK) (E : XK) (r : Result) (s' : Shared) : Prop:=
 match r with
 | .ok (.ret u)=>CE outer P w H s Q u s'
 | .ok _=>False
 | .error e=>CX outer H s E e s'
structure FnOk (P : Program) (w : World) (K : PySem.W.Frag) (mg : Str->Option Value) (base : Heap) (CX : CXT) (k : Nat) (f : Addr) (fd : FuncData) (ps : List Str) (sp : Sp) : Prop where
 len : ∀ vs H Q E,sp vs H Q E->vs.length = ps.length
 run : ∀ (A : Around) (outer : List Env) (s : Shared) (H : Hp) (args : Args) (us : List Value) (vs : List V) (Q : VK) (E : XK),Room k A->Env0 P w K mg base A outer s H->BindsTo s fd args (ps.zip us)->Vals vs us->sp vs H Q E->
  codeAny (model P w) A (.call (.ref f) args) (CR CX outer P w H s Q E) s
section
variable {X : Cx} {pins : List (Addr × Obj)} {σ : St} {H : Hp} {s s' : Shared}
theorem Inv.env0 (I : Inv X pins σ H s) : Env0 X.prog X.w X.K X.mg X.base X.A X.stack s H:=
 ⟨I.ok.frames,I.ok.mod,I.bs,Nat.le_trans I.ok.bsz I.sz,I.stack,I.stkFree,I.hok,I.bare⟩
theorem Inv.after {Q : VK} {u : Value} (I : Inv X pins σ H s) (h : CE X.stack X.prog X.w H s Q u s') : EP X pins σ Q u s':=by
 obtain ⟨v,H',os,bare,un,hok,r,q⟩:=h
 obtain ⟨hh,g,d,t,os'⟩:=s'
 obtain rfl : os' = s.os:=os
 exact ⟨v,H',I.call (h':=hh) (g':=g) (d':=d) (t':=t) (ch:=[]) un hok bare (fun b z=>absurd z (by simp)),r,q⟩
end
noncomputable def tCall (sp : Sp) (dvs : List V) (E : XK) (t : TA) : TE:=fun σ H Q=>t σ H fun vs H1=>sp (vs ++ dvs) H1 Q E
noncomputable def Binds (K : PySem.W.Frag) (fd : FuncData) (ps : List Str) (ds : List Value) : Prop:=
 ∀ (s : Shared) (us : List Value),K.In s.heap->(us ++ ds).length = ps.length->BindsTo s fd ⟨us,[]⟩ (ps.zip (us ++ ds))
theorem Binds.all {K : PySem.W.Frag} {fd : FuncData} {ps : List Str} (h : ∀ us : List Value,us.length = ps.length->bindArgs fd ⟨us,[]⟩ = pure (ps.zip us)) : Binds K fd ps []:=fun s us _ hl=>by
 rw [List.append_nil] at hl ⊢
 exact .of_eq (h us hl)
noncomputable def Passes (CX : CXT) (X : Cx) (E : XK) : Prop:=∀ (pins : List (Addr × Obj)) (σ : St) (H : Hp) (s : Shared) (e : Value) (s' : Shared),Inv X pins σ H s->CX X.stack H s E e s'->X.xe e s'
section
variable {X : Cx} {CX : CXT} {k : Nat} {f C : Addr} {fd : FuncData} {ps : List Str} {sp : Sp} {dvs : List V} {ds : List Value} {E : XK} {x m : Str} {p pos apos : Pos} {e o : Expr} {es : List Expr} {ta : TE} {t : TA}
theorem run_fn {pins : List (Addr × Obj)} {σ : St} {H : Hp} {s : Shared} {Q : VK} {us : List Value} {vs : List V} (F : FnOk X.prog X.w X.K X.mg X.base CX k f fd ps sp) (hr : Room k X.A) (hb : Binds X.K fd ps ds) (hd : Vals dvs ds) (hx : Passes CX X E)
  (I : Inv X pins σ H s) (r : Vals vs us) (h : sp (vs ++ dvs) H Q E) : wpAny (model X.prog X.w) X.A (call (.ref f) us) (EP X pins σ Q) X.xe s:=by
 have r2 : Vals (vs ++ dvs) (us ++ ds):=r.append hd
 have hl : (us ++ ds).length = ps.length:=by rw [<- r2.length];exact F.len _ _ _ _ h
 refine wpAny_call (codeAny_mono (F.run X.A X.stack s H ⟨us,[]⟩ (us ++ ds) (vs ++ dvs) Q E hr I.env0 (hb s us I.kIn hl) r2 h) fun r s' hq=>?_)
 cases r with
 | error e=>exact hx pins σ H s e s' I hq
 | ok fl=>
  cases fl with
  | ret u=>exact I.after hq
  | next=>exact False.elim hq
  | brk=>exact False.elim hq
  | cont=>exact False.elim hq
theorem pe_call (F : FnOk X.prog X.w X.K X.mg X.base CX k f fd ps sp) (hr : Room k X.A) (hg : Gl X x) (hm : X.mg x = some (.ref f)) (hk : PySem.W.keepIn X.K (.ref f) = true) (hb : Binds X.K fd ps ds) (hd : Vals dvs ds) (hx : Passes CX X E)
  (ha : PA X (e :: es) t) (hdb : (x == ("__debug__" : Str)) = false:=by decide) (he : starEach (e :: es) X.env = (false,eval e X.env) :: starEach es X.env:=by rfl) (hpl : (backTo pos (starEach es X.env)).any (·.1) = false:=by rfl) :
  PE X (.Call (.Name x p) (e :: es) [] pos) (tCall sp dvs E t):=by
 intro pins s σ H Q I h
 refine wpAny_Call_Name_kw (ld_glob I hg hm ?_ hdb)
 refine PySem.W.callWith_K (h₀:=X.base) I.ok.mod.kin hk (thn (ha pos pins s σ H _ I h) fun us s1 ⟨vs,H1,I1,r,q⟩=>⟨I1.kIn,?_⟩) he hpl
 exact run_fn F hr hb hd hx I1 r q
end
section
variable {X : Cx} {CX : CXT} {k : Nat} {f C : Addr} {fd : FuncData} {ps ks : List Str} {sp : Sp} {E : XK} {x m : Str} {p pos apos kpos : Pos} {e o : Expr} {es : List Expr} {kws : List Keyword} {te ta : TE} {t tk : TA} {nm : Option Str}
variable {g : List Value->List Value->List Value} {gV : List V->List V->List V}
end
structure FnScope (N P : List Str) (sc : Scope) : Prop where
 kind : sc.kind = .function
 co : sc.isCoroutine = false
 gen : sc.isGenerator = false
 nd : N.Nodup
 pre : N.take P.length = P
 par : ∀ x ∈ P,sc.names.lookup x = some .local\/sc.names.lookup x = some .cell
 nofree : ∀ y ∈ sc.names,y.2 ≠ .free
theorem bindL_out {kindOf : Str->Option NameKind} {x : Str} : ∀ {binds : List (Str × Value)} {m : Str->Option Value},(∀ v,(x,v) ∉ binds)->bindL kindOf binds m x = m x
 | [],_,_=>rfl
 | (n,v) :: r,m,h=>by
  unfold bindL
  rw [bindL_out fun w hw=>h w (List.mem_cons_of_mem _ hw)]
  split
  ·have : x ≠ n:=by rintro rfl;exact h v List.mem_cons_self
   simp [this]
  ·rfl
theorem bindC_out {kindOf : Str->Option NameKind} {x : Str} : ∀ {binds : List (Str × Value)} {m : Str->Option Value},(∀ v,(x,v) ∉ binds)->bindC kindOf binds m x = m x
 | [],_,_=>rfl
 | (n,v) :: r,m,h=>by
  unfold bindC
  rw [bindC_out fun w hw=>h w (List.mem_cons_of_mem _ hw)]
  split
  ·rfl
  ·have : x ≠ n:=by rintro rfl;exact h v List.mem_cons_self
   simp [this]
theorem bindL_get {kindOf : Str->Option NameKind} {x : Str} {v : Value} : ∀ {P : List Str} {vs : List Value} {i : Nat} {m : Str->Option Value},P.Nodup->P[i]? = some x->vs[i]? = some v->kindOf x = some .local->
  bindL kindOf (P.zip vs) m x = some v
 | [],_,_,_,_,h,_,_=>by simp at h
 | _ :: _,[],_,_,_,_,h,_=>by simp at h
 | p :: P,w :: vs,0,m,nd,h1,h2,hk=>by
  simp at h1 h2;subst h1;subst h2
  show bindL kindOf ((p,w) :: P.zip vs) m p = _
  unfold bindL
  rw [bindL_out fun v hv=>(List.nodup_cons.mp nd).1 (List.of_mem_zip hv).1,if_pos hk]
  simp
 | p :: P,w :: vs,i + 1,m,nd,h1,h2,hk=>by
  show bindL kindOf ((p,w) :: P.zip vs) m x = _
  unfold bindL
  exact bindL_get (i:=i) (List.nodup_cons.mp nd).2 (by simpa using h1) (by simpa using h2) hk
theorem bindC_get {kindOf : Str->Option NameKind} {x : Str} {v : Value} : ∀ {P : List Str} {vs : List Value} {i : Nat} {m : Str->Option Value},P.Nodup->P[i]? = some x->vs[i]? = some v->kindOf x ≠ some .local->
  bindC kindOf (P.zip vs) m x = some v
 | [],_,_,_,_,h,_,_=>by simp at h
 | _ :: _,[],_,_,_,_,h,_=>by simp at h
 | p :: P,w :: vs,0,m,nd,h1,h2,hk=>by
  simp at h1 h2;subst h1;subst h2
  show bindC kindOf ((p,w) :: P.zip vs) m p = _
  unfold bindC
  rw [bindC_out fun v hv=>(List.nodup_cons.mp nd).1 (List.of_mem_zip hv).1,if_neg hk]
  simp
 | p :: P,w :: vs,i + 1,m,nd,h1,h2,hk=>by
  show bindC kindOf ((p,w) :: P.zip vs) m x = _
  unfold bindC
  exact bindC_get (i:=i) (List.nodup_cons.mp nd).2 (by simpa using h1) (by simpa using h2) hk
noncomputable def start (N : List Str) (vs : List V) : St:=vs.map some ++ List.replicate (N.length - vs.length) none
noncomputable def cxOf (CX : CXT) (P : Program) (w : World) (K : PySem.W.Frag) (mg : Str->Option Value) (base : Heap) (N : List Str) (qual : Str) (scope : Scope) (f : Addr) (cd : Value) (A : Around) (outer : List Env) (s : Shared) (H : Hp) (E : XK) : Cx where
 prog:=P
 w:=w
 K:=K
 mg:=mg
 base:=base
 A:=A.deeper (envOfC qual scope s.heap.objs.size f cd)
 N:=N
 s₀:=s
 H₀:=H
 env:=envOfC qual scope s.heap.objs.size f cd
 outer:=outer
 stack:=envOfC qual scope s.heap.objs.size f cd :: outer
 ex:=[]
 calm:=true
 fn:=fun _=>true
 pn:=[]
 xe:=fun e s'=>wpAny (model P w) (A.deeper (envOfC qual scope s.heap.objs.size f cd)) (leaving (envOfC qual scope s.heap.objs.size f cd) e) (fun _ s''=>CX outer H s E e s'') (fun e' s''=>CX outer H s E e' s'') s'
theorem cell_has {sc : Scope} {n : Nat} {x : Str} (h : sc.names.lookup x = some .cell) : ∃ c,(cellsFrom n sc.names []).lookup x = some c:=by
 have q:=PySem.W.cellsFrom_some sc.names n [] (.inl h)
 exact Option.isSome_iff_exists.mp q
theorem inv_start {CX : CXT} {P : Program} {w : World} {K : PySem.W.Frag} {mg : Str->Option Value} {base : Heap} {N ps : List Str} {qual : Str} {scope : Scope} {f : Addr} {cd : Value} {A : Around} {outer : List Env} {s s1 : Shared} {H : Hp} {E : XK} {us : List Value} {vs : List V}
  (S : FnScope N ps scope) (hd : A.handled = none) (e0 : Env0 P w K mg base A outer s H) (hl : vs.length = ps.length) (r : Vals vs us)
  (x : InCallC s s.heap.objs.size (bindL (envOfC qual scope s.heap.objs.size f cd).kindOf (ps.zip us) fun _=>none) (cellsFrom (s.heap.objs.size + 1) scope.names []) (bindC (envOfC qual scope s.heap.objs.size f cd).kindOf (ps.zip us) fun _=>none) s1) :
  Inv (cxOf CX P w K mg base N qual scope f cd A outer s H E) [] (start N vs) H s1:=by
 have hpl : ps.length<=N.length:=by have:=congrArg List.length S.pre;rw [List.length_take] at this;lia
 obtain ⟨h1,tk,rfl,hk⟩:=x.done
 have noA : ∀ b : Addr,b ∉ (cxOf CX P w K mg base N qual scope f cd A outer s H E).ex:=fun b z=>absurd (show b ∈ ([] : List Addr) from z) (by simp)
 refine ⟨⟨e0.mod,S.kind,rfl,rfl,Nat.le_refl _,fun y z c h1 h2=>?_,fun y hy=>?_,fun y c _ h=>?_,fun _=>hd,Around.frames_deeper e0.frames,.inr ⟨rfl,rfl⟩,fun b z=>absurd z (noA b),e0.bs,e0.bsz,fun b _ _=>noA b,fun b z=>absurd z (noA b),e0.funs,e0.frf⟩,
  rfl,e0.bare,Un.kept hk,⟨_,x.toInCall.ns,fun i y v h1 h2 h3=>?_⟩,fun y c h=>⟨_,x.cell y c h⟩,e0.hok.fresh (Nat.le_refl _),fun y c h=>?_,fun p hp=>absurd (show p ∈ ([] : List (Addr × Obj)) from hp) (by simp),e0.hok.kept hk,?_⟩
 ·exact name_of_addr x.apart (PySem.mem_of_lookup h1) (PySem.mem_of_lookup h2)
 ·have hy : scope.names.lookup y = some .cell\/scope.names.lookup y = some .free:=hy
  rcases hy with hy | hy
  ·exact cell_has hy
  ·exact absurd rfl (S.nofree _ (PySem.mem_of_lookup hy))
 ·exact Nat.le_of_lt (x.above y c (PySem.mem_of_lookup h))
 ·have hi : i < vs.length:=by
   unfold start at h2
   by_cases hi : i < vs.length
   ·exact hi
   ·rw [List.getElem?_append_right (by simpa using hi)] at h2
    rw [List.getElem?_replicate] at h2
    split at h2 <;> cases h2
  have ha : vs[i]? = some v:=by
   unfold start at h2
   rw [List.getElem?_append_left (by simpa using hi),List.getElem?_map] at h2
   cases e : vs[i]? with
   | none=>rw [e] at h2;cases h2
   | some a=>rw [e] at h2;cases h2;rfl
  obtain ⟨u,hu,rv⟩:=r.get ha
  have hp : ps[i]? = some y:=by
   rw [<- S.pre,List.getElem?_take_of_lt (by lia)];exact h1
  have ndP : ps.Nodup:=by rw [<- S.pre];exact S.nd.sublist (List.take_sublist _ _)
  refine ⟨u,rv,?_⟩
  rcases S.par y (List.mem_of_getElem? hp) with k | k
  ·exact .inl ⟨k,bindL_get ndP hp hu k⟩
  ·obtain ⟨c,e⟩:=cell_has (n:=s.heap.objs.size + 1) k
   refine .inr ⟨.inl k,c,e,?_⟩
   have q:=x.cell y c e
   rw [bindC_get ndP hp hu (by show scope.names.lookup y ≠ _;rw [k];decide)] at q
   exact q
 ·exact e0.hok.fresh (Nat.le_of_lt (x.above y c (PySem.mem_of_lookup h)))
 ·unfold start
  show _ = N.length
  rw [List.length_append,List.length_map,List.length_replicate]
  lia
theorem fn_of {CX : CXT} {P : Program} {w : World} {K : PySem.W.Frag} {mg : Str->Option Value} {base : Heap} {k : Nat} {f : Addr} {name qual : Str} {params : Arguments} {body : List Stmt} {scope : Scope} {dV kV doc pm cdv ct oc : Value} {an od : Option Addr}
  {osl : Array (Option Value)} {N ps : List Str} {sp : Sp} (lk : K.lookup f = some ⟨oc,od,.func (PySem.W.fnOf name qual params body scope dV kV doc pm an cdv ct),osl⟩) (hcd : PySem.W.codeIn K cdv qual = true) (S : FnScope N ps scope)
  (len : ∀ vs H Q E,sp vs H Q E->vs.length = ps.length)
  (hbody : ∀ (A : Around) (outer : List Env) (s : Shared) (H : Hp) (vs : List V) (Q : VK) (E : XK),Room k (A.deeper (envOfC qual scope s.heap.objs.size f cdv))->sp vs H Q E->
   ∃ t,PSs (cxOf CX P w K mg base N qual scope f cdv A outer s H E) body t/\t { nx:=fun _ H'=>Q .non H',rt:=Q } (start N vs) H) :
  FnOk P w K mg base CX (k + 1) f (PySem.W.fnOf name qual params body scope dV kV doc pm an cdv ct) ps sp:=by
 refine ⟨len,fun A outer s H args us vs Q E hr e0 hb r hsp=>?_⟩
 have hl:=len _ _ _ _ hsp
 have KX : K.In s.heap:=e0.mod.kin.keeps fun b o e=>(e0.bs b o e).1
 have lim : s.heap.NoLimit:=e0.mod.nolimit.keeps fun b o e=>(e0.bs b o e).1
 have hkind : ∀ y ∈ ps.zip us,scope.names.lookup y.1 = some .local\/(scope.names.lookup y.1 = some .cell/\((cellsFrom (s.heap.objs.size + 1) scope.names []).lookup y.1).isSome = true):=fun ⟨n,v⟩ hy=>by
  rcases S.par n (List.of_mem_zip hy).1 with q | q
  ·exact .inl q
  ·exact .inr ⟨q,PySem.W.cellsFrom_some _ _ _ (.inl q)⟩
 refine codeAny_call_function hr.depth (KX _ _ lk) rfl S.co S.gen rfl (PySem.W.codeRec_of KX hcd) (hb _ _ _ _ ?_)
 refine wpAny_newFunctionEnv_cells S.kind hkind fun env he s1 x=>?_
 subst he
 refine ⟨lim.keeps x.toInCall.keep,codeAny_func ?_⟩
 obtain ⟨t,ht,hq⟩:=hbody A outer s H vs Q E (hr.deeper _) hsp
 have I : Inv (cxOf CX P w K mg base N qual scope f cdv A outer s H E) [] (start N vs) H s1:=inv_start S hr.hd e0 hl r x
 refine wpAny_mono (ht [] s1 (start N vs) H _ I hq) (fun fl s' hs=>?_) fun e s' hs=>hs
 have fin : ∀ {σ' : St} {H' : Hp} {v : V} {u : Value},Inv (cxOf CX P w K mg base N qual scope f cdv A outer s H E) [] σ' H' s'->RelV v u->Q v H'->CE outer P w H s Q u s':=
  fun {σ' H' v u} J rv q=>⟨v,H',J.os,J.bare,J.base,J.hok,rv,q⟩
 cases fl with
 | ret u=>
  obtain ⟨v,σ',H',J,rv,q⟩:=hs
  exact fin J rv q
 | next=>
  obtain ⟨σ',H',J,q⟩:=hs
  exact fin (v:=V.non) (u:=Value.none) J rfl q
 | brk=>
  obtain ⟨_,_,_,q⟩:=hs
  exact False.elim q
 | cont=>
  obtain ⟨_,_,_,q⟩:=hs
  exact False.elim q
end L2
namespace L2
open PySem PySem.Spec PyProof.Rows
section
variable {X : Cx} {x : Str} {p pos : Pos} {e : Expr} {es : List Expr} {t : TA} {id T : String} {r : List V->Hp->VK->Prop}
noncomputable def tCB (r : List V->Hp->VK->Prop) (t : TA) : TE:=fun σ H Q=>t σ H fun vs H1=>r vs H1 Q
theorem pe_callB (hc : CallR X (.builtin id) r) (hg : Gl X x) (hm : X.mg x = none) (hv : bootBuiltins x = some (.builtin id)) (ha : PA X (e :: es) t) (hn : x ≠ "__name__":=by decide) (hdb : (x == ("__debug__" : Str)) = false:=by decide)
  (he : starEach (e :: es) X.env = (false,eval e X.env) :: starEach es X.env:=by rfl) (hpl : (backTo pos (starEach es X.env)).any (·.1) = false:=by rfl) : PE X (.Call (.Name x p) (e :: es) [] pos) (tCB r t):=by
 intro pins s σ H Q I h
 refine wpAny_Call_Name_kw (ld_blt I hg hm hv ?_ hn hdb)
 exact PyProof.Rows.callWith_builtin1 (thn (ha pos pins s σ H _ I h) fun us s1 ⟨vs,H1,I1,r1,q1⟩=>hc pins s1 σ H1 vs us Q I1 r1 q1) he hpl
theorem pe_callTy (hc : CallR X (.type T) r) (hg : Gl X x) (hm : X.mg x = none) (hv : bootBuiltins x = some (.type T)) (ha : PA X (e :: es) t) (hn : x ≠ "__name__":=by decide) (hdb : (x == ("__debug__" : Str)) = false:=by decide)
  (he : starEach (e :: es) X.env = (false,eval e X.env) :: starEach es X.env:=by rfl) (hpl : (backTo pos (starEach es X.env)).any (·.1) = false:=by rfl) : PE X (.Call (.Name x p) (e :: es) [] pos) (tCB r t):=by
 intro pins s σ H Q I h
 refine wpAny_Call_Name_kw (ld_blt I hg hm hv ?_ hn hdb)
 exact PyProof.Rows.callWith_type1 (thn (ha pos pins s σ H _ I h) fun us s1 ⟨vs,H1,I1,r1,q1⟩=>hc pins s1 σ H1 vs us Q I1 r1 q1) he hpl
end
end L2
namespace HT
open PySem PyProof.Rows
section
open PySem.SeqAt
open PySem.AutoSeq1 (wpAny_loadPart')
open PySem.MeetsSeq PySem.MeetsSeq2 PySem.MeetsSeq3
end
section
variable {prog : Program} {w : World} {A : Around} {E : Value->Shared->Prop} {s : Shared}
noncomputable def sIx (n d : Nat) : Option Int->Nat
 | none=>d
 | some v=>if v < 0 then (v + (n : Int)).toNat else min v.toNat n
theorem sIx_le (n d : Nat) (hd : d<=n) (o : Option Int) : sIx n d o<=n:=by
 cases o with
 | none=>exact hd
 | some v=>
  show (if v < 0 then (v + (n : Int)).toNat else min v.toNat n)<=n
  by_cases hv : v < 0
  ·rw [if_pos hv];lia
  ·rw [if_neg hv];exact Nat.min_le_right _ _
theorem clip_eq (v : Int) (n d : Nat) : (if v < 0 then max (v + (n : Int)) 0 else min v (n : Int)) = ((sIx n d (some v) : Nat) : Int):=by
 show (if v < 0 then max (v + (n : Int)) 0 else min v (n : Int)) = (((if v < 0 then (v + (n : Int)).toNat else min v.toNat n) : Nat) : Int)
 by_cases hv : v < 0
 ·simp only [if_pos hv];lia
 ·simp only [if_neg hv];lia
theorem adjust_gen (lo hi : Option Int) (n : Nat) : Builtin.Slice.sliceAdjust lo hi 1 (n : Int) = (((sIx n 0 lo : Nat) : Int),((sIx n n hi : Nat) : Int)):=by
 have h1 : ¬ ((1 : Int) < 0):=by lia
 unfold Builtin.Slice.sliceAdjust
 simp only [h1,if_false]
 refine Prod.ext ?_ ?_
 ·cases lo with
  | none=>rfl
  | some v=>exact clip_eq v n 0
 ·cases hi with
  | none=>rfl
  | some v=>exact clip_eq v n n
theorem places_gen (i j : Nat) : Builtin.Slice.slicePlaces (i : Int) (j : Int) 1 = j - i:=by
 unfold Builtin.Slice.slicePlaces
 have h1 : (1 : Int) > 0:=by lia
 simp only [h1,if_true,Int.ediv_one]
 split <;> lia
theorem slicePart_ {v : Value} {o : Option Int} {Q : Option Int->Shared->Prop} (p : IsPart v o) (h : Q o s) : wpAny (model prog w) A (Builtin.Slice.slicePartIndex v) Q E s:=by
 cases p with
 | none=>exact slicePart_none h
 | int i t=>exact slicePart_int h
theorem sliceApplied_gen {sl : Addr} {vl vu : Value} {lo hi : Option Int} {n : Nat} {Q : Int × Int × Nat->Shared->Prop} (hs : s.heap.IsSliceOf sl vl vu .none) (pl : IsPart vl lo) (pu : IsPart vu hi)
  (h : Q (((sIx n 0 lo : Nat) : Int),1,sIx n n hi - sIx n 0 lo) s) : wpAny (model prog w) A (Builtin.Slice.sliceApplied (.ref sl) (pure (n : Int))) Q E s:=by
 obtain ⟨os,hos,hcs,hds⟩:=id hs
 unfold Builtin.Slice.sliceApplied Builtin.Slice.sliceFields
 refine wpAny_bind (wpAny_bind (wpAny_field hos hds (x:=vl) rfl (wpAny_bind (wpAny_field hos hds (x:=vu) rfl (wpAny_bind (wpAny_field hos hds (x:=.none) rfl (wpAny_pure ?_)))))))
 refine wpAny_bind (slicePart_none ?_)
 show wpAny _ _ (if ((1 : Int) == 0) = true then _ else _) _ _ s
 rw [if_neg (by decide)]
 refine wpAny_bind (slicePart_ pl (wpAny_bind (slicePart_ pu (wpAny_bind (wpAny_pure ?_)))))
 show wpAny _ _ (match Builtin.Slice.sliceAdjust lo hi 1 (n : Int) with | (lo,hi)=>pure (lo,(1 : Int),Builtin.Slice.slicePlaces lo hi 1)) _ _ s
 rw [adjust_gen lo hi n]
 show wpAny _ _ (pure (((sIx n 0 lo : Nat) : Int),(1 : Int),Builtin.Slice.slicePlaces ((sIx n 0 lo : Nat) : Int) ((sIx n n hi : Nat) : Int) 1)) _ _ s
 rw [places_gen]
 exact wpAny_pure h
theorem pick_gen (xs : Array Value) (i k : Nat) : ((List.range k).filterMap fun (m : Nat)=>xs[((i : Int) + (m : Int) * 1).toNat]?).toArray = ((xs.toList.drop i).take k).toArray:=by
 have e : (fun (m : Nat)=>xs[((i : Int) + (m : Int) * 1).toNat]?) = fun m=>xs[i + m]?:=by
  funext m
  have : ((i : Int) + (m : Int) * 1).toNat = i + m:=by lia
  rw [this]
 rw [e]
 have:=pick_run xs i k
 rw [List.filterMap_map] at this
 have e2 : ((fun x=>xs[x]?) ∘ fun x=>i + x) = fun m=>xs[i + m]?:=rfl
 rw [e2] at this
 rw [this]
theorem getItem_tuple_cut {t sl : Addr} {items : Array Value} {vl vu : Value} {lo hi : Option Int} {Q : Value->Shared->Prop} (ht : IsTup s.heap t items) (hs : s.heap.IsSliceOf sl vl vu .none) (pl : IsPart vl lo) (pu : IsPart vu hi)
  (hw : ¬ (sIx items.size 0 lo = 0/\sIx items.size items.size hi = items.size))
  (h : Q (.ref s.heap.objs.size) { s with heap:=s.heap.push { cls:=.type "tuple",data:=.seq ((items.toList.drop (sIx items.size 0 lo)).take (sIx items.size items.size hi - sIx items.size 0 lo)).toArray } })
  (hsz : items.size<=sizeLine) : wpAny (model prog w) A (getItem (.ref t) (.ref sl)) Q E s:=by
 have htake : sizeOk (.seq ((items.toList.drop (sIx items.size 0 lo)).take (sIx items.size items.size hi - sIx items.size 0 lo)).toArray):=by
  show ((items.toList.drop (sIx items.size 0 lo)).take (sIx items.size items.size hi - sIx items.size 0 lo)).toArray.size<=sizeLine
  rw [List.size_toArray,List.length_take,List.length_drop,Array.length_toList]
  lia
 have hj : sIx items.size items.size hi<=items.size:=sIx_le _ _ (Nat.le_refl _) hi
 obtain ⟨os,hos,hcs,hds⟩:=id hs
 have hTs : s.TypeIs (.ref sl) "slice":=⟨os,hos,hcs⟩
 unfold getItem
 try with_reducible refine wpAny_holding ?_
 first | refine wpAny_bind (wpAny_pure ?_) | skip
 refine wpAny_bind (wpAny_sequenceKey ht.typeIs (by decide) ?_)
 refine wpAny_bind (wpAny_callSpecial?_slot (name:=Str.ofString "__getitem__") ht.typeIs PyProof.Rows.slot_tuple_getitem
  (wpAny_call_entry PyProof.Rows.slot_tuple_getitem ht.typeIs entry_tuple_getitem ?_ (args_tuple_getitem _ _)))
 show wpAny _ _ (Builtin.Tuple.tupleItemsOf (.ref t) >>= _) _ _ s
 refine wpAny_bind (tupleItemsOf_ ht ?_)
 refine wpAny_bind (wpAny_typeOf hTs ?_)
 rw [if_pos (by decide)]
 refine wpAny_bind (sliceApplied_gen hs pl pu ?_)
 have hno : ¬ ((((sIx items.size 0 lo : Nat) : Int) == 0 && (1 : Int) == 1 && (sIx items.size items.size hi - sIx items.size 0 lo) == items.size) = true):=by
  intro q
  rw [Bool.and_eq_true,Bool.and_eq_true] at q
  have q1 : ((sIx items.size 0 lo : Nat) : Int) = 0:=eq_of_beq q.1.1
  have q2 : sIx items.size items.size hi - sIx items.size 0 lo = items.size:=eq_of_beq q.2
  exact hw ⟨by lia,by lia⟩
 show wpAny _ _ (if (((sIx items.size 0 lo : Nat) : Int) == 0 && (1 : Int) == 1 && (sIx items.size items.size hi - sIx items.size 0 lo) == items.size) = true then _ else _) _ _ s
 rw [if_neg hno,pick_gen]
 first
  | exact wpAny_bind (m:=Builtin.Tuple.tupleExact _) (wpAny_newObj_type (wpAny_pure ⟨_,rfl,wpAny_pure h⟩) htake)
  | exact wpAny_bind (m:=Builtin.Tuple.tupleExact _) (wpAny_newObj_type (wpAny_bind (wpAny_pure (wpAny_pure ⟨_,rfl,wpAny_pure h⟩))) htake)
  | exact wpAny_bind (wpAny_bind (m:=Builtin.Tuple.tupleExact _) (wpAny_newObj_type (wpAny_pure (wpAny_pure ⟨_,rfl,wpAny_pure h⟩)) htake))
  | exact wpAny_bind (wpAny_bind (m:=Builtin.Tuple.tupleExact _) (wpAny_newObj_type (wpAny_pure ⟨_,rfl,wpAny_pure h⟩) htake))
end
end HT
namespace L2
open PySem PySem.Spec PyProof.Rows
noncomputable abbrev TO:=St->Hp->(Option Int->Hp->Prop)->Prop
noncomputable def PO (X : Cx) (e : Option Expr) (t : TO) : Prop:=
 ∀ (pins : List (Addr × Obj)) (s : Shared) (σ : St) (H : Hp) (Q : Option Int->Hp->Prop),Inv X pins σ H s->t σ H Q->
  wpAny (model X.prog X.w) X.A (evalPart e X.env) (fun u s'=>∃ o H',Inv X pins σ H' s'/\IsPart u o/\Q o H') X.xe s
noncomputable def tPart (t : TE) : TO:=fun σ H Q=>t σ H fun x H1=>∃ i,x = .int i/\Q (some i) H1
section
variable {X : Cx} {e : Expr} {te : TE} {lo hi : Option Expr} {tl th : TO} {pos p2 : Pos}
theorem po_some (h : PE X e te) : PO X (some e) (tPart te):=by
 intro pins s σ H Q I hw
 rw [evalPart_some]
 refine thn (h pins s σ H _ I hw) fun u s1 ⟨x,H1,I1,r1,q1⟩=>?_
 obtain ⟨i,rfl,q⟩:=q1
 obtain ⟨t,rfl⟩:=r1
 exact ⟨some i,H1,I1,.int i t,q⟩
noncomputable def SlR (X : Cx) (r : V->Option Int->Option Int->Hp->VK->Prop) : Prop:=
 ∀ (pins : List (Addr × Obj)) (s : Shared) (σ : St) (H : Hp) (x : V) (v vl vu : Value) (lo hi : Option Int) (sl : Addr) (Q : VK),Inv X pins σ H s->RelV x v->s.heap.IsSliceOf sl vl vu .none->IsPart vl lo->IsPart vu hi->r x lo hi H Q->
  ∃ T id,typeLookup (.type T) "__getitem__" = pure (some (.builtin id))/\s.TypeIs v T/\wpAny (model X.prog X.w) X.A (getItem v (.ref sl)) (EP X pins σ Q) X.xe s
noncomputable def tSl (r : V->Option Int->Option Int->Hp->VK->Prop) (te : TE) (tl th : TO) : TE:=fun σ H Q=>te σ H fun x H1=>tl σ H1 fun l H2=>th σ H2 fun u H3=>r x l u H3 Q
theorem pe_slice {r : V->Option Int->Option Int->Hp->VK->Prop} (hr : SlR X r) (he : PE X e te) (hl : PO X lo tl) (hu : PO X hi th) : PE X (.Subscript e (.Slice lo hi none p2) pos) (tSl r te tl th):=by
 intro pins s σ H Q I h
 refine Subscript_ (thn (he pins s σ H _ I h) fun v s1 ⟨x,H1,I1,r1,q1⟩=>?_)
 refine wpAny_Slice (thn (hl pins s1 σ H1 _ I1 q1) fun vl s2 ⟨l,H2,I2,pl,q2⟩=>thn (hu pins s2 σ H2 _ I2 q2) fun vu s3 ⟨u,H3,I3,pu,q3⟩=>?_)
 rw [evalPart_none]
 refine wpAny_pure ?_
 have I4 : Inv X pins σ H3 { s3 with heap:=s3.heap.push { cls:=.type "slice",data:=.fields #[vl,vu,.none] } }:=I3.kept (t':=s3.toks) fun b ob q=>Heap.get?_push_of_some _ q
 obtain ⟨T,id,hT,ht,hg⟩:=hr pins { s3 with heap:=s3.heap.push { cls:=.type "slice",data:=.fields #[vl,vu,.none] } } σ H3 x v vl vu l u s3.heap.objs.size Q I4 r1 (Heap.IsSliceOf.new ..) pl pu q3
 show wpAny (model X.prog X.w) X.A (subscriptTail e (.Slice lo hi none p2) v (.ref s3.heap.objs.size)) (EP X pins σ Q) X.xe { s3 with heap:=s3.heap.push { cls:=.type "slice",data:=.fields #[vl,vu,.none] } }
 exact tail_any (ops:=[.ref s3.heap.objs.size,v]) ht hT hg (by with_unfolding_all rfl)
noncomputable def cutV (xs : List V) (lo hi : Option Int) : List V:=(xs.drop (HT.sIx xs.length 0 lo)).take (HT.sIx xs.length xs.length hi - HT.sIx xs.length 0 lo)
theorem cutV_length (xs : List V) (lo hi : Option Int) : (cutV xs lo hi).length<=xs.length:=by
 unfold cutV
 rw [List.length_take,List.length_drop]
 lia
noncomputable def rSlT (K : PySem.W.Frag) : V->Option Int->Option Int->Hp->VK->Prop:=fun x lo hi H Q=>∃ a xs,x = .ref a/\SqT K H a xs/\
 ¬ (HT.sIx xs.length 0 lo = 0/\HT.sIx xs.length xs.length hi = xs.length)/\∀ p,H p = none->Q (.ref p) (upd H p (.tup (cutV xs lo hi)))
theorem sl_tup : SlR X (rSlT X.K):=by
 intro pins s σ H x v vl vu lo hi sl Q I rx hs pl pu h
 obtain ⟨a,xs,rfl,hx,hw,q⟩:=h
 cases rx
 obtain ⟨its,r,ht,hz⟩:=I.tuple hx
 have hlen : its.toArray.size = xs.length:=by rw [List.size_toArray];exact r.length.symm
 refine ⟨"tuple",_,PyProof.Rows.slot_tuple_getitem.lookup,ht.typeIs,?_⟩
 refine HT.getItem_tuple_cut ht hs pl pu (by rw [hlen];exact hw) ?_ (by rw [hlen];exact hz)
 rw [hlen]
 refine ⟨.ref s.heap.objs.size,_,I.laid (t':=s.toks) (o:=.tup (cutV xs lo hi)) (fun b ob q=>Heap.get?_push_of_some _ q) (Nat.le_refl _) ?_,rfl,q _ (I.hok.fresh (Nat.le_refl _))⟩
 exact ⟨Nat.le_trans (cutV_length xs lo hi) hz,_,(r.drop (HT.sIx xs.length 0 lo)).take (HT.sIx xs.length xs.length hi - HT.sIx xs.length 0 lo),IsTupN.new _ _⟩
end
end L2
namespace L2
open PySem PySem.Spec PyProof.Rows
noncomputable def ixN (n : Nat) (i : Int) : Option Nat:=if 0<=i then (if i < n then some i.toNat else none) else if -(n : Int)<=i then some (i + n).toNat else none
noncomputable def atI {α : Type} (xs : List α) (i : Int) : Option α:=(ixN xs.length i).bind fun j=>xs[j]?
theorem ixN_seq {n : Nat} {i : Int} {j : Nat} (h : ixN n i = some j) : seqIndex? i n = some j/\j < n/\-(n : Int)<=i/\i < n:=by
 unfold ixN at h
 by_cases h0 : 0<=i
 ·rw [if_pos h0] at h
  by_cases h1 : i < n
  ·rw [if_pos h1] at h
   have e : i.toNat = j:=Option.some.inj h
   exact ⟨by rw [seqIndex_of h0 h1,e],by lia,by lia,h1⟩
  ·rw [if_neg h1] at h;cases h
 ·rw [if_neg h0] at h
  by_cases h1 : -(n : Int)<=i
  ·rw [if_pos h1] at h
   have e : (i + n).toNat = j:=Option.some.inj h
   exact ⟨by rw [seqIndex_neg (by lia) h1,e],by lia,h1,by lia⟩
  ·rw [if_neg h1] at h;cases h
theorem atI_get {α : Type} {xs : List α} {i : Int} {v : α} (h : atI xs i = some v) : ∃ j,seqIndex? i xs.length = some j/\xs[j]? = some v/\j < xs.length/\-(xs.length : Int)<=i/\i < xs.length:=by
 unfold atI at h
 cases e : ixN xs.length i with
 | none=>rw [e] at h;cases h
 | some j=>
  rw [e] at h
  obtain ⟨h1,h2,h3,h4⟩:=ixN_seq e
  exact ⟨j,h1,h,h2,h3,h4⟩
noncomputable def PlainIx (b : Expr) : Prop:=∀ o i,subscripted b false o i = operate [o,i] (getItem o i)
noncomputable def IxR (X : Cx) (r : R2) : Prop:=
 ∀ (value slice : Expr) (pins : List (Addr × Obj)) (s : Shared) (σ : St) (H : Hp) (x y : V) (v u : Value) (Q : VK),Inv X pins σ H s->RelV x v->RelV y u->r x y H Q->
  subscripted slice false v u = operate [v,u] (getItem v u)->wpAny (model X.prog X.w) X.A (subscriptTail value slice v u) (EP X pins σ Q) X.xe s
noncomputable def MtR (X : Cx) (id : String) (r : V->List V->Hp->VK->Prop) : Prop:=
 ∀ (pins : List (Addr × Obj)) (s : Shared) (σ : St) (H : Hp) (x : V) (xs : List V) (v : Value) (us : List Value) (Q : VK),Inv X pins σ H s->RelV x v->Vals xs us->r x xs H Q->
  wpAny (model X.prog X.w) X.A (call (.builtin id) (v :: us)) (EP X pins σ Q) X.xe s
section
variable {X : Cx} {a b : Expr} {ta tb : TE} {pos : Pos}
theorem pe_ix {r : R2} (hr : IxR X r) (ha : PE X a ta) (hb : PE X b tb) (hs : PlainIx b) : PE X (.Subscript a b pos) (tOp r ta tb):=by
 intro pins s σ H Q I h
 exact Subscript_ (binT ha hb I h fun v u s2 x y H2 I2 rx ry q=>hr a b pins s2 σ H2 x y v u Q I2 rx ry q (hs _ _))
noncomputable def rIxL (K : PySem.W.Frag) : R2:=fun x y H Q=>∃ p xs i v,x = .ref p/\y = .int i/\SqL K H p xs/\atI xs i = some v/\Q v H
noncomputable def rIxT (K : PySem.W.Frag) : R2:=fun x y H Q=>∃ p xs i v,x = .ref p/\y = .int i/\SqT K H p xs/\atI xs i = some v/\Q v H
noncomputable def rIxS : R2:=fun x y H Q=>∃ z i c,x = .str z/\y = .int i/\z.length<=sizeLine/\atI z.cps.toList i = some c/\Q (.str ⟨#[c]⟩) H
theorem ix_list : IxR X (rIxL X.K):=by
 intro value slice pins s σ H x y v u Q I rx ry h hs
 obtain ⟨p,xs,i,z,rfl,rfl,hq,he,q⟩:=h
 cases rx
 obtain ⟨t,rfl⟩:=ry
 obtain ⟨its,r,pl,hz⟩:=I.list hq
 obtain ⟨j,h1,h2,h3,h4,h5⟩:=atI_get he
 obtain ⟨w,ew,rw'⟩:=r.get h2
 have hl:=r.length
 have hn:=line63
 have fin : EP X pins σ Q w s:=⟨z,H,I,rw',q⟩
 by_cases h0 : 0<=i
 ·have hj : i.toNat = j:=by
   rw [seqIndex_of h0 h5] at h1
   exact Option.some.inj h1
  exact item_listR pl.isList h0 (by lia) (by rw [hj];simpa using ew) fin hs
 ·have hj : (i + (its.toArray.size : Int)).toNat = j:=by
   rw [seqIndex_neg (by lia) h4] at h1
   rw [List.size_toArray,<- hl]
   exact Option.some.inj h1
  exact subscriptTail_builtinR (x:=w) pl.isList.typeIs slot_list_getitem.lookup
   (wpAny_getItem_list_neg (Q:=fun r s'=>r = w/\EP X pins σ Q r s') pl.isList (by lia) (by rw [List.size_toArray] <;> lia) (by lia) (by rw [hj];simpa using ew) ⟨rfl,fin⟩) hs
theorem ix_tup : IxR X (rIxT X.K):=by
 intro value slice pins s σ H x y v u Q I rx ry h hs
 obtain ⟨p,xs,i,z,rfl,rfl,hq,he,q⟩:=h
 cases rx
 obtain ⟨t,rfl⟩:=ry
 obtain ⟨its,r,pl,hz⟩:=I.tuple hq
 obtain ⟨j,h1,h2,h3,h4,h5⟩:=atI_get he
 obtain ⟨w,ew,rw'⟩:=r.get h2
 have hl:=r.length
 have hn:=line63
 have fin : EP X pins σ Q w s:=⟨z,H,I,rw',q⟩
 exact subscriptTail_builtinR (x:=w) pl.typeIs slot_tuple_getitem.lookup
  (getItem_tuple (j:=j) (Q:=fun r s'=>r = w/\EP X pins σ Q r s') pl (by lia) (by lia) (by rw [List.size_toArray,<- hl];exact h1) (by simpa using ew) ⟨rfl,fin⟩) hs
theorem ix_str : IxR X rIxS:=by
 intro value slice pins s σ H x y v u Q I rx ry h hs
 obtain ⟨z,i,c,rfl,rfl,hz,he,q⟩:=h
 obtain ⟨t,rfl⟩:=rx
 obtain ⟨t',rfl⟩:=ry
 obtain ⟨j,h1,h2,h3,h4,h5⟩:=atI_get he
 have hl : z.cps.toList.length = z.length:=by simp [Str.length]
 rw [hl] at h1 h4 h5
 have hn:=line63
 exact tail_any (typeIs_str s z t) slot_str_getitem.lookup (getItem_str (c:=c) (by
  have e1 : decide (i < -(2 ^ 63 : Int)) = false:=decide_eq_false (by lia)
  have e2 : decide (i >= 2 ^ 63) = false:=decide_eq_false (by lia)
  rw [e1,e2,Bool.or_false]) (by rw [h1];simpa using h2) ⟨.str ⟨#[c]⟩,H,I.tok _,⟨_,rfl⟩,q⟩) hs
theorem slice_bounds (lo hi : Option Int) (n : Nat) : (sliceBounds lo hi none n).1 = ((HT.sIx n 0 lo : Nat) : Int)/\(sliceBounds lo hi none n).2.1 = ((HT.sIx n n hi : Nat) : Int)/\(sliceBounds lo hi none n).2.2 = 1:=by
 refine ⟨?_,?_,rfl⟩
 ·cases lo with
  | none=>simp [sliceBounds,HT.sIx]
  | some i=>
   simp only [sliceBounds,HT.sIx,Option.getD_none,show (1 : Int) > 0 by decide,if_true]
   by_cases h : i < 0
   ·simp only [h,if_true] <;> lia
   ·simp only [h,if_false] <;> lia
 ·cases hi with
  | none=>simp [sliceBounds,HT.sIx]
  | some i=>
   simp only [sliceBounds,HT.sIx,Option.getD_none,show (1 : Int) > 0 by decide,if_true]
   by_cases h : i < 0
   ·simp only [h,if_true] <;> lia
   ·simp only [h,if_false] <;> lia
theorem slicePick_cut (its : List Value) (lo hi : Option Int) : slicePick its.toArray lo hi none = ((its.drop (HT.sIx its.length 0 lo)).take (HT.sIx its.length its.length hi - HT.sIx its.length 0 lo)).toArray:=by
 obtain ⟨h1,h2,h3⟩:=slice_bounds lo hi its.toArray.size
 unfold slicePick
 rw [h1,h2,h3]
 simp only [sliceRange_one,pick_run,List.size_toArray] <;> rfl
noncomputable def rSlL (K : PySem.W.Frag) : V->Option Int->Option Int->Hp->VK->Prop:=fun x lo hi H Q=>∃ a xs,x = .ref a/\SqL K H a xs/\∀ p,H p = none->Q (.ref p) (upd H p (.lst (cutV xs lo hi)))
theorem sl_list : SlR X (rSlL X.K):=by
 intro pins s σ H x v vl vu lo hi sl Q I rx hs pl pu h
 obtain ⟨a,xs,rfl,hx,q⟩:=h
 cases rx
 obtain ⟨its,r,ht,hz⟩:=I.list hx
 have hlen:=r.length
 refine ⟨"list",_,slot_list_getitem.lookup,ht.isList.typeIs,?_⟩
 refine wpAny_getItem_list_slice ht.isList hs pl pu .none (by simp) ?_ (by rw [List.size_toArray] <;> lia)
 rw [slicePick_cut,<- hlen]
 refine ⟨.ref s.heap.objs.size,_,I.laid (t':=s.toks) (o:=.lst (cutV xs lo hi)) (fun b ob q=>Heap.get?_push_of_some _ q) (Nat.le_refl _) ?_,rfl,q _ (I.hok.fresh (Nat.le_refl _))⟩
 exact ⟨Nat.le_trans (cutV_length xs lo hi) hz,_,0,(r.drop (HT.sIx xs.length 0 lo)).take (HT.sIx xs.length xs.length hi - HT.sIx xs.length 0 lo),Heap.get?_push_size _ rfl⟩
theorem call_len_seq : CallR X (.builtin "len") (fun xs H Q=>∃ p ys,xs = [.ref p]/\(SqL X.K H p ys\/SqT X.K H p ys)/\Q (.int ys.length) H):=by
 intro pins s σ H xs us Q I r h
 obtain ⟨p,ys,rfl,hq,q⟩:=h
 obtain ⟨u,rfl,rx⟩:=vals1 r
 cases rx
 have hn:=line63
 rcases hq with hq | hq
 ·obtain ⟨its,r',pl,hz⟩:=I.list hq
  have hlen:=r'.length
  exact Calls.call_len_list pl.isList (by simp only [List.size_toArray] <;> lia) ⟨.int ys.length,H,I.tok _,⟨s.toks + 1,by rw [List.size_toArray,hlen]⟩,q⟩
 ·obtain ⟨its,r',pl,hz⟩:=I.tuple hq
  have hlen:=r'.length
  exact len_tuple pl (by simp only [List.size_toArray] <;> lia) ⟨.int ys.length,H,I.tok _,⟨s.toks + 1,by rw [List.size_toArray,hlen]⟩,q⟩
theorem call_len_str : CallR X (.builtin "len") (fun xs H Q=>∃ z,xs = [.str z]/\z.length<=sizeLine/\Q (.int z.length) H):=by
 intro pins s σ H xs us Q I r h
 obtain ⟨z,rfl,hz,q⟩:=h
 obtain ⟨u,rfl,t,rfl⟩:=vals1 r
 have hn:=line63
 exact len_str (by lia) ⟨.int z.length,H,I.tok _,⟨_,rfl⟩,q⟩
theorem call_list_of : CallR X (.type "list") (fun xs H Q=>∃ p ys,xs = [.ref p]/\(SqL X.K H p ys\/SqT X.K H p ys)/\∀ l,H l = none->Q (.ref l) (upd H l (.lst ys))):=by
 intro pins s σ H xs us Q I r h
 obtain ⟨p,ys,rfl,hq,q⟩:=h
 obtain ⟨u,rfl,rx⟩:=vals1 r
 cases rx
 have fin : ∀ (its : List Value),Vals ys its->ys.length<=sizeLine->∀ (h' : Heap) (c' : Nat),(∀ b o',s.heap.get? b = some o'->h'.get? b = some o')->
   h'.get? s.heap.objs.size = some { cls:=.type "list",dict:=none,data:=.seq its.toArray c',slots:=#[] }->EP X pins σ Q (.ref s.heap.objs.size) { s with heap:=h' }:=fun its r' hz h' c' kp e=>
  ⟨.ref s.heap.objs.size,_,I.laid (t':=s.toks) kp (Nat.le_refl _) (show ObjOk X.prog X.w _ h' _ (.lst ys) from ⟨hz,its,c',r',e⟩),rfl,q _ (I.hok.fresh (Nat.le_refl _))⟩
 rcases hq with hq | hq
 ·obtain ⟨its,r',pl,hz⟩:=I.list hq
  have hlen:=r'.length
  obtain ⟨o,ho,hc,n,hd⟩:=pl.isList
  exact call_list_seq p (.inl rfl) ho hc hd (fun h' c' kp e=>fin its r' hz h' c' kp e) (by simp only [List.size_toArray] <;> lia)
 ·obtain ⟨its,r',pl,hz⟩:=I.tuple hq
  have hlen:=r'.length
  obtain ⟨o,ho,hc,n,hd⟩:=pl
  exact call_list_seq p (.inr rfl) ho hc hd (fun h' c' kp e=>fin its r' hz h' c' kp e) (by simp only [List.size_toArray] <;> lia)
theorem call_tuple_of : CallR X (.type "tuple") (fun xs H Q=>∃ p ys,xs = [.ref p]/\((SqL X.K H p ys/\∀ l,H l = none->Q (.ref l) (upd H l (.tup ys)))\/(SqT X.K H p ys/\Q (.ref p) H))):=by
 intro pins s σ H xs us Q I r h
 obtain ⟨p,ys,rfl,h⟩:=h
 obtain ⟨u,rfl,rx⟩:=vals1 r
 cases rx
 rcases h with ⟨hq,q⟩ | ⟨hq,q⟩
 ·obtain ⟨its,r',pl,hz⟩:=I.list hq
  have hlen:=r'.length
  refine call_tuple_list pl.isList (fun h' kp=>?_) (by simp only [List.size_toArray] <;> lia)
  have I1 : Inv X pins σ H { s with heap:=h' }:=I.kept (t':=s.toks) kp
  have I2 : Inv X pins σ (upd H h'.objs.size (.tup ys)) { s with heap:=h'.push { cls:=.type "tuple",data:=.seq its.toArray } }:=
   I1.laid (t':=s.toks) (fun b o e=>Heap.get?_push_of_some _ e) (Nat.le_refl _) (show ObjOk X.prog X.w _ _ _ (.tup ys) from ⟨hz,its,r',IsTupN.new _ _⟩)
  exact ⟨.ref h'.objs.size,_,I2,rfl,q _ (I1.hok.fresh (Nat.le_refl _))⟩
 ·obtain ⟨its,r',pl,hz⟩:=I.tuple hq
  exact call_tuple_same pl ⟨.ref p,H,I,rfl,q⟩
noncomputable def tyV (K : PySem.W.Frag) (T : String) (x : V) (H : Hp) : Prop:=match x with
 | .str _=>T = "str"
 | .int _=>T = "int"
 | .ref p=>(T = "list"/\∃ xs,SqL K H p xs)\/(T = "tuple"/\((∃ o,K.lookup p = some o/\o.cls = .type "tuple"/\o.dict = none)\/∃ xs,H p = some (.tup xs)))\/
   (T = "dict"/\((∃ kvs,H p = some (.dK kvs))\/∃ kvs,H p = some (.dT kvs)))\/(T = "set"/\∃ S n,H p = some (.set S n))
 | _=>False
theorem tyV_is {pins : List (Addr × Obj)} {σ : St} {H : Hp} {s : Shared} {T : String} {x : V} {v : Value} (I : Inv X pins σ H s) (r : RelV x v) (ty : tyV X.K T x H) :
  s.TypeIs v T/\∀ a,v = .ref a->∃ ob,s.heap.get? a = some ob/\ob.dict = none:=by
 cases x with
 | str z=>
  obtain ⟨t,rfl⟩:=r
  cases (show T = "str" from ty)
  exact ⟨typeIs_str s z t,fun _ e=>nomatch e⟩
 | int i=>
  obtain ⟨t,rfl⟩:=r
  cases (show T = "int" from ty)
  exact ⟨typeIs_int s i t,fun _ e=>nomatch e⟩
 | ref p=>
  cases r
  rcases ty with ⟨rfl,xs,hq⟩ | ⟨rfl,⟨o,hk,hc,hd⟩ | ⟨xs,hk⟩⟩ | ⟨rfl,hk⟩ | ⟨rfl,S,n,hk⟩
  ·obtain ⟨its,_,pl,_⟩:=I.list hq
   refine ⟨pl.isList.typeIs,fun a e=>?_⟩
   cases e
   obtain ⟨o,n,e,c,hd,_⟩:=pl
   exact ⟨o,e,hd⟩
  ·refine ⟨⟨o,I.kIn p o hk,hc⟩,fun a e=>?_⟩
   cases e
   exact ⟨o,I.kIn _ o hk,hd⟩
  ·obtain ⟨_,its,_,pl⟩:=I.hok p _ hk
   refine ⟨(IsTupN.tup pl).typeIs,fun a e=>?_⟩
   cases e
   exact IsTupN.bare pl
  ·have z : ∃ o,s.heap.get? p = some o/\o.ExactDict:=by
    rcases hk with ⟨kvs,hk⟩ | ⟨kvs,hk⟩
    ·obtain ⟨_,_,_,_,o,_,_,e,ex,_⟩:=I.hok p _ hk
     exact ⟨o,e,ex⟩
    ·obtain ⟨_,_,_,_,o,_,_,e,ex,_⟩:=I.hok p _ hk
     exact ⟨o,e,ex⟩
   obtain ⟨o,e,ex⟩:=z
   refine ⟨⟨o,e,ex.1⟩,fun a e2=>?_⟩
   cases e2
   exact ⟨o,e,ex.2.1⟩
  ·obtain ⟨o,_,_,_,e,ex,_⟩:=I.hok p _ hk
   refine ⟨⟨o,e,ex.1⟩,fun a e2=>?_⟩
   cases e2
   exact ⟨o,e,ex.2.1⟩
 | _=>exact False.elim ty
noncomputable def tBM (K : PySem.W.Frag) (T : String) (r : V->List V->Hp->VK->Prop) (to : TE) (t : TA) : TE:=fun σ H Q=>to σ H fun x H1=>tyV K T x H1/\t σ H1 fun xs H2=>r x xs H2 Q
variable {o e : Expr} {es : List Expr} {to : TE} {t : TA} {name : Str} {apos cpos : Pos} {T id : String} {r : V->List V->Hp->VK->Prop}
theorem pe_bm (pa : PlainAttrs T) (slot : Slot T name id) (hty : typeOf (.builtin id) = pure (.type "method_descriptor")) (hm : MtR X id r) (ho : PE X o to) (ha : PA X (e :: es) t)
  (hbase : attributeBase o name X.env (eval o X.env) = eval o X.env:=by rfl)
  (hfew : ((backTo cpos (starEach (e :: es) X.env)).all (fun x=>!x.1) && (backToKw cpos (keywordEach [] X.env)).all (fun x=>x.1.isSome)
   && decide ((e :: es).length + ([] : List Keyword).length + (if ([] : List Keyword).isEmpty then 0 else 1) < 30)) = true:=by rfl)
  (hline : (apos.endLine == cpos.line) = true:=by rfl) (hs : starEach (e :: es) X.env = (false,eval e X.env) :: starEach es X.env:=by rfl) (hplain : (backTo cpos (starEach es X.env)).any (·.1) = false:=by rfl) :
  PE X (.Call (.Attribute o name apos) (e :: es) [] cpos) (tBM X.K T r to t):=by
 intro pins s σ H Q I h
 refine wpAny_Call_method_late hbase hfew hline rfl (thn (ho pins s σ H _ I h) fun v s1 ⟨x,H1,I1,r1,ty,q1⟩=>?_)
 obtain ⟨h1,h2⟩:=tyV_is I1 r1 ty
 refine ⟨T,id,pa,slot,hty,h1,h2,?_⟩
 have hA:=ha cpos pins s1 σ H1 _ I1 q1
 rw [hs] at hA ⊢
 refine Calls.callWith_builtin (by show (false || (backTo cpos (starEach es X.env)).any (·.1)) = false;rw [hplain] <;> rfl) (Calls.evalArgs_plain ?_)
 exact thn hA fun us s2 ⟨vs,H2,I2,r2,q2⟩=>hm pins s2 σ H2 x vs v us Q I2 r1 r2 q2
end
end L2
namespace L2
open PySem PySem.Spec PyProof.Rows
noncomputable def MtM (X : Cx) (id : String) (r : V->List V->Hp->VK->Prop) : Prop:=
 ∀ (pins : List (Addr × Obj)) (s : Shared) (σ : St) (H : Hp) (x : V) (xs : List V) (v : Value) (us : List Value) (Q : VK),Inv X pins σ H s->RelV x v->Vals xs us->r x xs H Q->
  wpAny (model X.prog X.w) X.A (call (.builtin id) (v :: us)) (EP X pins σ Q) X.xe s
theorem Vals.one : ∀ {x : V} {us : List Value},Vals [x] us->∃ u,us = [u]/\RelV x u
 | _,_,.cons r .nil=>⟨_,rfl,r⟩
section
variable {X : Cx} {pins : List (Addr × Obj)} {σ : St} {H : Hp} {s : Shared} {l b : Addr} {xs ys zs : List V}
theorem Inv.lset {its its' : List Value} {n : Nat} {f : Array Value->Array Value} {t' : Nat} (I : Inv X pins σ H s) (hH : H l = some (.lst xs))
  (e : s.heap.get? l = some { cls:=.type "list",data:=.seq its.toArray n }) (hf : f its.toArray = its'.toArray) (hv : Vals ys its') (hz : ys.length<=sizeLine) :
  Inv X pins σ (upd H l (.lst ys)) { s with heap:=s.heap.update l (Obj.mapSeq f),toks:=t' }:=by
 have q:=PySem.IsL.update e f
 rw [hf] at q
 refine I.write (x:=l) (e:=l) (by rw [hH];exact trivial) (.inl rfl) (fun b' u hb hu=>(Heap.get?_update_other s.heap (Obj.mapSeq f) (Ne.symm hb)).trans hu) ⟨_,q⟩ ?_
 exact ⟨hz,its',_,hv,q⟩
theorem Inv.lnew {its : List Value} {t' : Nat} (I : Inv X pins σ H s) (hv : Vals ys its) (hz : ys.length<=sizeLine) :
  Inv X pins σ (upd H s.heap.objs.size (.lst ys)) { s with heap:=s.heap.push { cls:=.type "list",data:=.seq its.toArray },toks:=t' }:=
 I.laid (fun _ _ q=>Heap.get?_push_of_some _ q) (Nat.le_refl _) ⟨hz,its,0,hv,Heap.get?_push_size _ rfl⟩
theorem Inv.fresh (I : Inv X pins σ H s) : H s.heap.objs.size = none:=I.hok.fresh (Nat.le_refl _)
theorem Inv.lstM (I : Inv X pins σ H s) (hH : H l = some (.lst xs)) : xs.length<=sizeLine/\∃ (its : List Value) (n : Nat),Vals xs its/\xs.length = its.length/\s.heap.get? l = some { cls:=.type "list",data:=.seq its.toArray n }:=by
 obtain ⟨z,its,n,r,e⟩:=I.hok l _ hH
 exact ⟨z,its,n,r,r.length,e⟩
end
section
variable {X : Cx}
noncomputable def rAppend : V->List V->Hp->VK->Prop:=fun x vs H Q=>∃ l xs y,x = .ref l/\vs = [y]/\H l = some (.lst xs)/\xs.length < sizeLine/\Q .non (upd H l (.lst (xs ++ [y])))
theorem mt_append : MtM X "list.append" rAppend:=by
 intro pins s σ H x vs v us Q I rx rv h
 obtain ⟨l,xs,y,rfl,rfl,hH,hz,q⟩:=h
 cases rx
 obtain ⟨u,rfl,ru⟩:=rv.one
 obtain ⟨z,its,n,r,hl,e⟩:=I.lstM hH
 refine call_meets F.slot_list_append ⟨_,e,rfl⟩ F.entry_list_append (F.args_list_append_2 _ _) (PySem.list_append l its.toArray n u (by rw [List.size_toArray];lia)) ⟨e,?_⟩
 refine ⟨.non,_,I.lset (its':=its ++ [u]) hH e (by simp) (r.append (.cons ru .nil)) ?_,rfl,q⟩
 rw [List.length_append,List.length_singleton]
 lia
end
section
variable {prog : Program} {w : World} {A : Around} {E : Value->Shared->Prop} {s : Shared}
end
section
variable {X : Cx}
end
end L2
namespace L2
open PySem PySem.Spec PyProof.Rows
section
variable {κ : Type} [DecidableEq κ]
noncomputable def valV (kvs : List (κ × V)) (k : κ) : Option V:=(kvs.find? fun kv=>decide (kv.1 = k)).map (·.2)
noncomputable def putK (kvs : List (κ × V)) (k : κ) (v : V) : List (κ × V):=
 if (kvs.any fun kv=>decide (kv.1 = k)) = true then kvs.map (fun kv=>if kv.1 = k then (kv.1,v) else kv) else kvs ++ [(k,v)]
theorem valV_pos {p : κ × V} {r : List (κ × V)} {k : κ} (e : p.1 = k) : valV (p :: r) k = some p.2:=by simp [valV,List.find?_cons,e]
theorem valV_neg {p : κ × V} {r : List (κ × V)} {k : κ} (e : ¬ p.1 = k) : valV (p :: r) k = valV r k:=by simp [valV,List.find?_cons,e]
theorem valV_any (k : κ) : ∀ kvs : List (κ × V),(kvs.any fun kv=>decide (kv.1 = k)) = (valV kvs k).isSome
 | []=>rfl
 | p :: r=>by
  rw [List.any_cons]
  by_cases e : p.1 = k
  ·simp only [valV_pos e,decide_eq_true e,Bool.true_or,Option.isSome_some]
  ·rw [valV_neg e,decide_eq_false e,Bool.false_or];exact valV_any k r
theorem length_putK (kvs : List (κ × V)) (k : κ) (v : V) : (putK kvs k v).length<=kvs.length + 1:=by
 unfold putK
 split
 ·rw [List.length_map];lia
 ·rw [List.length_append,List.length_cons,List.length_nil];lia
theorem putK_new {kvs : List (κ × V)} {k : κ} (v : V) (h : valV kvs k = none) : putK kvs k v = kvs ++ [(k,v)]:=by
 unfold putK
 rw [valV_any,h]
 exact if_neg (by decide)
theorem RelO.isSome_eq {o : Option V} {u : Option Value} (r : RelO o u) : o.isSome = u.isSome:=by
 cases o with
 | none=>cases u with
  | none=>rfl
  | some _=>exact (show False from r).elim
 | some _=>cases u with
  | none=>exact (show False from r).elim
  | some _=>rfl
theorem KV.val {kvs : List (κ × V)} {vs : List (κ × Value)} (r : KV kvs vs) (k : κ) : RelO (valV kvs k) (valueAt vs k):=by
 unfold KV at r
 induction r with
 | nil=>exact True.intro
 | @cons p q ps qs h t ih=>
  obtain ⟨h1,h2⟩:=h
  by_cases e : p.1 = k
  ·have e' : q.1 = k:=h1.symm.trans e
   have b : valueAt (q :: qs) k = some q.2:=by simp [valueAt,List.find?_cons,e']
   rw [valV_pos e,b];exact h2
  ·have e' : ¬ q.1 = k:=fun z=>e (h1.trans z)
   have b : valueAt (q :: qs) k = valueAt qs k:=by simp [valueAt,List.find?_cons,e']
   rw [valV_neg e,b];exact ih
theorem KV.any {kvs : List (κ × V)} {vs : List (κ × Value)} (r : KV kvs vs) (k : κ) : (kvs.any fun kv=>decide (kv.1 = k)) = vs.any fun kv=>decide (kv.1 = k):=by
 unfold KV at r
 induction r with
 | nil=>rfl
 | cons h t ih=>rw [List.any_cons,List.any_cons,ih,h.1]
theorem KV.repl {kvs : List (κ × V)} {vs : List (κ × Value)} (r : KV kvs vs) (k : κ) {y : V} {u : Value} (ry : RelV y u) :
  KV (kvs.map fun kv=>if kv.1 = k then (kv.1,y) else kv) (vs.map fun kv=>if kv.1 = k then (kv.1,u) else kv):=by
 unfold KV at r ⊢
 induction r with
 | nil=>exact .nil
 | @cons p q ps qs h t ih=>
  rw [List.map_cons,List.map_cons]
  refine .cons ?_ ih
  obtain ⟨h1,h2⟩:=h
  by_cases e : p.1 = k
  ·rw [if_pos e,if_pos (h1.symm.trans e)];exact ⟨h1,ry⟩
  ·rw [if_neg e,if_neg (fun z=>e (h1.trans z))];exact ⟨h1,h2⟩
theorem KV.put {kvs : List (κ × V)} {vs : List (κ × Value)} (r : KV kvs vs) (k : κ) {y : V} {u : Value} (ry : RelV y u) : KV (putK kvs k y) (stored vs k u):=by
 unfold putK stored
 rw [r.any k]
 by_cases e : (vs.any fun kv=>decide (kv.1 = k)) = true
 ·rw [if_pos e,if_pos e];exact r.repl k ry
 ·rw [if_neg e,if_neg e];exact Paired.snoc r ⟨rfl,ry⟩
theorem KV.length {kvs : List (κ × V)} {vs : List (κ × Value)} (r : KV kvs vs) : kvs.length = vs.length:=Paired.length r
end
theorem kV_is {P : Program} {w : World} {k : Key} {u : Value} (r : RelV (kV k) u) : (mixKind P w).is k u = true:=by
 cases k with
 | inl i=>obtain ⟨t,e⟩:=(show ∃ t,u = Value.int i t from r);subst e;exact mixKind_int P w i t
 | inr x=>obtain ⟨t,e⟩:=(show ∃ t,u = Value.str x t from r);subst e;exact mixKind_str P w x t
theorem items_are {P : Program} {w : World} : ∀ {ks : List Key} {us : List Value},Vals (ks.map kV) us->ItemsAre (mixKind P w) ks us
 | [],_,r=>by rw [List.map_nil] at r;cases r;exact .nil
 | k :: ks,_,r=>by
  rw [List.map_cons] at r
  cases r with
  | cons h t=>exact .cons (kV_is h) (items_are t)
noncomputable abbrev KT (H : Hp) : List (List Key × V)->List (List Key × Addr × Value)->Prop:=Paired fun p q=>p.1 = q.1/\H q.2.1 = some (.tup (p.1.map kV))/\RelV p.2 q.2.2
theorem KT.val {H : Hp} {kvs : List (List Key × V)} {xs : List (List Key × Addr × Value)} (r : KT H kvs xs) (k : List Key) : RelO (valV kvs k) ((atKey xs k).map (·.2)):=by
 induction r with
 | nil=>exact True.intro
 | @cons p q ps qs h t ih=>
  obtain ⟨h1,_,h2⟩:=h
  by_cases e : p.1 = k
  ·have e' : q.1 = k:=h1.symm.trans e
   have b : atKey (q :: qs) k = some q.2:=by simp [atKey,List.find?_cons,e']
   rw [valV_pos e,b];exact h2
  ·have e' : ¬ q.1 = k:=fun z=>e (h1.trans z)
   have b : atKey (q :: qs) k = atKey qs k:=by simp [atKey,List.find?_cons,e']
   rw [valV_neg e,b];exact ih
theorem KT.repl {H : Hp} {kvs : List (List Key × V)} {xs : List (List Key × Addr × Value)} (r : KT H kvs xs) (k : List Key) {y : V} {u : Value} (ry : RelV y u) :
  KT H (kvs.map fun kv=>if kv.1 = k then (kv.1,y) else kv) (xs.map (putAt k u)):=by
 induction r with
 | nil=>exact .nil
 | @cons p q ps qs h t ih=>
  rw [List.map_cons,List.map_cons]
  refine .cons ?_ ih
  obtain ⟨h1,h2,h3⟩:=h
  unfold putAt
  by_cases e : p.1 = k
  ·rw [if_pos e,if_pos (h1.symm.trans e)];exact ⟨h1,h2,ry⟩
  ·rw [if_neg e,if_neg (fun z=>e (h1.trans z))];exact ⟨h1,h2,h3⟩
theorem KT.put {H : Hp} {kvs : List (List Key × V)} {xs : List (List Key × Addr × Value)} (r : KT H kvs xs) (k : List Key) {b : Addr} {y : V} {u : Value} (hb : H b = some (.tup (k.map kV))) (ry : RelV y u) :
  KT H (putK kvs k y) (storedH xs k b u):=by
 have e : (kvs.any fun kv=>decide (kv.1 = k)) = (atKey xs k).isSome:=by
  rw [valV_any,(r.val k).isSome_eq,Option.isSome_map]
 unfold putK storedH
 rw [e]
 by_cases q : (atKey xs k).isSome = true
 ·rw [if_pos q,if_pos q];exact r.repl k ry
 ·rw [if_neg q,if_neg q];exact Paired.snoc r ⟨rfl,hb,ry⟩
theorem KT.keeps {H H' : Hp} {kvs : List (List Key × V)} {xs : List (List Key × Addr × Value)} (r : KT H kvs xs) (ht : ∀ b ys,H b = some (.tup ys)->H' b = some (.tup ys)) : KT H' kvs xs:=
 Paired.mapP r fun _ _ z=>⟨z.1,ht _ _ z.2.1,z.2.2⟩
section
variable {P : Program} {w : World} {H : Hp} {h : Heap} {a : Addr}
theorem rd_of {u : HO} (ok : HOk P w H h) (e : Rd H a u) : ObjOk P w H h a u:=e.ok ok
theorem dk_rd {kvs : List (Key × V)} (ok : HOk P w H h) (e : Rd H a (.dK kvs)) : kvs.length<=sizeLine/\(a == sysModules) = false/\∃ vs,KV kvs vs/\h.DictOf (mixKind P w) a vs:=
 show ObjOk P w H h a (.dK kvs) from rd_of ok e
theorem dk_of {kvs : List (Key × V)} (ok : HOk P w H h) (e : H a = some (.dK kvs)) : kvs.length<=sizeLine/\(a == sysModules) = false/\∃ vs,KV kvs vs/\h.DictOf (mixKind P w) a vs:=dk_rd ok (.inl e)
theorem key_of {ks : List Key} (ok : HOk P w H h) (e : H a = some (.tup (ks.map kV))) : (tupleKind (mixKind P w)).is h ks a:=by
 obtain ⟨_,its,r,o,h1,h2,n,h3⟩:=(show ObjOk P w H h a (.tup (ks.map kV)) from ok a _ e)
 exact ⟨o,its.toArray,n,h1,h2,congrArg (·.1) h3,by simpa using items_are r⟩
theorem dt_rd {kvs : List (List Key × V)} (ok : HOk P w H h) (e : Rd H a (.dT kvs)) : kvs.length<=sizeLine/\(a == sysModules) = false/\
  ∃ xs,KT H kvs xs/\h.DictOfH (tupleKind (mixKind P w)) a xs:=by
 obtain ⟨z,y,xs,r,o,es,ep,h1,h2,h3,h4,h5⟩:=(show ObjOk P w H h a (.dT kvs) from rd_of ok e)
 refine ⟨z,y,xs,r,o,es,ep,h1,h2,h3,h4,fun x hx=>?_,h5⟩
 have all : ∀ {l : List (List Key × V)} {m : List (List Key × Addr × Value)},KT H l m->∀ x ∈ m,(tupleKind (mixKind P w)).is h x.1 x.2.1:=by
  intro l m q
  induction q with
  | nil=>intro x hx;exact nomatch hx
  | @cons p q ps qs hq t ih=>
   intro x hx
   rcases List.mem_cons.mp hx with e | hx
   ·subst e
    exact key_of ok (by rw [<- hq.1];exact hq.2.1)
   ·exact ih x hx
 exact all r x hx
theorem dt_of {kvs : List (List Key × V)} (ok : HOk P w H h) (e : H a = some (.dT kvs)) : kvs.length<=sizeLine/\(a == sysModules) = false/\
  ∃ xs,KT H kvs xs/\h.DictOfH (tupleKind (mixKind P w)) a xs:=dt_rd ok (.inl e)
end
noncomputable def DGet (H : Hp) (a : Addr) (y : V) (r : Option V) : Prop:=
 (∃ kvs k,Rd H a (.dK kvs)/\y = kV k/\r = valV kvs k)\/∃ kvs k b,Rd H a (.dT kvs)/\y = .ref b/\H b = some (.tup (k.map kV))/\r = valV kvs k
noncomputable def DPut (H : Hp) (a : Addr) (y v : V) (H' : Hp) : Prop:=
 (∃ kvs k,H a = some (.dK kvs)/\y = kV k/\kvs.length < sizeLine/\H' = upd H a (.dK (putK kvs k v)))\/
 ∃ kvs k b,H a = some (.dT kvs)/\y = .ref b/\H b = some (.tup (k.map kV))/\kvs.length < sizeLine/\H' = upd H a (.dT (putK kvs k v))
theorem DGet.k {H : Hp} {a : Addr} {kvs : List (Key × V)} {k : Key} (e : H a = some (.dK kvs)) : DGet H a (kV k) (valV kvs k):=.inl ⟨kvs,k,.inl e,rfl,rfl⟩
theorem DGet.t {H : Hp} {a b : Addr} {kvs : List (List Key × V)} {k : List Key} (e : H a = some (.dT kvs)) (eb : H b = some (.tup (k.map kV))) : DGet H a (.ref b) (valV kvs k):=.inr ⟨kvs,k,b,.inl e,rfl,eb,rfl⟩
theorem DPut.k {H : Hp} {a : Addr} {kvs : List (Key × V)} {k : Key} {v : V} (e : H a = some (.dK kvs)) (hl : kvs.length < sizeLine) : DPut H a (kV k) v (upd H a (.dK (putK kvs k v))):=.inl ⟨kvs,k,e,rfl,hl,rfl⟩
theorem DPut.t {H : Hp} {a b : Addr} {kvs : List (List Key × V)} {k : List Key} {v : V} (e : H a = some (.dT kvs)) (eb : H b = some (.tup (k.map kV))) (hl : kvs.length < sizeLine) :
  DPut H a (.ref b) v (upd H a (.dT (putK kvs k v))):=.inr ⟨kvs,k,b,e,rfl,eb,hl,rfl⟩
section
variable {X : Cx} {pins : List (Addr × Obj)} {σ : St} {H : Hp} {s : Shared} {a : Addr} {y v : V} {u r : Value} {o : Option V} {A : Around} {E : Value->Shared->Prop}
theorem Inv.big (I : Inv X pins σ H s) : sysModules < s.heap.objs.size:=by
 have h : mainGlobals < s.heap.objs.size:=(I.mod.glob.keeps I.bk).lt
 exact Nat.lt_trans (by decide) h
theorem d_getItem {Q : Value->Shared->Prop} (hu : A.units + 1 < cLine) (I : Inv X pins σ H s) (g : DGet H a y (some v)) (ry : RelV y u) (h : ∀ w' s',Inv X pins σ H s'->RelV v w'->Q w' s') :
  wpAny (model X.prog X.w) A (getItem (.ref a) u) Q E s:=by
 rcases g with ⟨kvs,k,e,ey,l⟩ | ⟨kvs,k,b,e,ey,eb,l⟩
 ·subst ey
  obtain ⟨z,hd,vs,rel,dd⟩:=dk_rd I.hok e
  obtain ⟨w',hw,rw'⟩:=RelO.some_of (v:=v) (o:=valueAt vs k) (by rw [l];exact rel.val k)
  exact wpAny_getItem_of (kV_is ry) dd.mapOf hw (h w' _ (I.tok _) rw')
 ·subst ey
  cases (show u = Value.ref b from ry)
  obtain ⟨z,hd,xs,rel,dd⟩:=dt_rd I.hok e
  obtain ⟨w',hw,rw'⟩:=RelO.some_of (v:=v) (o:=(atKey xs k).map (·.2)) (by rw [l];exact rel.val k)
  obtain ⟨p,hp,hp2⟩:=Option.map_eq_some_iff.mp hw
  refine wpAny_getItem_heap (tupleKind_room_in1 hu) (key_of I.hok eb) dd hp ?_
  rw [hp2]
  exact h w' _ (I.tok _) rw'
theorem d_notIn {Q : Value->Shared->Prop} (hu : A.units + 1 < cLine) (I : Inv X pins σ H s) (g : DGet H a y o) (ry : RelV y u) (h : ∀ s',Inv X pins σ H s'->Q (.bool (!o.isSome)) s') :
  wpAny (model X.prog X.w) A (compareOp .NotIn u (.ref a)) Q E s:=by
 rcases g with ⟨kvs,k,e,ey,l⟩ | ⟨kvs,k,b,e,ey,eb,l⟩
 ·subst ey
  obtain ⟨z,hd,vs,rel,dd⟩:=dk_rd I.hok e
  refine wpAny_notIn_of (kV_is ry) hd dd.mapOf ?_
  rw [<- (rel.val k).isSome_eq,<- l]
  exact h _ (I.tok _)
 ·subst ey
  cases (show u = Value.ref b from ry)
  obtain ⟨z,hd,xs,rel,dd⟩:=dt_rd I.hok e
  refine wpAny_notIn_heap (tupleKind_room_in1 hu) (key_of I.hok eb) hd dd ?_
  have q:=(rel.val k).isSome_eq
  rw [Option.isSome_map] at q
  rw [<- q,<- l]
  exact h _ (I.tok _)
theorem d_write {h' : Heap} {t' : Nat} {ob : HO} (I : Inv X pins σ H s) (mu : Mut (H a)) (hs : Heap.SameBut a s.heap h') (he : ∃ q,h'.get? a = some q) (new : ObjOk X.prog X.w (upd H a ob) h' a ob) :
  Inv X pins σ (upd H a ob) { s with heap:=h',toks:=t' }:=
 I.write (x:=a) (e:=a) mu (.inl rfl) (fun b q hb z=>(hs.2 b hb).trans z) he new
theorem dk_new {P : Program} {w : World} {H' : Hp} {h' : Heap} {kvs : List (Key × V)} {vs : List (Key × Value)} (z : kvs.length<=sizeLine) (hd : (a == sysModules) = false) (rel : KV kvs vs) (dd : h'.DictOf (mixKind P w) a vs) :
  ObjOk P w H' h' a (.dK kvs):=⟨z,hd,vs,rel,dd⟩
theorem d_setItem {H' : Hp} {Q : Unit->Shared->Prop} (hu : A.units + 1 < cLine) (I : Inv X pins σ H s) (g : DPut H a y v H') (ry : RelV y u) (rv : RelV v r) (h : ∀ s',Inv X pins σ H' s'->Q () s') :
  wpAny (model X.prog X.w) A (setItem (.ref a) u r) Q E s:=by
 rcases g with ⟨kvs,k,e,ey,l,eH⟩ | ⟨kvs,k,b,e,ey,eb,l,eH⟩
 ·subst ey eH
  obtain ⟨z,hd,vs,rel,dd⟩:=dk_of I.hok e
  have hz : vs.length<=sizeLine:=by rw [<- rel.length];exact z
  have hl : (putK kvs k v).length<=sizeLine:=by have:=length_putK kvs k v;lia
  refine wpAny_setItem_pairs (hsz:=hz) (kV_is ry) dd fun h' dd' hs=>h _ ?_
  have he : ∃ q,h'.get? a = some q:=let ⟨q,_,_,hq,_⟩:=dd';⟨q,hq⟩
  exact d_write I (by rw [e];exact True.intro) hs he (dk_new hl hd (rel.put k rv) dd')
 ·subst ey eH
  cases (show u = Value.ref b from ry)
  obtain ⟨z,hd,xs,rel,dd⟩:=dt_of I.hok e
  have hz : xs.length<=sizeLine:=by rw [<- Paired.length rel];exact z
  have hl : (putK kvs k v).length<=sizeLine:=by have:=length_putK kvs k v;lia
  refine wpAny_setItem_heap (hsz:=hz) (tupleKind_room_in1 hu) (key_of I.hok eb) dd fun h' dd' hs=>h _ ?_
  obtain ⟨q,es,ep,hq,h2,h3,h4,_,h5⟩:=dd'
  refine d_write I (by rw [e];exact True.intro) hs ⟨q,hq⟩ ⟨hl,hd,_,(rel.put k eb rv).keeps fun c ys ec=>?_,q,es,ep,hq,h2,h3,h4,h5⟩
  rw [upd_ne (ne_of ec e (fun z=>nomatch z))]
  exact ec
end
section
variable {X : Cx} {pins : List (Addr × Obj)} {σ : St} {H : Hp} {s : Shared} {a : Addr} {kvs : List (Key × V)} {k : Key} {u : Value} {A : Around} {E : Value->Shared->Prop}
end
theorem dict_typeIs {X : Cx} {pins : List (Addr × Obj)} {σ : St} {H : Hp} {s : Shared} {a : Addr} {y : V} {o : Option V} (I : Inv X pins σ H s) (g : DGet H a y o) : s.TypeIs (.ref a) "dict":=by
 rcases g with ⟨kvs,k,e,_,_⟩ | ⟨kvs,k,b,e,_,_,_⟩
 ·obtain ⟨_,_,vs,_,dd⟩:=dk_rd I.hok e
  exact dd.typeIs
 ·obtain ⟨_,_,xs,_,dd⟩:=dt_rd I.hok e
  exact dd.typeIs
section
variable {X : Cx} {o i e value : Expr} {pos pos' tpos : Pos} {td ty tv : TE}
end
theorem dk_empty {P : Program} {w : World} {H : Hp} (h : Heap) (hb : sysModules < h.objs.size) : ObjOk P w H (h.push { cls:=.type "dict",data:=.dict #[] }) h.objs.size (.dK []):=
 ⟨Nat.zero_le _,beq_eq_false_iff_ne.mpr (Ne.symm (Nat.ne_of_lt hb)),[],.nil,Heap.DictOf.new h⟩
noncomputable def tDNewK : TE:=fun _ H Q=>∀ p,H p = none->Q (.ref p) (upd H p (.dK []))
section
variable {X : Cx} {pos : Pos}
theorem pe_dnewK : PE X (.Dict [] [] pos) tDNewK:=fun pins s σ H Q I h=>
 wpAny_Dict_empty ⟨.ref s.heap.objs.size,_,I.laid (a:=s.heap.objs.size) (o:=.dK []) (t':=s.toks) (fun _ _ q=>Heap.get?_push_of_some _ q) (Nat.le_refl _) (dk_empty s.heap I.big),rfl,h _ (I.hok.fresh (Nat.le_refl _))⟩
end
section
variable {X : Cx} {pins : List (Addr × Obj)} {σ : St} {H : Hp} {s : Shared} {a : Addr} {y d : V} {u r : Value} {o : Option V} {A : Around} {E : Value->Shared->Prop}
end
section
variable {X : Cx} {o e f : Expr} {apos cpos : Pos} {td ty tx : TE}
end
section
variable {X : Cx} {pins : List (Addr × Obj)} {σ : St} {H : Hp} {s : Shared} {a : Addr} {kvs : List (Key × V)} {A : Around} {E : Value->Shared->Prop}
end
section
variable {X : Cx} {pins : List (Addr × Obj)} {σ : St} {H : Hp} {s : Shared} {a : Addr} {y : V} {u : Value} {A : Around} {E : Value->Shared->Prop}
end
end L2
namespace Att
open PySem PySem.W PySem.Calls PyProof.Rows
theorem ints_of_wellAll {P : Params} {h : Heap} : ∀ (ns : List Int) (vs : List Value),WellAll P h vs (ns.map WData.int)->IntsAre vs ns:=by
 intro ns
 induction ns with
 | nil=>
  intro vs w
  rw [List.map_nil] at w
  cases w
  exact .nil
 | cons n ns ih=>
  intro vs w
  rw [List.map_cons] at w
  cases w with
  | cons a b=>
   cases a
   exact .cons _ _ (ih _ b)
theorem script_of {l : OpenLaw} {n : Nat} (hn : l.most = some n) {P : Params} {h : Heap} {args : List WData} {vals : List Value}
  (hpre : l.row.toRowW.claim.pre args = true) (hwl : WellAll P h vals args) :
  ∃ a vs ns,vals = [Value.ref a]/\args = [WData.list (ns.map WData.int)]/\h.get? a = some { cls:=.type "list",data:=.seq vs.toArray }/\IntsAre vs ns/\ns.length<=n:=by
 have hsh : WShape.hasAll [] args [.list .int] = true:=(pre_splitW hpre).1
 have hc : l.pre.holds [] { args:=args } = true:=(pre_splitW hpre).2
 obtain ⟨d,r,rfl,h1,h2⟩:=hasAllW_cons hsh
 obtain rfl:=hasAllW_nil h2
 obtain ⟨xs,rfl,h3⟩:=hasW_list h1
 obtain ⟨ns,rfl⟩:=items_int h3
 have hlen : ns.length<=n:=by
  unfold OpenLaw.pre at hc
  have h4 : (WTm.not (.lt (.lit (.int (n : Int))) (.len (.arg 0)))).holds [] { args:=[.list (ns.map .int)] } = true:=by
   have h4:=(holds_andW hc).1
   rw [hn] at h4
   exact h4
  have h5:=condW_of h4 (w_not (w_lt w_lit (w_len_list (w_arg rfl))))
  rw [List.length_map] at h5
  refine Nat.le_of_not_lt fun q=>?_
  have q' : (n : Int) < ((ns.length : Nat) : Int):=by lia
  first
   | (rw [decide_eq_true q'] at h5;exact absurd h5 (by decide))
   | (simp at h5;lia)
 cases hwl with
 | cons w1 w2=>
  cases w2
  cases w1 with
  | list ho hall=>exact ⟨_,_,ns,rfl,rfl,ho,ints_of_wellAll ns _ hall,hlen⟩
theorem post_true (l : OpenLaw) (args : List WData) : l.row.toRowW.claim.post args (.bool true) args = true:=
 postW_of (r:=l.row.toRowW) (X:=(true == true))
  (show WShape.has [] (.bool true) .bool = true by first | rfl | decide | simp [WShape.has,WShape.arms,WShape.armsAll])
  (show (WTm.eq .res (.lit (.bool true))).value [] { args:=args,res:=some (.bool true),after:=args } = some (.bool (true == true)) from w_eq_bool (w_res rfl) w_lit) rfl
theorem attach_call {l : OpenLaw} {n : Nat} {q : Program} {loose : List Str} {XP : (Str->Option Value)->Heap->Prop} {YP : World->Heap->Prop} {d : DefRec}
  (hn : l.most = some n) (hdf : d.params.defaults = [])
  (call : ∀ (w : World) (s₀ s₁ : Shared) (mg mb : Str->Option Value) (fa : Addr) (o : Obj) (pm cd doc : Value) (a : Addr) (vs : List Value) (ns : List Int),
   Ground q loose [] XP w s₀ mg mb s₁.heap->YP w s₁.heap->
   s₁.heap.get? fa = some o->o.data = .func (docDef d.name d.params d.body d.scope pm cd doc)->s₁.heap.CodeRec cd d.name->mg d.name = some (.ref fa)->
   s₁.heap.get? a = some { cls:=.type "list",data:=.seq vs.toArray }->IntsAre vs ns->ns.length<=n->s₁.gens = #[]->
   codeAny (model l.prog w) callerA (.call (.ref fa) ⟨[.ref a],[]⟩) (fun r s'=>r = .ok (.ret (.bool true))/\OldK s₁.heap s'.heap/\s'.os = s₁.os/\AllBare s'.gens) s₁) :
  WalkO q loose XP YP l.row.toRowW d [] (fun f vs=>PySem.call f vs):=by
 intro w s₀ s₁ mg mb G Y fa o pm cd doc dV kV ho hd hcd hD hmg hg args vals as hpre hlay hrd hwl hlo
 obtain rfl : dV = .none:=Dflts.none hD hdf
 obtain rfl : kV = .none:=Dflts.noKw hD
 obtain ⟨a,vs,ns,rfl,rfl,hobj,hints,hlen⟩:=script_of hn hpre hwl
 refine enter_call (codeAny_mono (call w s₀ s₁ mg mb fa o pm cd doc a vs ns G Y ho (fd_plain hd) hcd hmg hobj hints hlen hg) fun r s' hq=>?_)
 obtain ⟨rfl,h2,h3,h4⟩:=hq
 exact ⟨.inl ⟨.bool true,.bool true,[],rfl,fun _=>rfl,.bool true,post_true l _,fun _=>⟨List.Pairwise.nil,fun _ hm=>(nomatch hm)⟩⟩,h2,h3,h4⟩
section
variable {prog : Program} {w : World} {A : Around} {E : Value->Shared->Prop} {s : Shared} {K : Frag}
end
end Att
namespace L2
open PySem PySem.Spec PyProof.Rows
theorem vals_ints : ∀ {vs : List Value} {ns : List Int},IntsAre vs ns->Vals (ns.map V.int) vs
 | _,_,.nil=>.nil
 | _,_,.cons n t h=>.cons ⟨t,rfl⟩ (vals_ints h)
noncomputable def Only (H : Hp) : Prop:=∀ b,H b = none\/∃ o xs,H b = some (.frz o (.lst xs))
theorem law_call {P : Program} {w : World} {K : PySem.W.Frag} {mg mb : Str->Option Value} {CX : CXT} {k : Nat} {fa a : Addr} {fd : FuncData} {x : Str} {sp : Sp} {s₁ : Shared} {vs : List Value} {ns : List Int}
  (KX : K.In s₁.heap) (hns : s₁.heap.Ns mainGlobals mg) (hb : s₁.heap.Ns builtinsNs mb) (hbb : ∀ x : Str,x ≠ "__name__"->mb x = bootBuiltins x) (hlim : s₁.heap.NoLimit) (hg : s₁.gens = #[])
  (ha : s₁.heap.get? a = some { cls:=.type "list",data:=.seq vs.toArray }) (hi : IntsAre vs ns) (hl : ns.length<=sizeLine) (hr : Room k callerA)
  (F : ∀ base : Heap,K.In base->base.Ns mainGlobals mg->FnOk P w K mg base CX k fa fd [x] sp) (hbind : ∀ (s : Shared) (u : Value),BindsTo s fd ⟨[u],[]⟩ [(x,u)])
  (hsp : ∀ H : Hp,Only H->SqL K H a (ns.map V.int)->sp [.ref a] H (fun v _=>v = .bl true) fun _ _ _=>False)
  (hCX : ∀ H e s',CX [] H s₁ (fun _ _ _=>False) e s'->False) :
  codeAny (model P w) callerA (.call (.ref fa) ⟨[.ref a],[]⟩) (fun r s'=>r = .ok (.ret (.bool true))/\OldK s₁.heap s'.heap/\s'.os = s₁.os/\AllBare s'.gens) s₁:=by
 have rv:=vals_ints hi
 have lenV:=hi.length
 -- from an abstract heap in which nothing but the script may be tracked
 have core : ∀ H : Hp,Only H->SqL K H a (ns.map V.int)->HOk P w H s₁.heap->(∀ b,H b ≠ none->b = a)->(H a ≠ none->K.lookup a = none)->
   codeAny (model P w) callerA (.call (.ref fa) ⟨[.ref a],[]⟩) (fun r s'=>r = .ok (.ret (.bool true))/\OldK s₁.heap s'.heap/\s'.os = s₁.os/\AllBare s'.gens) s₁:=by
  intro H hO hS hok hA hK
  have base_of : ∀ {b : Addr} {o : Obj},s₁.heap.get? b = some o->H b = none->(hidT s₁.heap H).get? b = some o:=fun e n=>hidT_get e n
  have noA : ∀ {b : Addr} {o : Obj} {es : Array DictEntry} {ep : Nat},s₁.heap.get? b = some o->o.data = .dict es ep->H b = none:=fun {b o es ep} e d=>by
   cases q : H b with
   | none=>rfl
   | some u=>
    have e' : b = a:=hA b (by rw [q];simp)
    subst e'
    rw [ha] at e;cases e
    have d' : Data.seq vs.toArray _ = Data.dict es ep:=d
    cases d'
  have nsK : ∀ {b : Addr} {m : Str->Option Value},s₁.heap.Ns b m->(hidT s₁.heap H).Ns b m:=fun {b m} ⟨o,es,ep,e,d,r⟩=>⟨o,es,ep,base_of e (noA e d),d,r⟩
  have hKb : K.In (hidT s₁.heap H):=fun b o e=>base_of (KX b o e) (by
   cases q : H b with
   | none=>rfl
   | some u=>
    have e' : b = a:=hA b (by rw [q];simp)
    subst e'
    rw [hK (by rw [q];simp)] at e;cases e)
  have hM : Mod K mg (hidT s₁.heap H):=⟨hKb,nsK hns,⟨mb,nsK hb,hbb⟩,let ⟨mc,h1,h2⟩:=hlim;⟨mc,nsK h1,h2⟩⟩
  have e0 : Env0 P w K mg (hidT s₁.heap H) callerA [] s₁ H:=⟨rfl,hM,fun b o e=>of_hidT e,Nat.le_of_eq (hidT_size _ _),trivial,fun b hb=>absurd (show b ∈ ([] : List Addr) from hb) (by simp),hok,.of_eq hg⟩
  refine codeAny_mono ((F _ hKb (nsK hns)).run callerA [] s₁ H ⟨[.ref a],[]⟩ [.ref a] [.ref a] _ _ hr e0 (hbind s₁ (.ref a)) (.cons rfl .nil) (hsp H hO hS)) fun r s' h=>?_
  cases r with
  | error e=>exact (hCX H e s' h).elim
  | ok fl=>
   cases fl with
   | next=>exact False.elim h
   | brk=>exact False.elim h
   | cont=>exact False.elim h
   | ret u=>
    obtain ⟨v,H',os,bare,un,hok',r',q⟩:=h
    have q' : v = .bl true:=q
    subst q'
    obtain rfl : u = Value.bool true:=r'
    refine ⟨rfl,OldK.of_keep fun b o e=>?_,os,bare⟩
    cases q : H b with
    | none=>exact un.keep b o e q (by intro z;exact absurd (show b ∈ ([] : List Addr) from z) (by simp)) (by simp)
    | some u=>
     rcases hO b with z | ⟨ob,xs,z⟩
     ·rw [q] at z;cases z
     ·have z2:=un.frzs b ob _ z
      obtain ⟨e1,_⟩:=hok b _ z
      obtain ⟨e2,_⟩:=hok' b _ z2
      rw [e] at e1;cases e1
      exact e2
 cases hk : K.lookup a with
 | some o=>
  -- the script is one of the module's own objects
  have e:=KX a o hk
  rw [ha] at e
  cases e
  refine core (fun _=>none) (fun _=>.inl rfl) (.inr ⟨_,vs.toArray,_,hk,rfl,rfl,rfl,by rw [List.size_toArray,lenV];exact hl,by simpa using rv⟩) (fun b u z=>by have z' : (none : Option HO) = some u:=z;cases z') (fun b z=>absurd rfl z) fun z=>absurd rfl z
 | none=>
  refine core (fun b=>if b = a then some (.frz { cls:=.type "list",data:=.seq vs.toArray } (.lst (ns.map V.int))) else none) (fun b=>?_) (.inl (.inr ⟨{ cls:=.type "list",data:=.seq vs.toArray },if_pos rfl⟩)) (fun b u z=>?_) (fun b z=>?_) fun _=>hk
  ·by_cases hb : b = a
   ·exact .inr ⟨_,_,if_pos hb⟩
   ·exact .inl (if_neg hb)
  ·by_cases hb : b = a
   ·have z':=(if_pos hb).symm.trans z
    cases z'
    subst hb
    exact ⟨ha,by rw [List.length_map];exact hl,vs,_,rv,ha⟩
   ·have z':=(if_neg hb).symm.trans z
    cases z'
  ·by_cases hb : b = a
   ·exact hb
   ·exact absurd (if_neg hb) z
end L2
namespace L2
open PySem PySem.Spec PyProof.Rows
theorem walk_of {l : PySem.W.OpenLaw} {n k : Nat} {q : Program} {loose : List Str} {XP : (Str->Option Value)->Heap->Prop} {YP : World->Heap->Prop} {d : DefRec} {K : Params->PySem.W.Frag} {CX : World->CXT} {sp : World->Sp} {x : Str}
  (hn : l.most = some n) (hn2 : n<=sizeLine) (hdf : d.params.defaults = []) (hr : Room k callerA)
  (hY : ∀ (w : World) (h : Heap),YP w h->(K w.params).In h)
  (F : ∀ (w : World) (mg : Str->Option Value) (fa : Addr) (h : Heap),(K w.params).In h->h.Ns mainGlobals mg->mg d.name = some (.ref fa)->
   ∃ fd : FuncData,(∀ (s : Shared) (u : Value),BindsTo s fd ⟨[u],[]⟩ [(x,u)])/\
    ∀ base : Heap,(K w.params).In base->base.Ns mainGlobals mg->FnOk l.prog w (K w.params) mg base (CX w) k fa fd [x] (sp w))
  (hsp : ∀ (w : World) (H : Hp) (a : Addr) (ns : List Int),ns.length<=n->Only H->SqL (K w.params) H a (ns.map V.int)->sp w [.ref a] H (fun v _=>v = .bl true) fun _ _ _=>False)
  (hCX : ∀ (w : World) (H : Hp) (s : Shared) (e : Value) (s' : Shared),CX w [] H s (fun _ _ _=>False) e s'->False) :
  PySem.W.WalkO q loose XP YP l.row.toRowW d [] (fun f vs=>PySem.call f vs):=by
 refine Att.attach_call hn hdf fun w s₀ s₁ mg mb fa o pm cd doc a vs ns G Y ho hd hcd hmg hobj hints hlen hg=>?_
 have KX:=hY w _ Y
 obtain ⟨fd,hb,hF⟩:=F w mg fa _ KX G.T.g hmg
 exact law_call KX G.T.g G.T.b G.T.builtins G.T.nolimit hg hobj hints (Nat.le_trans hlen hn2) hr hF hb (fun H hO hS=>hsp w H a ns hlen hO hS) fun H e s'=>hCX w H s₁ e s'
end L2
namespace L2
open PySem PySem.Spec PyProof.Rows
noncomputable def defArgs (s : Stmt) : Arguments:=match s with
 | .FunctionDef _ a _ _ _ _ _ _ _ _=>a
 | _=>{ posonlyargs:=[],args:=[],vararg:=none,kwonlyargs:=[],kw_defaults:=[],kwarg:=none,defaults:=[] }
noncomputable def defBody (s : Stmt) : List Stmt:=match s with
 | .FunctionDef _ _ b _ _ _ _ _ _ _=>b
 | _=>[]
noncomputable def defScope (s : Stmt) : Scope:=match s with
 | .FunctionDef _ _ _ _ _ _ sc _ _ _=>sc
 | _=>{ kind:=.function,names:=[],isGenerator:=false,isCoroutine:=false }
noncomputable abbrev CX0 : CXT:=fun _ _ _ _ _ _=>False
noncomputable abbrev E0 : XK:=fun _ _ _=>False
theorem pass0 {X : Cx} : Passes CX0 X E0:=fun _ _ _ _ _ _ _ h=>h.elim
structure Fun (K : PySem.W.Frag) (x qual : Str) (st : Stmt) (f : Addr) (fd : FuncData) : Prop where
 ex : ∃ (oc : Value) (od : Option Addr) (kV doc pm : Value) (an : Option Addr) (cdv ct : Value) (osl : Array (Option Value)),
  fd = PySem.W.fnOf x qual (defArgs st) (defBody st) (defScope st) .none kV doc pm an cdv ct/\K.lookup f = some ⟨oc,od,.func fd,osl⟩/\PySem.W.codeIn K cdv qual = true
 kp : PySem.W.keepIn K (.ref f) = true
section
variable {P : Program} {w : World} {K : PySem.W.Frag} {mg : Str->Option Value} {base : Heap}
theorem Fun.ok {x qual : Str} {st : Stmt} {f : Addr} {fd : FuncData} {N ps : List Str} {k : Nat} {sp : Sp} (F : Fun K x qual st f fd) (S : FnScope N ps (defScope st)) (len : ∀ vs H Q E,sp vs H Q E->vs.length = ps.length)
  (hbody : ∀ (cdv : Value) (A : Around) (outer : List Env) (s : Shared) (H : Hp) (vs : List V) (Q : VK) (E : XK),Room k (A.deeper (envOfC qual (defScope st) s.heap.objs.size f cdv))->sp vs H Q E->
   ∃ t,PSs (cxOf CX0 P w K mg base N qual (defScope st) f cdv A outer s H E).nox (defBody st) t/\t { nx:=fun _ H'=>Q .non H',rt:=Q } (start N vs) H) : FnOk P w K mg base CX0 (k + 1) f fd ps sp:=by
 obtain ⟨oc,od,kV,doc,pm,an,cdv,ct,osl,rfl,lk,hcd⟩:=F.ex
 refine fn_of lk hcd S len fun A outer s H vs Q E hr hsp=>?_
 obtain ⟨t,h,q⟩:=hbody cdv A outer s H vs Q E hr hsp
 exact ⟨t,h.nox,q⟩
theorem Fun.binds {x qual : Str} {st : Stmt} {f : Addr} {fd : FuncData} {ps : List Str} (F : Fun K x qual st f fd)
  (h : ∀ (kV doc pm : Value) (an : Option Addr) (cdv ct : Value) (us : List Value),us.length = ps.length->bindArgs (PySem.W.fnOf x qual (defArgs st) (defBody st) (defScope st) .none kV doc pm an cdv ct) ⟨us,[]⟩ = pure (ps.zip us)) : Binds K fd ps []:=by
 obtain ⟨oc,od,kV,doc,pm,an,cdv,ct,osl,rfl,lk,hcd⟩:=F.ex
 exact .all (h kV doc pm an cdv ct)
theorem fun_mk {x qual : Str} {st : Stmt} {f : Addr} {oc : Value} {od an : Option Addr} {osl : Array (Option Value)} {kV doc pm cdv ct : Value} (l : K.lookup f = some ⟨oc,od,.func (PySem.W.fnOf x qual (defArgs st) (defBody st) (defScope st) .none kV doc pm an cdv ct),osl⟩)
  (c : PySem.W.codeIn K cdv qual = true) (k : PySem.W.keepIn K (.ref f) = true) : Fun K x qual st f (PySem.W.fnOf x qual (defArgs st) (defBody st) (defScope st) .none kV doc pm an cdv ct):=⟨⟨oc,od,kV,doc,pm,an,cdv,ct,osl,rfl,l,c⟩,k⟩
end
section
variable {X : Cx}
end
noncomputable def Same (H H' : Hp) : Prop:=∀ b o,H b = some o->H' b = some o
theorem Same.refl (H : Hp) : Same H H:=fun _ _ h=>h
theorem Same.trans {H H1 H2 : Hp} (a : Same H H1) (b : Same H1 H2) : Same H H2:=fun c o h=>b c o (a c o h)
theorem Same.free {H H' : Hp} (e : Same H H') {l : Addr} (h : H' l = Option.none) : H l = Option.none:=by
 cases q : H l with
 | none=>rfl
 | some o=>
  rw [e l o q] at h
  cases h
section
variable {X : Cx}
end
section
variable {κ : Type} [DecidableEq κ]
theorem valV_not {kvs : List (κ × V)} {k : κ} (h : valV kvs k = none) : ¬ k ∈ kvs.map (·.1):=by
 intro m
 obtain ⟨p,hp,e⟩:=List.mem_map.mp m
 have q : (kvs.any fun kv=>decide (kv.1 = k)) = true:=List.any_eq_true.mpr ⟨p,hp,decide_eq_true e⟩
 rw [valV_any,h] at q
 exact absurd q (by simp)
theorem nd_snoc : ∀ {l : List κ} {k : κ},l.Nodup->¬ k ∈ l->(l ++ [k]).Nodup
 | [],k,_,_=>by simp
 | a :: r,k,h,hk=>by
  obtain ⟨h1,h2⟩:=List.nodup_cons.mp h
  show (a :: (r ++ [k])).Nodup
  refine List.nodup_cons.mpr ⟨fun m=>?_,nd_snoc h2 fun m=>hk (List.mem_cons.mpr (Or.inr m))⟩
  rcases List.mem_append.mp m with q | q
  ·exact h1 q
  ·exact hk (List.mem_cons.mpr (Or.inl (List.mem_singleton.mp q).symm))
theorem nd_putK {kvs : List (κ × V)} {k : κ} (v : V) (hn : (kvs.map (·.1)).Nodup) (h : valV kvs k = none) : ((putK kvs k v).map (·.1)).Nodup:=by
 rw [putK_new v h,List.map_append]
 exact nd_snoc hn (valV_not h)
end
end L2
end
section
namespace TS
open PySem PyProof.Rows
noncomputable def gallop' : Bool->Keyed->Array Keyed->Nat->Nat->Nat->StateT SortSt Sem (Option Nat):=sortPriv% PySem.Builtin.gallop
noncomputable def setMinGallop' : Nat->StateT SortSt Sem Unit:=sortPriv% PySem.Builtin.setMinGallop
noncomputable def mergeLo' : Array Keyed->Array Keyed->StateT SortSt Sem (Array Keyed):=sortPriv% PySem.Builtin.mergeLo
noncomputable def mergeHi' : Array Keyed->Array Keyed->StateT SortSt Sem (Array Keyed):=sortPriv% PySem.Builtin.mergeHi
noncomputable def beyond' (left : Bool) (key : Keyed) (arr : Array Keyed) (base i : Nat) : StateT SortSt Sem (Option Bool):=
 elem' arr (base + i) >>= fun x=>if left = true then lt' x key else lt' key x >>= fun r=>pure (Option.map (fun b=>!b) r)
theorem wpS_setMin {prog : Program} {w : World} {A : Around} {E : Value->Shared->Prop} {s : Shared} {g : Nat} {st : SortSt} {Q : Unit->SortSt->Prop}
  (h : Q () (SortSt.mk' (kindOf st) (arrOf st) (pendingOf st) g (failedOf st))) : wpS (model prog w) A E s (setMinGallop' g) Q st:=wpS_modify h
end TS
end
section
namespace TS
open PySem PyProof.Rows
section
variable {prog : Program} {w : World} {A : Around} {E : Value->Shared->Prop} {s : Shared}
theorem wpS_gallop {left : Bool} {key : Keyed} {arr : Array Keyed} {base n hint : Nat} {st : SortSt} {Q : Option Nat->SortSt->Prop} (p : Nat->Bool)
  (hp : ∀ i (R : Option Bool->SortSt->Prop),i < n->R (some (p i)) st->wpS (model prog w) A E s (beyond' left key arr base i) R st)
  (hm : ∀ i j,i<=j->j < n->p j = true->p i = true) (hh : hint < n)
  (h : ∀ k,k<=n->(∀ i,i < k->p i = true)->(∀ i,k<=i->i < n->p i = false)->Q (some k) st) :
  wpS (model prog w) A E s (gallop' left key arr base n hint) Q st:=by
 with_unfolding_all refine wpS_bind (hp _ _ hh ?_)
 dsimp only
 cases hr : p hint with
 | true=>
  simp only [if_true]
  refine wpS_bind (wpS_mono (wpS_forRange
   (I:=fun x c st'=>st' = st/\∃ l o,c = (none,l,o)/\l < o/\x + 1<=o/\hint + l < n/\p (hint + l) = true)
   (Q:=fun c st'=>st' = st/\∃ l o,c = (none,l,o)/\l < o/\hint + l < n/\p (hint + l) = true/\(n - hint<=o\/(hint + o < n/\p (hint + o) = false))) ?step ?fin ?init) ?post)
  case init=>exact ⟨rfl,0,1,rfl,by lia,by lia,hh,hr⟩
  case fin=>
   rintro c st' ⟨rfl,l,o,rfl,a1,a2,a3,a4⟩
   exact ⟨rfl,l,o,rfl,a1,a3,a4,.inl (by lia)⟩
  case step=>
   rintro x c st' _ hx ⟨rfl,l,o,rfl,a1,a2,a3,a4⟩
   dsimp only
   by_cases hge : o >= n - hint
   ·rw [if_pos hge]
    exact wpS_pure ⟨rfl,l,o,rfl,a1,a3,a4,.inl hge⟩
   ·rw [if_neg hge]
    refine wpS_bind (hp _ _ (by lia) ?_)
    dsimp only
    cases hb : p (hint + o) with
    | true=>
     simp only [Bool.not_true,Bool.false_eq_true,if_false]
     exact wpS_pure ⟨rfl,_,_,rfl,by lia,by lia,by lia,hb⟩
    | false=>
     simp only [Bool.not_false,if_true]
     exact wpS_pure ⟨rfl,_,_,rfl,a1,a3,a4,.inr ⟨by lia,hb⟩⟩
  case post=>
   rintro c st₀ ⟨rfl,l,o,rfl,a1,a3,a4,a5⟩
   dsimp only
   have H1 : ∀ i,i < hint + l + 1->p i = true:=fun i hi=>hm i (hint + l) (by lia) a3 a4
   have H2 : ∀ i,hint + min o (n - hint)<=i->i < n->p i = false:=by
    intro i i1 i2
    rcases a5 with a5 | ⟨a5,a6⟩
    ·lia
    ·cases hq : p i with
     | false=>rfl
     | true=>rw [hm (hint + o) i (by lia) i2 hq] at a6;cases a6
   refine wpS_bind (wpS_mono (wpS_forRange
    (I:=fun x c st'=>st' = st₀/\∃ l r,c = (none,l,r)/\l<=r/\r<=n/\r - l<=n - x/\(∀ i,i < l->p i = true)/\(∀ i,r<=i->i < n->p i = false))
    (Q:=fun c st'=>st' = st₀/\∃ l r,c = (none,l,r)/\l = r/\r<=n/\(∀ i,i < l->p i = true)/\(∀ i,r<=i->i < n->p i = false)) ?step2 ?fin2 ?init2) ?post2)
   case init2=>exact ⟨rfl,_,_,rfl,by lia,by lia,by lia,H1,H2⟩
   case fin2=>
    rintro c st' ⟨rfl,l,r,rfl,a1,a2,a3,a4,a5⟩
    exact ⟨rfl,l,r,rfl,by lia,a2,a4,a5⟩
   case step2=>
    rintro x c st' _ hx ⟨rfl,l,r,rfl,a1,a2,a3,a4,a5⟩
    dsimp only
    by_cases hge : l >= r
    ·rw [if_pos hge]
     exact wpS_pure ⟨rfl,l,r,rfl,by lia,a2,a4,a5⟩
    ·rw [if_neg hge]
     refine wpS_bind (hp _ _ (by lia) ?_)
     dsimp only
     cases hb : p (l + (r - l) / 2) with
     | true=>
      simp only [if_true]
      exact wpS_pure ⟨rfl,_,_,rfl,by lia,a2,by lia,fun i hi=>hm i _ (by lia) (by lia) hb,a5⟩
     | false=>
      simp only [Bool.false_eq_true,if_false]
      refine wpS_pure ⟨rfl,_,_,rfl,by lia,by lia,by lia,a4,fun i i1 i2=>?_⟩
      cases hq : p i with
      | false=>rfl
      | true=>rw [hm _ i i1 i2 hq] at hb;cases hb
   case post2=>
    rintro c st' ⟨rfl,l,r,rfl,rfl,a2,a4,a5⟩
    exact wpS_pure (h l a2 a4 a5)
 | false=>
  simp only [Bool.false_eq_true,if_false]
  refine wpS_bind (wpS_mono (wpS_forRange
   (I:=fun x c st'=>st' = st/\∃ l o,c = (none,l,o)/\l < o/\x + 1<=o/\l<=hint/\p (hint - l) = false)
   (Q:=fun c st'=>st' = st/\∃ l o,c = (none,l,o)/\l < o/\l<=hint/\p (hint - l) = false/\(hint + 1<=o\/(o<=hint/\p (hint - o) = true))) ?step ?fin ?init) ?post)
  case init=>exact ⟨rfl,0,1,rfl,by lia,by lia,by lia,hr⟩
  case fin=>
   rintro c st' ⟨rfl,l,o,rfl,a1,a2,a3,a4⟩
   exact ⟨rfl,l,o,rfl,a1,a3,a4,.inl (by lia)⟩
  case step=>
   rintro x c st' _ hx ⟨rfl,l,o,rfl,a1,a2,a3,a4⟩
   dsimp only
   by_cases hge : o >= hint + 1
   ·rw [if_pos hge]
    exact wpS_pure ⟨rfl,l,o,rfl,a1,a3,a4,.inl hge⟩
   ·rw [if_neg hge]
    refine wpS_bind (hp _ _ (by lia) ?_)
    dsimp only
    cases hb : p (hint - o) with
    | false=>
     simp only [Bool.false_eq_true,if_false]
     exact wpS_pure ⟨rfl,_,_,rfl,by lia,by lia,by lia,hb⟩
    | true=>
     simp only [if_true]
     exact wpS_pure ⟨rfl,_,_,rfl,a1,a3,a4,.inr ⟨by lia,hb⟩⟩
  case post=>
   rintro c st₀ ⟨rfl,l,o,rfl,a1,a3,a4,a5⟩
   dsimp only
   have H1 : ∀ i,i < hint + 1 - min o (hint + 1)->p i = true:=by
    intro i hi
    rcases a5 with a5 | ⟨a5,a6⟩
    ·lia
    ·exact hm i (hint - o) (by lia) (by lia) a6
   have H2 : ∀ i,hint - l<=i->i < n->p i = false:=by
    intro i i1 i2
    cases hq : p i with
    | false=>rfl
    | true=>rw [hm (hint - l) i (by lia) i2 hq] at a4;cases a4
   refine wpS_bind (wpS_mono (wpS_forRange
    (I:=fun x c st'=>st' = st₀/\∃ l r,c = (none,l,r)/\l<=r/\r<=n/\r - l<=n - x/\(∀ i,i < l->p i = true)/\(∀ i,r<=i->i < n->p i = false))
    (Q:=fun c st'=>st' = st₀/\∃ l r,c = (none,l,r)/\l = r/\r<=n/\(∀ i,i < l->p i = true)/\(∀ i,r<=i->i < n->p i = false)) ?step2 ?fin2 ?init2) ?post2)
   case init2=>exact ⟨rfl,_,_,rfl,by lia,by lia,by lia,H1,H2⟩
   case fin2=>
    rintro c st' ⟨rfl,l,r,rfl,a1,a2,a3,a4,a5⟩
    exact ⟨rfl,l,r,rfl,by lia,a2,a4,a5⟩
   case step2=>
    rintro x c st' _ hx ⟨rfl,l,r,rfl,a1,a2,a3,a4,a5⟩
    dsimp only
    by_cases hge : l >= r
    ·rw [if_pos hge]
     exact wpS_pure ⟨rfl,l,r,rfl,by lia,a2,a4,a5⟩
    ·rw [if_neg hge]
     refine wpS_bind (hp _ _ (by lia) ?_)
     dsimp only
     cases hb : p (l + (r - l) / 2) with
     | true=>
      simp only [if_true]
      exact wpS_pure ⟨rfl,_,_,rfl,by lia,a2,by lia,fun i hi=>hm i _ (by lia) (by lia) hb,a5⟩
     | false=>
      simp only [Bool.false_eq_true,if_false]
      refine wpS_pure ⟨rfl,_,_,rfl,by lia,by lia,by lia,a4,fun i i1 i2=>?_⟩
      cases hq : p i with
      | false=>rfl
      | true=>rw [hm _ i i1 i2 hq] at hb;cases hb
   case post2=>
    rintro c st' ⟨rfl,l,r,rfl,rfl,a2,a4,a5⟩
    exact wpS_pure (h l a2 a4 a5)
end
end TS
end
section
namespace TS
open PySem PyProof.Rows
structure Ord (U : Keyed->Prop) (blt : Keyed->Keyed->Bool) : Prop where
 irr : ∀ x,U x->blt x x = false
 tr : ∀ x y z,U x->U y->U z->blt x y = true->blt y z = true->blt x z = true
 ntr : ∀ x y z,U x->U y->U z->blt x z = true->blt x y = true\/blt y z = true
noncomputable abbrev dk : Keyed:=(.none,.none)
noncomputable def gt (a : Array Keyed) (i : Nat) : Keyed:=a.getD i dk
theorem gt_some {a : Array Keyed} {i : Nat} (h : i < a.size) : a[i]? = some (gt a i):=by
 unfold gt;simp [Array.getD,h]
noncomputable def AllU (U : Keyed->Prop) (a : Array Keyed) : Prop:=∀ i,i < a.size->U (gt a i)
noncomputable def Srt (blt : Keyed->Keyed->Bool) (a : Array Keyed) (lo hi : Nat) : Prop:=∀ i j,lo<=i->i<=j->j < hi->blt (gt a j) (gt a i) = false
noncomputable def LtOk (prog : Program) (w : World) (A : Around) (E : Value->Shared->Prop) (s : Shared) (kd : SortKind) (U : Keyed->Prop) (blt : Keyed->Keyed->Bool) : Prop:=
 ∀ (x y : Keyed) (st : SortSt) (Q : Option Bool->SortSt->Prop),U x->U y->kindOf st = kd->Q (some (blt x y)) st->wpS (model prog w) A E s (lt' x y) Q st
section
variable {prog : Program} {w : World} {A : Around} {E : Value->Shared->Prop} {s : Shared} {kd : SortKind} {U : Keyed->Prop} {blt : Keyed->Keyed->Bool}
theorem wpS_elem {arr : Array Keyed} {i : Nat} {st : SortSt} {Q : Keyed->SortSt->Prop} (hi : i < arr.size) (h : Q (gt arr i) st) : wpS (model prog w) A E s (elem' arr i) Q st:=by
 rw [elem'_eq,gt_some hi]
 exact wpS_pure h
noncomputable def gp (blt : Keyed->Keyed->Bool) (left : Bool) (key : Keyed) (arr : Array Keyed) (base i : Nat) : Bool:=if left then blt (gt arr (base + i)) key else !blt key (gt arr (base + i))
theorem wpS_beyond (hL : LtOk prog w A E s kd U blt) {left : Bool} {key : Keyed} {arr : Array Keyed} {base i : Nat} {st : SortSt} {R : Option Bool->SortSt->Prop} (hk : kindOf st = kd) (hi : base + i < arr.size) (hU : AllU U arr) (hK : U key)
  (h : R (some (gp blt left key arr base i)) st) : wpS (model prog w) A E s (beyond' left key arr base i) R st:=by
 unfold beyond'
 refine wpS_bind (wpS_elem hi ?_)
 unfold gp at h
 cases left with
 | true=>
  simp only [if_true] at h ⊢
  exact hL _ _ _ _ (hU _ hi) hK hk h
 | false=>
  simp only [Bool.false_eq_true,if_false] at h ⊢
  refine wpS_bind (hL _ _ _ _ hK (hU _ hi) hk (wpS_pure ?_))
  exact h
theorem gp_mono (O : Ord U blt) {left : Bool} {key : Keyed} {arr : Array Keyed} {base n : Nat} (hn : base + n<=arr.size) (hU : AllU U arr) (hK : U key) (hs : Srt blt arr base (base + n)) :
  ∀ i j,i<=j->j < n->gp blt left key arr base j = true->gp blt left key arr base i = true:=by
 intro i j hij hj h
 have h0:=hs (base + i) (base + j) (by lia) (by lia) (by lia)
 have ui:=hU (base + i) (by lia)
 have uj:=hU (base + j) (by lia)
 unfold gp at h ⊢
 cases left with
 | true=>
  simp only [if_true] at h ⊢
  rcases O.ntr _ (gt arr (base + i)) _ uj ui hK h with q | q
  ·rw [h0] at q;cases q
  ·exact q
 | false=>
  simp only [Bool.false_eq_true,if_false] at h ⊢
  cases q : blt key (gt arr (base + i)) with
  | false=>rfl
  | true=>
   rcases O.ntr _ (gt arr (base + j)) _ hK uj ui q with z | z
   ·rw [z] at h;cases h
   ·rw [h0] at z;cases z
theorem wpS_gal (O : Ord U blt) (hL : LtOk prog w A E s kd U blt) {left : Bool} {key : Keyed} {arr : Array Keyed} {base n hint : Nat} {st : SortSt} {Q : Option Nat->SortSt->Prop} (hk : kindOf st = kd) (hn : base + n<=arr.size) (hU : AllU U arr) (hK : U key)
  (hs : Srt blt arr base (base + n)) (hh : hint < n)
  (h : ∀ k,k<=n->(∀ i,i < k->gp blt left key arr base i = true)->(∀ i,k<=i->i < n->gp blt left key arr base i = false)->Q (some k) st) : wpS (model prog w) A E s (gallop' left key arr base n hint) Q st:=
 wpS_gallop (gp blt left key arr base) (fun i R hi r=>wpS_beyond hL hk (by lia) hU hK r) (gp_mono O hn hU hK hs) hh h
end
section
variable (blt : Keyed->Keyed->Bool)
noncomputable abbrev le (x y : Keyed) : Bool:=!blt y x
noncomputable def mrg (xs ys : List Keyed) : List Keyed:=xs.merge ys (le blt)
variable {blt}
theorem drop_gt {a : Array Keyed} {i : Nat} (h : i < a.size) : a.toList.drop i = gt a i :: a.toList.drop (i + 1):=by
 rw [List.drop_eq_getElem_cons (by simpa using h)]
 congr 1
 unfold gt;simp [Array.getD,h]
theorem drop_end {a : Array Keyed} {i : Nat} (h : a.size<=i) : a.toList.drop i = []:=List.drop_of_length_le (by simpa using h)
theorem mrg_nil (xs : List Keyed) : mrg blt xs [] = xs:=List.merge_right xs
theorem nil_mrg (ys : List Keyed) : mrg blt [] ys = ys:=List.nil_merge ys
theorem mrg_cons (x y : Keyed) (xs ys : List Keyed) : mrg blt (x :: xs) (y :: ys) = if blt y x then y :: mrg blt (x :: xs) ys else x :: mrg blt xs (y :: ys):=by
 unfold mrg
 rw [List.cons_merge_cons]
 cases h : blt y x <;> simp [le,h]
noncomputable def J (blt : Keyed->Keyed->Bool) (a b : Array Keyed) (out : Array Keyed) (ia ib : Nat) : Prop:=
 out.toList ++ mrg blt (a.toList.drop ia) (b.toList.drop ib) = mrg blt a.toList b.toList
variable {a b out : Array Keyed} {ia ib : Nat}
theorem J.pb (h : J blt a b out ia ib) (ha : ia < a.size) (hb : ib < b.size) (q : blt (gt b ib) (gt a ia) = true) : J blt a b (out.push (gt b ib)) ia (ib + 1):=by
 unfold J at h ⊢
 rw [<- h,drop_gt ha,drop_gt hb,mrg_cons,if_pos q,<- drop_gt ha]
 simp
theorem J.pa (h : J blt a b out ia ib) (ha : ia < a.size) (hb : ib < b.size) (q : blt (gt b ib) (gt a ia) = false) : J blt a b (out.push (gt a ia)) (ia + 1) ib:=by
 unfold J at h ⊢
 rw [<- h,drop_gt ha,drop_gt hb,mrg_cons,if_neg (by simp [q]),<- drop_gt hb]
 simp
theorem ext_succ {a : Array Keyed} {i k : Nat} (h : i + k < a.size) (out : Array Keyed) : out ++ a.extract i (i + (k + 1)) = (out ++ a.extract i (i + k)).push (gt a (i + k)):=by
 apply Array.toList_inj.mp
 simp only [Array.toList_append,Array.toList_extract,List.extract_eq_take_drop,Array.toList_push]
 rw [show i + (k + 1) - i = k + 1 by lia,show i + k - i = k by lia,List.take_add_one,List.append_assoc]
 congr 2
 rw [List.getElem?_drop]
 have : a.toList[i + k]? = some (gt a (i + k)):=by rw [Array.getElem?_toList];exact gt_some h
 rw [this]
 rfl
theorem ext_zero (a : Array Keyed) (i : Nat) (out : Array Keyed) : out ++ a.extract i (i + 0) = out:=by
 apply Array.toList_inj.mp
 simp
theorem J.ga (h : J blt a b out ia ib) (hb : ib < b.size) : ∀ k,ia + k<=a.size->(∀ i,i < k->blt (gt b ib) (gt a (ia + i)) = false)->J blt a b (out ++ a.extract ia (ia + k)) (ia + k) ib
 | 0,_,_=>by rw [ext_zero];exact h
 | k + 1,hk,q=>by
  have ih:=J.ga h hb k (by lia) fun i hi=>q i (by lia)
  rw [ext_succ (by lia)]
  exact J.pa ih (by lia) hb (q k (by lia))
theorem J.gb (h : J blt a b out ia ib) (ha : ia < a.size) : ∀ k,ib + k<=b.size->(∀ i,i < k->blt (gt b (ib + i)) (gt a ia) = true)->J blt a b (out ++ b.extract ib (ib + k)) ia (ib + k)
 | 0,_,_=>by rw [ext_zero];exact h
 | k + 1,hk,q=>by
  have ih:=J.gb h ha k (by lia) fun i hi=>q i (by lia)
  rw [ext_succ (by lia)]
  exact J.pb ih ha (by lia) (q k (by lia))
theorem ext_drop (a : Array Keyed) (i : Nat) : (a.extract i a.size).toList = a.toList.drop i:=by
 simp [Array.toList_extract,List.extract_eq_take_drop,List.take_of_length_le]
theorem J.doneB (h : J blt a b out ia ib) (hb : ib = b.size) : (out ++ a.extract ia a.size ++ b.extract ib b.size).toList = mrg blt a.toList b.toList:=by
 rw [<- h,Array.toList_append,Array.toList_append,ext_drop,ext_drop,drop_end (Nat.le_of_eq hb.symm),mrg_nil]
 simp
theorem J.doneA (h : J blt a b out ia ib) (ha : ia = a.size) : (out ++ a.extract ia a.size ++ b.extract ib b.size).toList = mrg blt a.toList b.toList:=by
 rw [<- h,Array.toList_append,Array.toList_append,ext_drop,ext_drop,drop_end (Nat.le_of_eq ha.symm),nil_mrg]
 simp
theorem mrg_last (x : Keyed) : ∀ ys : List Keyed,(∀ y ∈ ys,blt y x = true)->mrg blt [x] ys = ys ++ [x]
 | [],_=>mrg_nil _
 | y :: ys,h=>by
  rw [mrg_cons,if_pos (h y (List.mem_cons_self ..)),mrg_last x ys fun z hz=>h z (List.mem_cons_of_mem _ hz)]
  rfl
theorem mem_gt {a : Array Keyed} {x : Keyed} (h : x ∈ a.toList) : ∃ i,i < a.size/\x = gt a i:=by
 obtain ⟨i,hi,e⟩:=List.getElem_of_mem h
 refine ⟨i,by simpa using hi,?_⟩
 unfold gt
 rw [<- e]
 have hi' : i < a.size:=by simpa using hi
 simp [Array.getD,hi']
theorem J.last (h : J blt a b out ia ib) (ha : ia + 1 = a.size) (q : ∀ i,i < b.size->blt (gt b i) (gt a ia) = true) : (out ++ b.extract ib b.size ++ a.extract ia a.size).toList = mrg blt a.toList b.toList:=by
 rw [<- h,Array.toList_append,Array.toList_append,ext_drop,ext_drop,drop_gt (by lia : ia < a.size),drop_end (a:=a) (i:=ia + 1) (by lia),mrg_last,List.append_assoc]
 intro y hy
 obtain ⟨i,hi,e⟩:=mem_gt (List.mem_of_mem_drop hy)
 rw [e];exact q i hi
end
end TS
end
section
set_option maxHeartbeats 1000000
namespace TS
open PySem PyProof.Rows
structure Sim (st st' : SortSt) : Prop where
 kd : kindOf st' = kindOf st
 ar : arrOf st' = arrOf st
 pd : pendingOf st' = pendingOf st
 fl : failedOf st' = failedOf st
section
variable {prog : Program} {w : World} {A : Around} {E : Value->Shared->Prop} {s : Shared} {kd : SortKind} {U : Keyed->Prop} {blt : Keyed->Keyed->Bool}
theorem wpS_mergeLo (O : Ord U blt) (hL : LtOk prog w A E s kd U blt) {a b : Array Keyed} {st : SortSt} {Q : Array Keyed->SortSt->Prop} (hk : kindOf st = kd) (hUa : AllU U a) (hUb : AllU U b) (hsa : Srt blt a 0 a.size) (hsb : Srt blt b 0 b.size)
  (ha : 0 < a.size) (hb : 0 < b.size) (hf : blt (gt b 0) (gt a 0) = true) (hl : ∀ i,i < b.size->blt (gt b i) (gt a (a.size - 1)) = true)
  (h : ∀ r st',Sim st st'->r.toList = mrg blt a.toList b.toList->Q r st') : wpS (model prog w) A E s (mergeLo' a b) Q st:=by
 have lastAt : ∀ {j : Nat},j + 1 = a.size->∀ i,i < b.size->blt (gt b i) (gt a j) = true:=fun {j} hj i hi=>by
  have:=hl i hi
  rwa [show a.size - 1 = j by lia] at this
 with_unfolding_all refine wpS_bind (wpS_lift (wpAny_rule ⟨rfl,?_⟩))
 dsimp only
 refine wpS_bind (wpS_elem hb ?_)
 try dsimp only
 have J0 : J blt a b #[gt b 0] 0 1:=J.pb (out:=#[]) (by unfold J;simp) ha hb hf
 have sim0 : Sim st st:=⟨rfl,rfl,rfl,rfl⟩
 by_cases e1 : 1 = b.size
 ·rw [if_pos (by simpa using e1)]
  exact wpS_pure (h _ _ sim0 (J0.doneB e1))
 rw [if_neg (by simpa using e1)]
 by_cases e2 : 0 + 1 = a.size
 ·rw [if_pos (by simpa using e2)]
  exact wpS_pure (h _ _ sim0 (J0.last e2 (lastAt e2)))
 rw [if_neg (by simpa using e2)]
 refine wpS_bind (wpS_get ?_)
 refine wpS_bind (wpS_mono (wpS_forRange
  (I:=fun x c st'=>Sim st st'/\∃ out ia ib mg,c = (none,out,ia,ib,mg)/\J blt a b out ia ib/\ia + 1 < a.size/\ib < b.size/\x<=ia + ib)
  (Q:=fun c st'=>Sim st st'/\∃ r,c.1 = some r/\r.toList = mrg blt a.toList b.toList) ?step ?fin ?init) ?post)
 case init=>exact ⟨sim0,_,_,_,_,rfl,J0,by lia,by lia,by lia⟩
 case fin=>
  rintro c st' ⟨_,out,ia,ib,mg,rfl,_,h1,h2,h3⟩
  lia
 case post=>
  rintro ⟨c1,c2⟩ st' ⟨sim,r,e,hr⟩
  dsimp only at e
  subst e
  exact wpS_pure (h r st' sim hr)
 case step=>
  rintro x₀ c st1 _ hx0 ⟨sim,out,ia,ib,mg,rfl,j1,h1,h2,h3⟩
  dsimp only
  refine wpS_bind (wpS_mono (wpS_forRange
   (I:=fun x c st'=>Sim st st'/\∃ out ia ib ac bc,c = (none,out,ia,ib,ac,bc)/\J blt a b out ia ib/\ia + 1 < a.size/\ib < b.size/\x₀<=ia + ib/\x<=ia + ib)
   (Q:=fun c st'=>Sim st st'/\((∃ r,c.1 = some r/\r.toList = mrg blt a.toList b.toList)\/∃ out ia ib ac bc,c = (none,out,ia,ib,ac,bc)/\J blt a b out ia ib/\ia + 1 < a.size/\ib < b.size/\x₀ + 1<=ia + ib)) ?step2 ?fin2 ?init2) ?post2)
  case init2=>exact ⟨sim,_,_,_,_,_,rfl,j1,h1,h2,h3,by lia⟩
  case fin2=>
   rintro c st' ⟨_,out,ia,ib,ac,bc,rfl,_,h1,h2,_,h3⟩
   lia
  case step2=>
   rintro x c st2 _ hx ⟨sim,out,ia,ib,ac,bc,rfl,j2,h1,h2,h3,h4⟩
   dsimp only
   refine wpS_bind (wpS_elem h2 (wpS_bind (wpS_elem (by lia) (wpS_bind (hL _ _ _ _ (hUb _ h2) (hUa _ (by lia)) (sim.1.trans hk) ?_)))))
   dsimp only
   cases q : blt (gt b ib) (gt a ia) with
   | true=>
    simp only [if_true]
    refine wpS_bind (wpS_elem h2 ?_)
    have j3:=J.pb j2 (by lia) h2 q
    by_cases e3 : ib + 1 = b.size
    ·rw [if_pos (by simpa using e3)]
     exact wpS_pure ⟨sim,.inl ⟨_,rfl,j3.doneB e3⟩⟩
    ·rw [if_neg (by simpa using e3)]
     split
     ·exact wpS_pure ⟨sim,.inr ⟨_,_,_,_,_,rfl,j3,by lia,by lia,by lia⟩⟩
     ·exact wpS_pure ⟨sim,_,_,_,_,_,rfl,j3,by lia,by lia,by lia,by lia⟩
   | false=>
    simp only [Bool.false_eq_true,if_false]
    refine wpS_bind (wpS_elem (by lia) ?_)
    have j3:=J.pa j2 (by lia) h2 q
    by_cases e3 : ia + 1 + 1 = a.size
    ·rw [if_pos (by simpa using e3)]
     exact wpS_pure ⟨sim,.inl ⟨_,rfl,j3.last e3 (lastAt e3)⟩⟩
    ·rw [if_neg (by simpa using e3)]
     split
     ·exact wpS_pure ⟨sim,.inr ⟨_,_,_,_,_,rfl,j3,by lia,by lia,by lia⟩⟩
     ·exact wpS_pure ⟨sim,_,_,_,_,_,rfl,j3,by lia,by lia,by lia,by lia⟩
  case post2=>
   rintro ⟨c1,c2⟩ st2 ⟨sim,⟨r,e,hr⟩ | ⟨out,ia,ib,ac,bc,e,j2,h1,h2,h3⟩⟩
   ·dsimp only at e
    subst e
    exact wpS_pure ⟨sim,r,rfl,hr⟩
   ·cases e
    dsimp only
    refine wpS_bind (wpS_lift (wpAny_rule ⟨rfl,?_⟩))
    refine wpS_bind (wpS_mono (wpS_forRange
     (I:=fun x c st'=>Sim st st'/\∃ out ia ib mg ac bc,c = (none,out,ia,ib,mg,ac,bc)/\J blt a b out ia ib/\ia + 1 < a.size/\ib < b.size/\x₀ + 1<=ia + ib/\x<=ia + ib)
     (Q:=fun c st'=>Sim st st'/\((∃ r,c.1 = some r/\r.toList = mrg blt a.toList b.toList)\/∃ out ia ib mg ac bc,c = (none,out,ia,ib,mg,ac,bc)/\J blt a b out ia ib/\ia + 1 < a.size/\ib < b.size/\x₀ + 1<=ia + ib)) ?step3 ?fin3 ?init3) ?post3)
    case init3=>exact ⟨sim,_,_,_,_,_,_,rfl,j2,h1,h2,h3,by lia⟩
    case fin3=>
     rintro c st' ⟨_,out,ia,ib,mg,ac,bc,rfl,_,h1,h2,_,h3⟩
     lia
    case post3=>
     rintro ⟨c1,c2⟩ st3 ⟨sim,⟨r,e,hr⟩ | ⟨out,ia,ib,mg,ac,bc,e,j3,h1,h2,h3⟩⟩
     ·dsimp only at e
      subst e
      exact wpS_pure ⟨sim,r,rfl,hr⟩
     ·cases e
      dsimp only
      refine wpS_bind (wpS_setMin (wpS_pure ⟨⟨sim.1,sim.2,sim.3,sim.4⟩,_,_,_,_,rfl,j3,h1,h2,by lia⟩))
    case step3=>
     rintro x c st3 _ hx ⟨sim,out,ia,ib,mg,ac,bc,rfl,j3,h1,h2,h3,h4⟩
     dsimp only
     by_cases hg : mg > 1
     ·rw [if_pos hg]
      refine wpS_bind (wpS_setMin ?_)
      have sim' : Sim st (SortSt.mk' (kindOf st3) (arrOf st3) (pendingOf st3) (mg - 1) (failedOf st3)):=⟨sim.1,sim.2,sim.3,sim.4⟩
      have hk' : kindOf (SortSt.mk' (kindOf st3) (arrOf st3) (pendingOf st3) (mg - 1) (failedOf st3)) = kd:=sim.1.trans hk
      refine wpS_bind (wpS_elem (by lia) ?_)
      refine wpS_bind (wpS_gal O hL hk' (by lia) hUa (hUb _ (by lia)) (fun i j i1 i2 i3=>hsa i j (by lia) i2 (by lia)) (by lia) fun k hk1 y1 y2=>?_)
      try dsimp only
      by_cases kp : k > 0
      ·rw [if_pos kp]
       have J1:=J.ga j3 (by lia) k (by lia) (fun i hi=>by have:=y1 i hi;simpa [gp] using this)
       by_cases e1 : ia + k + 1 = a.size
       ·rw [if_pos (by simpa using e1)]
        exact wpS_pure ⟨sim',.inl ⟨_,rfl,J1.last e1 (lastAt (by lia))⟩⟩
       ·rw [if_neg (by simpa using e1)]
        by_cases e1' : ia + k = a.size
        ·rw [if_pos (by simpa using e1')]
         exact wpS_pure ⟨sim',.inl ⟨_,rfl,J1.doneA e1'⟩⟩
        ·rw [if_neg (by simpa using e1')]
         have hz1 : blt (gt b ib) (gt a (ia + k)) = true:=(by have:=y2 k (Nat.le_refl _) (by lia);simpa [gp] using this)
         refine wpS_bind (wpS_elem (by lia) ?_)
         try dsimp only
         have J2:=J.pb J1 (by lia) (by lia) hz1
         by_cases e2 : ib + 1 = b.size
         ·rw [if_pos (by simpa using e2)]
          exact wpS_pure ⟨sim',.inl ⟨_,rfl,J2.doneB e2⟩⟩
         ·rw [if_neg (by simpa using e2)]
          refine wpS_bind (wpS_elem (by lia) ?_)
          refine wpS_bind (wpS_gal O hL hk' (by lia) hUb (hUa _ (by lia)) (fun i j i1 i2 i3=>hsb i j (by lia) i2 (by lia)) (by lia) fun k1 hk1 y1 y2=>?_)
          try dsimp only
          by_cases k1p : k1 > 0
          ·rw [if_pos k1p]
           have J3:=J.gb J2 (by lia) k1 (by lia) (fun i hi=>by have:=y1 i hi;simpa [gp] using this)
           by_cases e3 : ib + 1 + k1 = b.size
           ·rw [if_pos (by simpa using e3)]
            exact wpS_pure ⟨sim',.inl ⟨_,rfl,J3.doneB e3⟩⟩
           ·rw [if_neg (by simpa using e3)]
            have hz2 : blt (gt b (ib + 1 + k1)) (gt a (ia + k)) = false:=(by have:=y2 k1 (Nat.le_refl _) (by lia);simpa [gp] using this)
            refine wpS_bind (wpS_elem (by lia) ?_)
            try dsimp only
            have J4:=J.pa J3 (by lia) (by lia) hz2
            by_cases e4 : (ia + k) + 1 + 1 = a.size
            ·rw [if_pos (by simpa using e4)]
             exact wpS_pure ⟨sim',.inl ⟨_,rfl,J4.last e4 (lastAt (by lia))⟩⟩
            ·rw [if_neg (by simpa using e4)]
             split
             ·exact wpS_pure ⟨sim',.inr ⟨_,_,_,_,_,_,rfl,J4,by lia,by lia,by lia⟩⟩
             ·exact wpS_pure ⟨sim',_,_,_,_,_,_,rfl,J4,by lia,by lia,by lia,by lia⟩
          ·rw [if_neg k1p]
           obtain rfl : k1 = 0:=by lia
           have J3:=J2
           have hz2 : blt (gt b (ib + 1)) (gt a (ia + k)) = false:=(by have:=y2 0 (Nat.le_refl _) (by lia);simpa [gp] using this)
           refine wpS_bind (wpS_elem (by lia) ?_)
           try dsimp only
           have J4:=J.pa J3 (by lia) (by lia) hz2
           by_cases e4 : (ia + k) + 1 + 1 = a.size
           ·rw [if_pos (by simpa using e4)]
            exact wpS_pure ⟨sim',.inl ⟨_,rfl,J4.last e4 (lastAt (by lia))⟩⟩
           ·rw [if_neg (by simpa using e4)]
            split
            ·exact wpS_pure ⟨sim',.inr ⟨_,_,_,_,_,_,rfl,J4,by lia,by lia,by lia⟩⟩
            ·exact wpS_pure ⟨sim',_,_,_,_,_,_,rfl,J4,by lia,by lia,by lia,by lia⟩
      ·rw [if_neg kp]
       obtain rfl : k = 0:=by lia
       have J1:=j3
       have hz1 : blt (gt b ib) (gt a ia) = true:=(by have:=y2 0 (Nat.le_refl _) (by lia);simpa [gp] using this)
       refine wpS_bind (wpS_elem (by lia) ?_)
       try dsimp only
       have J2:=J.pb J1 (by lia) (by lia) hz1
       by_cases e2 : ib + 1 = b.size
       ·rw [if_pos (by simpa using e2)]
        exact wpS_pure ⟨sim',.inl ⟨_,rfl,J2.doneB e2⟩⟩
       ·rw [if_neg (by simpa using e2)]
        refine wpS_bind (wpS_elem (by lia) ?_)
        refine wpS_bind (wpS_gal O hL hk' (by lia) hUb (hUa _ (by lia)) (fun i j i1 i2 i3=>hsb i j (by lia) i2 (by lia)) (by lia) fun k1 hk1 y1 y2=>?_)
        try dsimp only
        by_cases k1p : k1 > 0
        ·rw [if_pos k1p]
         have J3:=J.gb J2 (by lia) k1 (by lia) (fun i hi=>by have:=y1 i hi;simpa [gp] using this)
         by_cases e3 : ib + 1 + k1 = b.size
         ·rw [if_pos (by simpa using e3)]
          exact wpS_pure ⟨sim',.inl ⟨_,rfl,J3.doneB e3⟩⟩
         ·rw [if_neg (by simpa using e3)]
          have hz2 : blt (gt b (ib + 1 + k1)) (gt a ia) = false:=(by have:=y2 k1 (Nat.le_refl _) (by lia);simpa [gp] using this)
          refine wpS_bind (wpS_elem (by lia) ?_)
          try dsimp only
          have J4:=J.pa J3 (by lia) (by lia) hz2
          by_cases e4 : ia + 1 + 1 = a.size
          ·rw [if_pos (by simpa using e4)]
           exact wpS_pure ⟨sim',.inl ⟨_,rfl,J4.last e4 (lastAt (by lia))⟩⟩
          ·rw [if_neg (by simpa using e4)]
           split
           ·exact wpS_pure ⟨sim',.inr ⟨_,_,_,_,_,_,rfl,J4,by lia,by lia,by lia⟩⟩
           ·exact wpS_pure ⟨sim',_,_,_,_,_,_,rfl,J4,by lia,by lia,by lia,by lia⟩
        ·rw [if_neg k1p]
         obtain rfl : k1 = 0:=by lia
         have J3:=J2
         have hz2 : blt (gt b (ib + 1)) (gt a ia) = false:=(by have:=y2 0 (Nat.le_refl _) (by lia);simpa [gp] using this)
         refine wpS_bind (wpS_elem (by lia) ?_)
         try dsimp only
         have J4:=J.pa J3 (by lia) (by lia) hz2
         by_cases e4 : ia + 1 + 1 = a.size
         ·rw [if_pos (by simpa using e4)]
          exact wpS_pure ⟨sim',.inl ⟨_,rfl,J4.last e4 (lastAt (by lia))⟩⟩
         ·rw [if_neg (by simpa using e4)]
          split
          ·exact wpS_pure ⟨sim',.inr ⟨_,_,_,_,_,_,rfl,J4,by lia,by lia,by lia⟩⟩
          ·exact wpS_pure ⟨sim',_,_,_,_,_,_,rfl,J4,by lia,by lia,by lia,by lia⟩
     ·rw [if_neg hg]
      refine wpS_bind (wpS_setMin ?_)
      have sim' : Sim st (SortSt.mk' (kindOf st3) (arrOf st3) (pendingOf st3) mg (failedOf st3)):=⟨sim.1,sim.2,sim.3,sim.4⟩
      have hk' : kindOf (SortSt.mk' (kindOf st3) (arrOf st3) (pendingOf st3) mg (failedOf st3)) = kd:=sim.1.trans hk
      refine wpS_bind (wpS_elem (by lia) ?_)
      refine wpS_bind (wpS_gal O hL hk' (by lia) hUa (hUb _ (by lia)) (fun i j i1 i2 i3=>hsa i j (by lia) i2 (by lia)) (by lia) fun k hk1 y1 y2=>?_)
      try dsimp only
      by_cases kp : k > 0
      ·rw [if_pos kp]
       have J1:=J.ga j3 (by lia) k (by lia) (fun i hi=>by have:=y1 i hi;simpa [gp] using this)
       by_cases e1 : ia + k + 1 = a.size
       ·rw [if_pos (by simpa using e1)]
        exact wpS_pure ⟨sim',.inl ⟨_,rfl,J1.last e1 (lastAt (by lia))⟩⟩
       ·rw [if_neg (by simpa using e1)]
        by_cases e1' : ia + k = a.size
        ·rw [if_pos (by simpa using e1')]
         exact wpS_pure ⟨sim',.inl ⟨_,rfl,J1.doneA e1'⟩⟩
        ·rw [if_neg (by simpa using e1')]
         have hz1 : blt (gt b ib) (gt a (ia + k)) = true:=(by have:=y2 k (Nat.le_refl _) (by lia);simpa [gp] using this)
         refine wpS_bind (wpS_elem (by lia) ?_)
         try dsimp only
         have J2:=J.pb J1 (by lia) (by lia) hz1
         by_cases e2 : ib + 1 = b.size
         ·rw [if_pos (by simpa using e2)]
          exact wpS_pure ⟨sim',.inl ⟨_,rfl,J2.doneB e2⟩⟩
         ·rw [if_neg (by simpa using e2)]
          refine wpS_bind (wpS_elem (by lia) ?_)
          refine wpS_bind (wpS_gal O hL hk' (by lia) hUb (hUa _ (by lia)) (fun i j i1 i2 i3=>hsb i j (by lia) i2 (by lia)) (by lia) fun k1 hk1 y1 y2=>?_)
          try dsimp only
          by_cases k1p : k1 > 0
          ·rw [if_pos k1p]
           have J3:=J.gb J2 (by lia) k1 (by lia) (fun i hi=>by have:=y1 i hi;simpa [gp] using this)
           by_cases e3 : ib + 1 + k1 = b.size
           ·rw [if_pos (by simpa using e3)]
            exact wpS_pure ⟨sim',.inl ⟨_,rfl,J3.doneB e3⟩⟩
           ·rw [if_neg (by simpa using e3)]
            have hz2 : blt (gt b (ib + 1 + k1)) (gt a (ia + k)) = false:=(by have:=y2 k1 (Nat.le_refl _) (by lia);simpa [gp] using this)
            refine wpS_bind (wpS_elem (by lia) ?_)
            try dsimp only
            have J4:=J.pa J3 (by lia) (by lia) hz2
            by_cases e4 : (ia + k) + 1 + 1 = a.size
            ·rw [if_pos (by simpa using e4)]
             exact wpS_pure ⟨sim',.inl ⟨_,rfl,J4.last e4 (lastAt (by lia))⟩⟩
            ·rw [if_neg (by simpa using e4)]
             split
             ·exact wpS_pure ⟨sim',.inr ⟨_,_,_,_,_,_,rfl,J4,by lia,by lia,by lia⟩⟩
             ·exact wpS_pure ⟨sim',_,_,_,_,_,_,rfl,J4,by lia,by lia,by lia,by lia⟩
          ·rw [if_neg k1p]
           obtain rfl : k1 = 0:=by lia
           have J3:=J2
           have hz2 : blt (gt b (ib + 1)) (gt a (ia + k)) = false:=(by have:=y2 0 (Nat.le_refl _) (by lia);simpa [gp] using this)
           refine wpS_bind (wpS_elem (by lia) ?_)
           try dsimp only
           have J4:=J.pa J3 (by lia) (by lia) hz2
           by_cases e4 : (ia + k) + 1 + 1 = a.size
           ·rw [if_pos (by simpa using e4)]
            exact wpS_pure ⟨sim',.inl ⟨_,rfl,J4.last e4 (lastAt (by lia))⟩⟩
           ·rw [if_neg (by simpa using e4)]
            split
            ·exact wpS_pure ⟨sim',.inr ⟨_,_,_,_,_,_,rfl,J4,by lia,by lia,by lia⟩⟩
            ·exact wpS_pure ⟨sim',_,_,_,_,_,_,rfl,J4,by lia,by lia,by lia,by lia⟩
      ·rw [if_neg kp]
       obtain rfl : k = 0:=by lia
       have J1:=j3
       have hz1 : blt (gt b ib) (gt a ia) = true:=(by have:=y2 0 (Nat.le_refl _) (by lia);simpa [gp] using this)
       refine wpS_bind (wpS_elem (by lia) ?_)
       try dsimp only
       have J2:=J.pb J1 (by lia) (by lia) hz1
       by_cases e2 : ib + 1 = b.size
       ·rw [if_pos (by simpa using e2)]
        exact wpS_pure ⟨sim',.inl ⟨_,rfl,J2.doneB e2⟩⟩
       ·rw [if_neg (by simpa using e2)]
        refine wpS_bind (wpS_elem (by lia) ?_)
        refine wpS_bind (wpS_gal O hL hk' (by lia) hUb (hUa _ (by lia)) (fun i j i1 i2 i3=>hsb i j (by lia) i2 (by lia)) (by lia) fun k1 hk1 y1 y2=>?_)
        try dsimp only
        by_cases k1p : k1 > 0
        ·rw [if_pos k1p]
         have J3:=J.gb J2 (by lia) k1 (by lia) (fun i hi=>by have:=y1 i hi;simpa [gp] using this)
         by_cases e3 : ib + 1 + k1 = b.size
         ·rw [if_pos (by simpa using e3)]
          exact wpS_pure ⟨sim',.inl ⟨_,rfl,J3.doneB e3⟩⟩
         ·rw [if_neg (by simpa using e3)]
          have hz2 : blt (gt b (ib + 1 + k1)) (gt a ia) = false:=(by have:=y2 k1 (Nat.le_refl _) (by lia);simpa [gp] using this)
          refine wpS_bind (wpS_elem (by lia) ?_)
          try dsimp only
          have J4:=J.pa J3 (by lia) (by lia) hz2
          by_cases e4 : ia + 1 + 1 = a.size
          ·rw [if_pos (by simpa using e4)]
           exact wpS_pure ⟨sim',.inl ⟨_,rfl,J4.last e4 (lastAt (by lia))⟩⟩
          ·rw [if_neg (by simpa using e4)]
           split
           ·exact wpS_pure ⟨sim',.inr ⟨_,_,_,_,_,_,rfl,J4,by lia,by lia,by lia⟩⟩
           ·exact wpS_pure ⟨sim',_,_,_,_,_,_,rfl,J4,by lia,by lia,by lia,by lia⟩
        ·rw [if_neg k1p]
         obtain rfl : k1 = 0:=by lia
         have J3:=J2
         have hz2 : blt (gt b (ib + 1)) (gt a ia) = false:=(by have:=y2 0 (Nat.le_refl _) (by lia);simpa [gp] using this)
         refine wpS_bind (wpS_elem (by lia) ?_)
         try dsimp only
         have J4:=J.pa J3 (by lia) (by lia) hz2
         by_cases e4 : ia + 1 + 1 = a.size
         ·rw [if_pos (by simpa using e4)]
          exact wpS_pure ⟨sim',.inl ⟨_,rfl,J4.last e4 (lastAt (by lia))⟩⟩
         ·rw [if_neg (by simpa using e4)]
          split
          ·exact wpS_pure ⟨sim',.inr ⟨_,_,_,_,_,_,rfl,J4,by lia,by lia,by lia⟩⟩
          ·exact wpS_pure ⟨sim',_,_,_,_,_,_,rfl,J4,by lia,by lia,by lia,by lia⟩
end
end TS
end
section
set_option maxHeartbeats 1000000
namespace TS
open PySem PyProof.Rows
section
variable {blt : Keyed->Keyed->Bool}
theorem take_gt {a : Array Keyed} {n : Nat} (h : n < a.size) : a.toList.take (n + 1) = a.toList.take n ++ [gt a n]:=by
 rw [List.take_add_one]
 have : a.toList[n]? = some (gt a n):=by rw [Array.getElem?_toList];exact gt_some h
 rw [this]
 rfl
theorem mem_take_gt {a : Array Keyed} {n : Nat} {z : Keyed} (h : z ∈ a.toList.take n) : ∃ i, i < n /\ i < a.size /\ z = gt a i := by
  obtain ⟨i, hi, e⟩ := List.getElem_of_mem h
  rw [List.length_take] at hi
  have h2 : i < a.size := by have : i < a.toList.length := by lia
                             simpa using this
  refine ⟨i, by lia, h2, ?_⟩
  rw [<- e, List.getElem_take]
  unfold gt
  simp [Array.getD, h2]
theorem mrg_snocA (x : Keyed) : ∀ (xs zs : List Keyed),(∀ z ∈ zs,blt z x = true)->mrg blt (xs ++ [x]) zs = mrg blt xs zs ++ [x]
 | [],zs,h=>by rw [List.nil_append,mrg_last x zs h,nil_mrg]
 | x0 :: xs,[],_=>by rw [mrg_nil,mrg_nil]
 | x0 :: xs,z :: zs,h=>by
  rw [List.cons_append,mrg_cons,mrg_cons]
  by_cases q : blt z x0 = true
  ·rw [if_pos q,if_pos q,<- List.cons_append,mrg_snocA x (x0 :: xs) zs fun y hy=>h y (List.mem_cons_of_mem _ hy)]
   rfl
  ·rw [if_neg q,if_neg q,mrg_snocA x xs (z :: zs) h]
   rfl
 termination_by xs zs=>xs.length + zs.length
theorem mrg_first (y : Keyed) : ∀ zs : List Keyed,(∀ z ∈ zs,blt y z = false)->mrg blt zs [y] = zs ++ [y]
 | [],_=>nil_mrg _
 | z :: zs,h=>by
  rw [mrg_cons,if_neg (by simp [h z (List.mem_cons_self ..)]),mrg_first y zs fun u hu=>h u (List.mem_cons_of_mem _ hu)]
  rfl
theorem mrg_snocB (y : Keyed) : ∀ (zs ys : List Keyed),(∀ z ∈ zs,blt y z = false)->mrg blt zs (ys ++ [y]) = mrg blt zs ys ++ [y]
 | zs,[],h=>by rw [List.nil_append,mrg_first y zs h,mrg_nil]
 | [],y0 :: ys,_=>by rw [nil_mrg,nil_mrg]
 | z :: zs,y0 :: ys,h=>by
  rw [List.cons_append,mrg_cons,mrg_cons]
  by_cases q : blt y0 z = true
  ·rw [if_pos q,if_pos q,mrg_snocB y (z :: zs) ys h]
   rfl
  ·rw [if_neg q,if_neg q,<- List.cons_append,mrg_snocB y zs (y0 :: ys) fun u hu=>h u (List.mem_cons_of_mem _ hu)]
   rfl
 termination_by zs ys=>zs.length + ys.length
noncomputable def JH (blt : Keyed->Keyed->Bool) (a b : Array Keyed) (out : Array Keyed) (na nb : Nat) : Prop:=
 mrg blt (a.toList.take na) (b.toList.take nb) ++ out.toList.reverse = mrg blt a.toList b.toList
variable {a b out : Array Keyed} {na nb : Nat}
theorem JH.pa (h : JH blt a b out na nb) (ha : 0 < na) (h1 : na<=a.size) (h2 : nb<=b.size) (q : ∀ i,i < nb->blt (gt b i) (gt a (na - 1)) = true) : JH blt a b (out.push (gt a (na - 1))) (na - 1) nb:=by
 unfold JH at h ⊢
 obtain ⟨n,rfl⟩ : ∃ n,na = n + 1:=⟨na - 1,by lia⟩
 rw [take_gt (by lia),mrg_snocA _ _ _ (fun z hz=>by obtain ⟨i,i1,i2,rfl⟩:=mem_take_gt hz;exact q i i1)] at h
 rw [<- h]
 simp
theorem JH.pb (h : JH blt a b out na nb) (hb : 0 < nb) (h1 : na<=a.size) (h2 : nb<=b.size) (q : ∀ i,i < na->blt (gt b (nb - 1)) (gt a i) = false) : JH blt a b (out.push (gt b (nb - 1))) na (nb - 1):=by
 unfold JH at h ⊢
 obtain ⟨n,rfl⟩ : ∃ n,nb = n + 1:=⟨nb - 1,by lia⟩
 rw [take_gt (by lia),mrg_snocB _ _ _ (fun z hz=>by obtain ⟨i,i1,i2,rfl⟩:=mem_take_gt hz;exact q i i1)] at h
 rw [<- h]
 simp
theorem ext_rev {a : Array Keyed} {i n : Nat} (h : i < n) (hn : n<=a.size) (out : Array Keyed) : out ++ (a.extract i n).reverse = (out.push (gt a (n - 1))) ++ (a.extract i (n - 1)).reverse:=by
 apply Array.toList_inj.mp
 simp only [Array.toList_append,Array.toList_reverse,Array.toList_extract,List.extract_eq_take_drop,Array.toList_push]
 obtain ⟨m,rfl⟩ : ∃ m,n = m + 1:=⟨n - 1,by lia⟩
 rw [show m + 1 - i = (m - i) + 1 by lia,List.take_add_one,List.getElem?_drop,show i + (m - i) = m by lia]
 have : a.toList[m]? = some (gt a m):=by rw [Array.getElem?_toList];exact gt_some (by lia)
 rw [this]
 simp
theorem ext_rev0 {a : Array Keyed} {i : Nat} (out : Array Keyed) : out ++ (a.extract i i).reverse = out:=by
 apply Array.toList_inj.mp
 simp
theorem JH.ga : ∀ {na : Nat} {out : Array Keyed},JH blt a b out na nb->na<=a.size->nb<=b.size->∀ at_,at_<=na->(∀ i,at_<=i->i < na->∀ z,z < nb->blt (gt b z) (gt a i) = true)->JH blt a b (out ++ (a.extract at_ na).reverse) at_ nb
 | 0,out,h,_,_,at_,h0,_=>by
  obtain rfl : at_ = 0:=by lia
  rw [ext_rev0];exact h
 | n + 1,out,h,h1,h2,at_,h0,q=>by
  by_cases e : at_ = n + 1
  ·subst e
   rw [ext_rev0];exact h
  ·rw [ext_rev (by lia) h1]
   exact JH.ga (na:=n) (JH.pa h (by lia) h1 h2 (q n (by lia) (by lia))) (by lia) h2 at_ (by lia) fun i i1 i2=>q i i1 (by lia)
theorem JH.gb : ∀ {nb : Nat} {out : Array Keyed},JH blt a b out na nb->na<=a.size->nb<=b.size->∀ at_,at_<=nb->(∀ i,at_<=i->i < nb->∀ z,z < na->blt (gt b i) (gt a z) = false)->JH blt a b (out ++ (b.extract at_ nb).reverse) na at_
 | 0,out,h,_,_,at_,h0,_=>by
  obtain rfl : at_ = 0:=by lia
  rw [ext_rev0];exact h
 | n + 1,out,h,h1,h2,at_,h0,q=>by
  by_cases e : at_ = n + 1
  ·subst e
   rw [ext_rev0];exact h
  ·rw [ext_rev (by lia) h2]
   exact JH.gb (nb:=n) (JH.pb h (by lia) h1 h2 (q n (by lia) (by lia))) h1 (by lia) at_ (by lia) fun i i1 i2=>q i i1 (by lia)
theorem ext_take (a : Array Keyed) (n : Nat) : (a.extract 0 n).toList = a.toList.take n:=by
 simp [Array.toList_extract,List.extract_eq_take_drop]
theorem JH.doneA (h : JH blt a b out na nb) (e : na = 0) : (a.extract 0 na ++ b.extract 0 nb ++ out.reverse).toList = mrg blt a.toList b.toList:=by
 subst e
 rw [<- h,Array.toList_append,Array.toList_append,ext_take,ext_take,Array.toList_reverse,List.take_zero,nil_mrg]
 rfl
theorem JH.doneB (h : JH blt a b out na nb) (e : nb = 0) : (a.extract 0 na ++ b.extract 0 nb ++ out.reverse).toList = mrg blt a.toList b.toList:=by
 subst e
 rw [<- h,Array.toList_append,Array.toList_append,ext_take,ext_take,Array.toList_reverse,List.take_zero,mrg_nil,List.append_nil]
theorem JH.first (h : JH blt a b out na nb) (e : nb = 1) (ha : 0 < a.size) (hb : 0 < b.size) (hf : blt (gt b 0) (gt a 0) = true) (hn : 0 < na) : (b.extract 0 nb ++ a.extract 0 na ++ out.reverse).toList = mrg blt a.toList b.toList:=by
 subst e
 rw [<- h,Array.toList_append,Array.toList_append,ext_take,ext_take,Array.toList_reverse]
 have e1 : b.toList.take 1 = [gt b 0]:=by rw [take_gt (a:=b) (n:=0) hb];rfl
 obtain ⟨m,rfl⟩ : ∃ m,na = m + 1:=⟨na - 1,by lia⟩
 have e2 : a.toList.take (m + 1) = gt a 0 :: (a.toList.drop 1).take m:=by
  have:=drop_gt (a:=a) (i:=0) ha
  rw [List.drop_zero] at this
  rw [this]
  rfl
 rw [e1,e2,mrg_cons,if_pos hf,mrg_nil]
 rfl
variable {U : Keyed->Prop}
theorem leA (O : Ord U blt) (hUa : AllU U a) (hUb : AllU U b) (hsa : Srt blt a 0 a.size) {n i z : Nat} (hn : n<=a.size) (hi : i < b.size) (hz : z < n) (q : blt (gt b i) (gt a (n - 1)) = false) : blt (gt b i) (gt a z) = false:=by
 cases e : blt (gt b i) (gt a z) with
 | false=>rfl
 | true=>
  rcases O.ntr _ (gt a (n - 1)) _ (hUb i hi) (hUa _ (by lia)) (hUa z (by lia)) e with p | p
  ·rw [q] at p;cases p
  ·rw [hsa z (n - 1) (by lia) (by lia) (by lia)] at p;cases p
theorem ltB' (O : Ord U blt) (hUa : AllU U a) (hUb : AllU U b) (hsb : Srt blt b 0 b.size) {n i z : Nat} (hn : n<=b.size) (hi : i < a.size) (hz : z < n) (q : blt (gt b (n - 1)) (gt a i) = true) : blt (gt b z) (gt a i) = true:=by
 rcases O.ntr _ (gt b z) _ (hUb (n - 1) (by lia)) (hUb z (by lia)) (hUa i hi) q with p | p
 ·rw [hsb z (n - 1) (by lia) (by lia) (by lia)] at p;cases p
 ·exact p
end
section
variable {prog : Program} {w : World} {A : Around} {E : Value->Shared->Prop} {s : Shared} {kd : SortKind} {U : Keyed->Prop} {blt : Keyed->Keyed->Bool}
theorem wpS_mergeHi (O : Ord U blt) (hL : LtOk prog w A E s kd U blt) {a b : Array Keyed} {st : SortSt} {Q : Array Keyed->SortSt->Prop} (hk : kindOf st = kd) (hUa : AllU U a) (hUb : AllU U b) (hsa : Srt blt a 0 a.size) (hsb : Srt blt b 0 b.size)
  (ha : 0 < a.size) (hb : 0 < b.size) (hf : blt (gt b 0) (gt a 0) = true) (hl : ∀ i,i < b.size->blt (gt b i) (gt a (a.size - 1)) = true)
  (h : ∀ r st',Sim st st'->r.toList = mrg blt a.toList b.toList->Q r st') : wpS (model prog w) A E s (mergeHi' a b) Q st:=by
 with_unfolding_all refine wpS_bind (wpS_lift (wpAny_rule ⟨rfl,?_⟩))
 dsimp only
 refine wpS_bind (wpS_elem (by lia) ?_)
 try dsimp only
 have J0 : JH blt a b #[gt a (a.size - 1)] (a.size - 1) b.size:=JH.pa (out:=#[]) (na:=a.size) (by unfold JH;simp [List.take_of_length_le]) ha (Nat.le_refl _) (Nat.le_refl _) hl
 have sim0 : Sim st st:=⟨rfl,rfl,rfl,rfl⟩
 by_cases e1 : a.size - 1 = 0
 ·rw [if_pos (by simpa using e1)]
  exact wpS_pure (h _ _ sim0 (J0.doneA e1))
 rw [if_neg (by simpa using e1)]
 by_cases e2 : b.size = 1
 ·rw [if_pos (by simpa using e2)]
  exact wpS_pure (h _ _ sim0 (J0.first e2 ha hb hf (by lia)))
 rw [if_neg (by simpa using e2)]
 refine wpS_bind (wpS_get ?_)
 refine wpS_bind (wpS_mono (wpS_forRange
  (I:=fun x c st'=>Sim st st'/\∃ out na nb mg,c = (none,na,nb,out,mg)/\JH blt a b out na nb/\0 < na/\1 < nb/\na < a.size/\nb<=b.size/\x + na + nb<=a.size + b.size)
  (Q:=fun c st'=>Sim st st'/\∃ r,c.1 = some r/\r.toList = mrg blt a.toList b.toList) ?step ?fin ?init) ?post)
 case init=>exact ⟨sim0,_,_,_,_,rfl,J0,by lia,by lia,by lia,by lia,by lia⟩
 case fin=>
  rintro c st' ⟨_,out,na,nb,mg,rfl,_,h1,h2,h3,h4,h5⟩
  lia
 case post=>
  rintro ⟨c1,c2⟩ st' ⟨sim,r,e,hr⟩
  dsimp only at e
  subst e
  exact wpS_pure (h r st' sim hr)
 case step=>
  rintro x₀ c st1 _ hx0 ⟨sim,out,na,nb,mg,rfl,j1,h1,h2,h3,h4,h5⟩
  dsimp only
  refine wpS_bind (wpS_mono (wpS_forRange
   (I:=fun x c st'=>Sim st st'/\∃ out na nb ac bc,c = (none,na,nb,out,ac,bc)/\JH blt a b out na nb/\0 < na/\1 < nb/\na < a.size/\nb<=b.size/\x₀ + na + nb<=a.size + b.size/\x + na + nb<=a.size + b.size)
   (Q:=fun c st'=>Sim st st'/\((∃ r,c.1 = some r/\r.toList = mrg blt a.toList b.toList)\/∃ out na nb ac bc,c = (none,na,nb,out,ac,bc)/\JH blt a b out na nb/\0 < na/\1 < nb/\na < a.size/\nb<=b.size/\x₀ + 1 + na + nb<=a.size + b.size)) ?step2 ?fin2 ?init2) ?post2)
  case init2=>exact ⟨sim,_,_,_,_,_,rfl,j1,h1,h2,h3,h4,h5,by lia⟩
  case fin2=>
   rintro c st' ⟨_,out,na,nb,ac,bc,rfl,_,h1,h2,h3,h4,_,h5⟩
   lia
  case step2=>
   rintro x c st2 _ hx ⟨sim,out,na,nb,ac,bc,rfl,j2,h1,h2,h3,h4,h5,h6⟩
   dsimp only
   refine wpS_bind (wpS_elem (by lia) (wpS_bind (wpS_elem (by lia) (wpS_bind (hL _ _ _ _ (hUb _ (by lia)) (hUa _ (by lia)) (sim.1.trans hk) ?_)))))
   dsimp only
   cases q : blt (gt b (nb - 1)) (gt a (na - 1)) with
   | true=>
    simp only [if_true]
    refine wpS_bind (wpS_elem (by lia) ?_)
    have j3:=JH.pa j2 (by lia) (by lia) h4 (fun i hi=>ltB' O hUa hUb hsb h4 (by lia) hi q)
    by_cases e3 : na - 1 = 0
    ·rw [if_pos (by simpa using e3)]
     exact wpS_pure ⟨sim,.inl ⟨_,rfl,j3.doneA e3⟩⟩
    ·rw [if_neg (by simpa using e3)]
     split
     ·exact wpS_pure ⟨sim,.inr ⟨_,_,_,_,_,rfl,j3,by lia,by lia,by lia,by lia,by lia⟩⟩
     ·exact wpS_pure ⟨sim,_,_,_,_,_,rfl,j3,by lia,by lia,by lia,by lia,by lia,by lia⟩
   | false=>
    simp only [Bool.false_eq_true,if_false]
    refine wpS_bind (wpS_elem (by lia) ?_)
    have j3:=JH.pb j2 (by lia) (by lia) h4 (fun i hi=>leA O hUa hUb hsa (by lia) (by lia) hi q)
    by_cases e3 : nb - 1 = 1
    ·rw [if_pos (by simpa using e3)]
     exact wpS_pure ⟨sim,.inl ⟨_,rfl,j3.first e3 ha hb hf (by lia)⟩⟩
    ·rw [if_neg (by simpa using e3)]
     split
     ·exact wpS_pure ⟨sim,.inr ⟨_,_,_,_,_,rfl,j3,by lia,by lia,by lia,by lia,by lia⟩⟩
     ·exact wpS_pure ⟨sim,_,_,_,_,_,rfl,j3,by lia,by lia,by lia,by lia,by lia,by lia⟩
  case post2=>
   rintro ⟨c1,c2⟩ st2 ⟨sim,⟨r,e,hr⟩ | ⟨out,na,nb,ac,bc,e,j2,h1,h2,h3,h4,h5⟩⟩
   ·dsimp only at e
    subst e
    exact wpS_pure ⟨sim,r,rfl,hr⟩
   ·cases e
    dsimp only
    refine wpS_bind (wpS_lift (wpAny_rule ⟨rfl,?_⟩))
    refine wpS_bind (wpS_mono (wpS_forRange
     (I:=fun x c st'=>Sim st st'/\∃ out na nb mg ac bc,c = (none,na,nb,out,mg,ac,bc)/\JH blt a b out na nb/\0 < na/\1 < nb/\na < a.size/\nb<=b.size/\x₀ + 1 + na + nb<=a.size + b.size/\x + na + nb<=a.size + b.size)
     (Q:=fun c st'=>Sim st st'/\((∃ r,c.1 = some r/\r.toList = mrg blt a.toList b.toList)\/∃ out na nb mg ac bc,c = (none,na,nb,out,mg,ac,bc)/\JH blt a b out na nb/\0 < na/\1 < nb/\na < a.size/\nb<=b.size/\x₀ + 1 + na + nb<=a.size + b.size)) ?step3 ?fin3 ?init3) ?post3)
    case init3=>exact ⟨sim,_,_,_,_,_,_,rfl,j2,h1,h2,h3,h4,h5,by lia⟩
    case fin3=>
     rintro c st' ⟨_,out,na,nb,mg,ac,bc,rfl,_,h1,h2,h3,h4,_,h5⟩
     lia
    case post3=>
     rintro ⟨c1,c2⟩ st3 ⟨sim,⟨r,e,hr⟩ | ⟨out,na,nb,mg,ac,bc,e,j3,h1,h2,h3,h4,h5⟩⟩
     ·dsimp only at e
      subst e
      exact wpS_pure ⟨sim,r,rfl,hr⟩
     ·cases e
      dsimp only
      refine wpS_bind (wpS_setMin (wpS_pure ⟨⟨sim.1,sim.2,sim.3,sim.4⟩,_,_,_,_,rfl,j3,h1,h2,h3,h4,by lia⟩))
    case step3=>
     rintro x c st3 _ hx ⟨sim,out,na,nb,mg,ac,bc,rfl,j3,h1,h2,h3,h4,h5,h6⟩
     dsimp only
     by_cases hg : mg > 1
     ·rw [if_pos hg]
      refine wpS_bind (wpS_setMin ?_)
      have sim' : Sim st (SortSt.mk' (kindOf st3) (arrOf st3) (pendingOf st3) (mg - 1) (failedOf st3)):=⟨sim.1,sim.2,sim.3,sim.4⟩
      have hk' : kindOf (SortSt.mk' (kindOf st3) (arrOf st3) (pendingOf st3) (mg - 1) (failedOf st3)) = kd:=sim.1.trans hk
      refine wpS_bind (wpS_elem (by lia) ?_)
      refine wpS_bind (wpS_gal O hL hk' (by lia) hUa (hUb _ (by lia)) (fun i j i1 i2 i3=>hsa i j (by lia) i2 (by lia)) (by lia) fun at_ hk1 y1 y2=>?_)
      try dsimp only
      have y1' : ∀ i,i < at_->blt (gt b (nb - 1)) (gt a i) = false:=fun i hi=>by have:=y1 i hi;simpa [gp] using this
      have y2' : ∀ i,at_<=i->i < na->blt (gt b (nb - 1)) (gt a i) = true:=fun i i1 i2=>by have:=y2 i i1 i2;simpa [gp] using this
      by_cases kp : na - at_ > 0
      ·rw [if_pos kp]
       have J1:=JH.ga j3 (by lia) (by lia) at_ (by lia) (fun i i1 i2 z hz=>ltB' O hUa hUb hsb (by lia) (by lia) hz (y2' i i1 i2))
       by_cases e1 : at_ = 0
       ·rw [if_pos (by simpa using e1)]
        exact wpS_pure ⟨sim',.inl ⟨_,rfl,J1.doneA e1⟩⟩
       ·rw [if_neg (by simpa using e1)]
        have J2:=JH.pb J1 (by lia) (by lia) (by lia) (fun z hz=>y1' z hz)
        refine wpS_bind (wpS_elem (by lia) ?_)
        try dsimp only
        by_cases e2 : nb - 1 = 1
        ·rw [if_pos (by simpa using e2)]
         exact wpS_pure ⟨sim',.inl ⟨_,rfl,J2.first e2 ha hb hf (by lia)⟩⟩
        ·rw [if_neg (by simpa using e2)]
         refine wpS_bind (wpS_elem (by lia) ?_)
         refine wpS_bind (wpS_gal O hL hk' (by lia) hUb (hUa _ (by lia)) (fun i j i1 i2 i3=>hsb i j (by lia) i2 (by lia)) (by lia) fun k1 hk1 y1 y2=>?_)
         try dsimp only
         have y1' : ∀ i,i < k1->blt (gt b i) (gt a (at_ - 1)) = true:=fun i hi=>by have:=y1 i hi;simpa [gp] using this
         have y2' : ∀ i,k1<=i->i < nb - 1->blt (gt b i) (gt a (at_ - 1)) = false:=fun i i1 i2=>by have:=y2 i i1 i2;simpa [gp] using this
         by_cases k1p : nb - 1 - k1 > 0
         ·rw [if_pos k1p]
          have J3:=JH.gb J2 (by lia) (by lia) k1 (by lia) (fun i i1 i2 z hz=>leA O hUa hUb hsa (by lia) (by lia) hz (y2' i i1 i2))
          by_cases e3 : k1 = 1
          ·rw [if_pos (by simpa using e3)]
           exact wpS_pure ⟨sim',.inl ⟨_,rfl,J3.first e3 ha hb hf (by lia)⟩⟩
          ·rw [if_neg (by simpa using e3)]
           by_cases e3' : k1 = 0
           ·rw [if_pos (by simpa using e3')]
            exact wpS_pure ⟨sim',.inl ⟨_,rfl,J3.doneB e3'⟩⟩
           ·rw [if_neg (by simpa using e3')]
            have J4:=JH.pa J3 (by lia) (by lia) (by lia) (fun z hz=>y1' z hz)
            refine wpS_bind (wpS_elem (by lia) ?_)
            try dsimp only
            by_cases e4 : at_ - 1 = 0
            ·rw [if_pos (by simpa using e4)]
             exact wpS_pure ⟨sim',.inl ⟨_,rfl,J4.doneA e4⟩⟩
            ·rw [if_neg (by simpa using e4)]
             split
             ·exact wpS_pure ⟨sim',.inr ⟨_,_,_,_,_,_,rfl,J4,by lia,by lia,by lia,by lia,by lia⟩⟩
             ·exact wpS_pure ⟨sim',_,_,_,_,_,_,rfl,J4,by lia,by lia,by lia,by lia,by lia,by lia⟩
         ·rw [if_neg k1p]
          obtain rfl : k1 = nb - 1:=by lia
          have J3:=J2
          have J4:=JH.pa J3 (by lia) (by lia) (by lia) (fun z hz=>y1' z hz)
          refine wpS_bind (wpS_elem (by lia) ?_)
          try dsimp only
          by_cases e4 : at_ - 1 = 0
          ·rw [if_pos (by simpa using e4)]
           exact wpS_pure ⟨sim',.inl ⟨_,rfl,J4.doneA e4⟩⟩
          ·rw [if_neg (by simpa using e4)]
           split
           ·exact wpS_pure ⟨sim',.inr ⟨_,_,_,_,_,_,rfl,J4,by lia,by lia,by lia,by lia,by lia⟩⟩
           ·exact wpS_pure ⟨sim',_,_,_,_,_,_,rfl,J4,by lia,by lia,by lia,by lia,by lia,by lia⟩
      ·rw [if_neg kp]
       obtain rfl : at_ = na:=by lia
       have J1:=j3
       have J2:=JH.pb J1 (by lia) (by lia) (by lia) (fun z hz=>y1' z hz)
       refine wpS_bind (wpS_elem (by lia) ?_)
       try dsimp only
       by_cases e2 : nb - 1 = 1
       ·rw [if_pos (by simpa using e2)]
        exact wpS_pure ⟨sim',.inl ⟨_,rfl,J2.first e2 ha hb hf (by lia)⟩⟩
       ·rw [if_neg (by simpa using e2)]
        refine wpS_bind (wpS_elem (by lia) ?_)
        refine wpS_bind (wpS_gal O hL hk' (by lia) hUb (hUa _ (by lia)) (fun i j i1 i2 i3=>hsb i j (by lia) i2 (by lia)) (by lia) fun k1 hk1 y1 y2=>?_)
        try dsimp only
        have y1' : ∀ i,i < k1->blt (gt b i) (gt a (at_ - 1)) = true:=fun i hi=>by have:=y1 i hi;simpa [gp] using this
        have y2' : ∀ i,k1<=i->i < nb - 1->blt (gt b i) (gt a (at_ - 1)) = false:=fun i i1 i2=>by have:=y2 i i1 i2;simpa [gp] using this
        by_cases k1p : nb - 1 - k1 > 0
        ·rw [if_pos k1p]
         have J3:=JH.gb J2 (by lia) (by lia) k1 (by lia) (fun i i1 i2 z hz=>leA O hUa hUb hsa (by lia) (by lia) hz (y2' i i1 i2))
         by_cases e3 : k1 = 1
         ·rw [if_pos (by simpa using e3)]
          exact wpS_pure ⟨sim',.inl ⟨_,rfl,J3.first e3 ha hb hf (by lia)⟩⟩
         ·rw [if_neg (by simpa using e3)]
          by_cases e3' : k1 = 0
          ·rw [if_pos (by simpa using e3')]
           exact wpS_pure ⟨sim',.inl ⟨_,rfl,J3.doneB e3'⟩⟩
          ·rw [if_neg (by simpa using e3')]
           have J4:=JH.pa J3 (by lia) (by lia) (by lia) (fun z hz=>y1' z hz)
           refine wpS_bind (wpS_elem (by lia) ?_)
           try dsimp only
           by_cases e4 : at_ - 1 = 0
           ·rw [if_pos (by simpa using e4)]
            exact wpS_pure ⟨sim',.inl ⟨_,rfl,J4.doneA e4⟩⟩
           ·rw [if_neg (by simpa using e4)]
            split
            ·exact wpS_pure ⟨sim',.inr ⟨_,_,_,_,_,_,rfl,J4,by lia,by lia,by lia,by lia,by lia⟩⟩
            ·exact wpS_pure ⟨sim',_,_,_,_,_,_,rfl,J4,by lia,by lia,by lia,by lia,by lia,by lia⟩
        ·rw [if_neg k1p]
         obtain rfl : k1 = nb - 1:=by lia
         have J3:=J2
         have J4:=JH.pa J3 (by lia) (by lia) (by lia) (fun z hz=>y1' z hz)
         refine wpS_bind (wpS_elem (by lia) ?_)
         try dsimp only
         by_cases e4 : at_ - 1 = 0
         ·rw [if_pos (by simpa using e4)]
          exact wpS_pure ⟨sim',.inl ⟨_,rfl,J4.doneA e4⟩⟩
         ·rw [if_neg (by simpa using e4)]
          split
          ·exact wpS_pure ⟨sim',.inr ⟨_,_,_,_,_,_,rfl,J4,by lia,by lia,by lia,by lia,by lia⟩⟩
          ·exact wpS_pure ⟨sim',_,_,_,_,_,_,rfl,J4,by lia,by lia,by lia,by lia,by lia,by lia⟩
     ·rw [if_neg hg]
      refine wpS_bind (wpS_setMin ?_)
      have sim' : Sim st (SortSt.mk' (kindOf st3) (arrOf st3) (pendingOf st3) mg (failedOf st3)):=⟨sim.1,sim.2,sim.3,sim.4⟩
      have hk' : kindOf (SortSt.mk' (kindOf st3) (arrOf st3) (pendingOf st3) mg (failedOf st3)) = kd:=sim.1.trans hk
      refine wpS_bind (wpS_elem (by lia) ?_)
      refine wpS_bind (wpS_gal O hL hk' (by lia) hUa (hUb _ (by lia)) (fun i j i1 i2 i3=>hsa i j (by lia) i2 (by lia)) (by lia) fun at_ hk1 y1 y2=>?_)
      try dsimp only
      have y1' : ∀ i,i < at_->blt (gt b (nb - 1)) (gt a i) = false:=fun i hi=>by have:=y1 i hi;simpa [gp] using this
      have y2' : ∀ i,at_<=i->i < na->blt (gt b (nb - 1)) (gt a i) = true:=fun i i1 i2=>by have:=y2 i i1 i2;simpa [gp] using this
      by_cases kp : na - at_ > 0
      ·rw [if_pos kp]
       have J1:=JH.ga j3 (by lia) (by lia) at_ (by lia) (fun i i1 i2 z hz=>ltB' O hUa hUb hsb (by lia) (by lia) hz (y2' i i1 i2))
       by_cases e1 : at_ = 0
       ·rw [if_pos (by simpa using e1)]
        exact wpS_pure ⟨sim',.inl ⟨_,rfl,J1.doneA e1⟩⟩
       ·rw [if_neg (by simpa using e1)]
        have J2:=JH.pb J1 (by lia) (by lia) (by lia) (fun z hz=>y1' z hz)
        refine wpS_bind (wpS_elem (by lia) ?_)
        try dsimp only
        by_cases e2 : nb - 1 = 1
        ·rw [if_pos (by simpa using e2)]
         exact wpS_pure ⟨sim',.inl ⟨_,rfl,J2.first e2 ha hb hf (by lia)⟩⟩
        ·rw [if_neg (by simpa using e2)]
         refine wpS_bind (wpS_elem (by lia) ?_)
         refine wpS_bind (wpS_gal O hL hk' (by lia) hUb (hUa _ (by lia)) (fun i j i1 i2 i3=>hsb i j (by lia) i2 (by lia)) (by lia) fun k1 hk1 y1 y2=>?_)
         try dsimp only
         have y1' : ∀ i,i < k1->blt (gt b i) (gt a (at_ - 1)) = true:=fun i hi=>by have:=y1 i hi;simpa [gp] using this
         have y2' : ∀ i,k1<=i->i < nb - 1->blt (gt b i) (gt a (at_ - 1)) = false:=fun i i1 i2=>by have:=y2 i i1 i2;simpa [gp] using this
         by_cases k1p : nb - 1 - k1 > 0
         ·rw [if_pos k1p]
          have J3:=JH.gb J2 (by lia) (by lia) k1 (by lia) (fun i i1 i2 z hz=>leA O hUa hUb hsa (by lia) (by lia) hz (y2' i i1 i2))
          by_cases e3 : k1 = 1
          ·rw [if_pos (by simpa using e3)]
           exact wpS_pure ⟨sim',.inl ⟨_,rfl,J3.first e3 ha hb hf (by lia)⟩⟩
          ·rw [if_neg (by simpa using e3)]
           by_cases e3' : k1 = 0
           ·rw [if_pos (by simpa using e3')]
            exact wpS_pure ⟨sim',.inl ⟨_,rfl,J3.doneB e3'⟩⟩
           ·rw [if_neg (by simpa using e3')]
            have J4:=JH.pa J3 (by lia) (by lia) (by lia) (fun z hz=>y1' z hz)
            refine wpS_bind (wpS_elem (by lia) ?_)
            try dsimp only
            by_cases e4 : at_ - 1 = 0
            ·rw [if_pos (by simpa using e4)]
             exact wpS_pure ⟨sim',.inl ⟨_,rfl,J4.doneA e4⟩⟩
            ·rw [if_neg (by simpa using e4)]
             split
             ·exact wpS_pure ⟨sim',.inr ⟨_,_,_,_,_,_,rfl,J4,by lia,by lia,by lia,by lia,by lia⟩⟩
             ·exact wpS_pure ⟨sim',_,_,_,_,_,_,rfl,J4,by lia,by lia,by lia,by lia,by lia,by lia⟩
         ·rw [if_neg k1p]
          obtain rfl : k1 = nb - 1:=by lia
          have J3:=J2
          have J4:=JH.pa J3 (by lia) (by lia) (by lia) (fun z hz=>y1' z hz)
          refine wpS_bind (wpS_elem (by lia) ?_)
          try dsimp only
          by_cases e4 : at_ - 1 = 0
          ·rw [if_pos (by simpa using e4)]
           exact wpS_pure ⟨sim',.inl ⟨_,rfl,J4.doneA e4⟩⟩
          ·rw [if_neg (by simpa using e4)]
           split
           ·exact wpS_pure ⟨sim',.inr ⟨_,_,_,_,_,_,rfl,J4,by lia,by lia,by lia,by lia,by lia⟩⟩
           ·exact wpS_pure ⟨sim',_,_,_,_,_,_,rfl,J4,by lia,by lia,by lia,by lia,by lia,by lia⟩
      ·rw [if_neg kp]
       obtain rfl : at_ = na:=by lia
       have J1:=j3
       have J2:=JH.pb J1 (by lia) (by lia) (by lia) (fun z hz=>y1' z hz)
       refine wpS_bind (wpS_elem (by lia) ?_)
       try dsimp only
       by_cases e2 : nb - 1 = 1
       ·rw [if_pos (by simpa using e2)]
        exact wpS_pure ⟨sim',.inl ⟨_,rfl,J2.first e2 ha hb hf (by lia)⟩⟩
       ·rw [if_neg (by simpa using e2)]
        refine wpS_bind (wpS_elem (by lia) ?_)
        refine wpS_bind (wpS_gal O hL hk' (by lia) hUb (hUa _ (by lia)) (fun i j i1 i2 i3=>hsb i j (by lia) i2 (by lia)) (by lia) fun k1 hk1 y1 y2=>?_)
        try dsimp only
        have y1' : ∀ i,i < k1->blt (gt b i) (gt a (at_ - 1)) = true:=fun i hi=>by have:=y1 i hi;simpa [gp] using this
        have y2' : ∀ i,k1<=i->i < nb - 1->blt (gt b i) (gt a (at_ - 1)) = false:=fun i i1 i2=>by have:=y2 i i1 i2;simpa [gp] using this
        by_cases k1p : nb - 1 - k1 > 0
        ·rw [if_pos k1p]
         have J3:=JH.gb J2 (by lia) (by lia) k1 (by lia) (fun i i1 i2 z hz=>leA O hUa hUb hsa (by lia) (by lia) hz (y2' i i1 i2))
         by_cases e3 : k1 = 1
         ·rw [if_pos (by simpa using e3)]
          exact wpS_pure ⟨sim',.inl ⟨_,rfl,J3.first e3 ha hb hf (by lia)⟩⟩
         ·rw [if_neg (by simpa using e3)]
          by_cases e3' : k1 = 0
          ·rw [if_pos (by simpa using e3')]
           exact wpS_pure ⟨sim',.inl ⟨_,rfl,J3.doneB e3'⟩⟩
          ·rw [if_neg (by simpa using e3')]
           have J4:=JH.pa J3 (by lia) (by lia) (by lia) (fun z hz=>y1' z hz)
           refine wpS_bind (wpS_elem (by lia) ?_)
           try dsimp only
           by_cases e4 : at_ - 1 = 0
           ·rw [if_pos (by simpa using e4)]
            exact wpS_pure ⟨sim',.inl ⟨_,rfl,J4.doneA e4⟩⟩
           ·rw [if_neg (by simpa using e4)]
            split
            ·exact wpS_pure ⟨sim',.inr ⟨_,_,_,_,_,_,rfl,J4,by lia,by lia,by lia,by lia,by lia⟩⟩
            ·exact wpS_pure ⟨sim',_,_,_,_,_,_,rfl,J4,by lia,by lia,by lia,by lia,by lia,by lia⟩
        ·rw [if_neg k1p]
         obtain rfl : k1 = nb - 1:=by lia
         have J3:=J2
         have J4:=JH.pa J3 (by lia) (by lia) (by lia) (fun z hz=>y1' z hz)
         refine wpS_bind (wpS_elem (by lia) ?_)
         try dsimp only
         by_cases e4 : at_ - 1 = 0
         ·rw [if_pos (by simpa using e4)]
          exact wpS_pure ⟨sim',.inl ⟨_,rfl,J4.doneA e4⟩⟩
         ·rw [if_neg (by simpa using e4)]
          split
          ·exact wpS_pure ⟨sim',.inr ⟨_,_,_,_,_,_,rfl,J4,by lia,by lia,by lia,by lia,by lia⟩⟩
          ·exact wpS_pure ⟨sim',_,_,_,_,_,_,rfl,J4,by lia,by lia,by lia,by lia,by lia,by lia⟩
end
end TS
end
section
set_option maxHeartbeats 1000000
namespace TS
open PySem PyProof.Rows
section
variable {blt : Keyed->Keyed->Bool} {U : Keyed->Prop}
noncomputable def SL (blt : Keyed->Keyed->Bool) (l : List Keyed) : Prop:=l.Pairwise fun u v=>blt v u = false
theorem mrg_perm (xs ys : List Keyed) : (mrg blt xs ys).Perm (xs ++ ys):=List.merge_perm_append _
theorem mem_mrg {xs ys : List Keyed} {z : Keyed} : z ∈ mrg blt xs ys ↔ z ∈ xs\/z ∈ ys:=by
 rw [(mrg_perm xs ys).mem_iff,List.mem_append]
theorem Ord.le_trans (O : Ord U blt) {x y z : Keyed} (hx : U x) (hy : U y) (hz : U z) (h1 : blt y x = false) (h2 : blt z y = false) : blt z x = false:=by
 cases e : blt z x with
 | false=>rfl
 | true=>
  rcases O.ntr _ y _ hz hy hx e with p | p
  ·rw [h2] at p;cases p
  ·rw [h1] at p;cases p
theorem Ord.asym (O : Ord U blt) {x y : Keyed} (hx : U x) (hy : U y) (h : blt x y = true) : blt y x = false:=by
 cases e : blt y x with
 | false=>rfl
 | true=>
  have:=O.tr _ _ _ hx hy hx h e
  rw [O.irr x hx] at this;cases this
theorem SL_mrg (O : Ord U blt) : ∀ (xs ys : List Keyed),(∀ z ∈ xs,U z)->(∀ z ∈ ys,U z)->SL blt xs->SL blt ys->SL blt (mrg blt xs ys)
 | [],ys,_,_,_,h=>by rw [nil_mrg];exact h
 | x :: xs,[],_,_,h,_=>by rw [mrg_nil];exact h
 | x :: xs,y :: ys,ux,uy,sx,sy=>by
  rw [mrg_cons]
  have ux0:=ux x (List.mem_cons_self ..)
  have uy0:=uy y (List.mem_cons_self ..)
  have sx':=List.pairwise_cons.mp sx
  have sy':=List.pairwise_cons.mp sy
  by_cases q : blt y x = true
  ·rw [if_pos q]
   refine List.pairwise_cons.mpr ⟨fun z hz=>?_,SL_mrg O (x :: xs) ys ux (fun z hz=>uy z (List.mem_cons_of_mem _ hz)) sx sy'.2⟩
   rcases mem_mrg.mp hz with hz | hz
   ·rcases List.mem_cons.mp hz with rfl | hz
    ·exact O.asym uy0 ux0 q
    ·exact O.le_trans uy0 ux0 (ux z (List.mem_cons_of_mem _ hz)) (O.asym uy0 ux0 q) (sx'.1 z hz)
   ·exact sy'.1 z hz
  ·rw [if_neg q]
   have q' : blt y x = false:=by simpa using q
   refine List.pairwise_cons.mpr ⟨fun z hz=>?_,SL_mrg O xs (y :: ys) (fun z hz=>ux z (List.mem_cons_of_mem _ hz)) uy sx'.2 sy⟩
   rcases mem_mrg.mp hz with hz | hz
   ·exact sx'.1 z hz
   ·rcases List.mem_cons.mp hz with rfl | hz
    ·exact q'
    ·exact O.le_trans ux0 uy0 (uy z (List.mem_cons_of_mem _ hz)) q' (sy'.1 z hz)
 termination_by xs ys=>xs.length + ys.length
noncomputable def str (a : Array Keyed) (lo n : Nat) : List Keyed:=(a.toList.drop lo).take n
theorem str_get {a : Array Keyed} {lo n i : Nat} (hi : i < n) (h : lo + n<=a.size) : (str a lo n)[i]? = some (gt a (lo + i)):=by
 unfold str
 rw [List.getElem?_take_of_lt hi,List.getElem?_drop,Array.getElem?_toList]
 exact gt_some (by lia)
theorem str_len {a : Array Keyed} {lo n : Nat} (h : lo + n<=a.size) : (str a lo n).length = n:=by
 unfold str
 rw [List.length_take,List.length_drop,Array.length_toList]
 lia
theorem Srt.sl {a : Array Keyed} {lo n : Nat} (h : Srt blt a lo (lo + n)) (hn : lo + n<=a.size) : SL blt (str a lo n):=by
 unfold SL
 rw [List.pairwise_iff_getElem]
 intro i j hi hj hij
 rw [str_len hn] at hi hj
 have e1:=str_get (a:=a) (lo:=lo) hi hn
 have e2:=str_get (a:=a) (lo:=lo) hj hn
 rw [List.getElem?_eq_getElem (by rw [str_len hn];exact hi)] at e1
 rw [List.getElem?_eq_getElem (by rw [str_len hn];exact hj)] at e2
 rw [Option.some.inj e1,Option.some.inj e2]
 exact h _ _ (by lia) (by lia) (by lia)
theorem SL.srt {a : Array Keyed} {lo n : Nat} (O : Ord U blt) (hU : AllU U a) (h : SL blt (str a lo n)) (hn : lo + n<=a.size) : Srt blt a lo (lo + n):=by
 intro i j h1 h2 h3
 by_cases e : i = j
 ·subst e
  exact O.irr _ (hU _ (by lia))
 ·unfold SL at h
  rw [List.pairwise_iff_getElem] at h
  have q:=h (i - lo) (j - lo) (by rw [str_len hn];lia) (by rw [str_len hn];lia) (by lia)
  have e1:=str_get (a:=a) (lo:=lo) (i:=i - lo) (n:=n) (by lia) hn
  have e2:=str_get (a:=a) (lo:=lo) (i:=j - lo) (n:=n) (by lia) hn
  rw [List.getElem?_eq_getElem (by rw [str_len hn];lia)] at e1 e2
  rw [Option.some.inj e1,Option.some.inj e2,show lo + (i - lo) = i by lia,show lo + (j - lo) = j by lia] at q
  exact q
theorem str_add (a : Array Keyed) (lo m n : Nat) : str a lo (m + n) = str a lo m ++ str a (lo + m) n:=by
 unfold str
 rw [List.take_add,List.drop_drop]
theorem mem_str {a : Array Keyed} {lo n : Nat} {z : Keyed} (h : z ∈ str a lo n) : ∃ i,lo<=i/\i < lo + n/\i < a.size/\z = gt a i:=by
 obtain ⟨i,hi,e⟩:=List.getElem_of_mem h
 unfold str at hi
 rw [List.length_take,List.length_drop,Array.length_toList] at hi
 refine ⟨lo + i,by lia,by lia,by lia,?_⟩
 have h2 : (str a lo n)[i]? = some z:=by rw [<- e];exact List.getElem?_eq_getElem _
 unfold str at h2
 rw [List.getElem?_take_of_lt (by lia),List.getElem?_drop,Array.getElem?_toList,gt_some (by lia)] at h2
 exact (Option.some.inj h2).symm
theorem ext_str (a : Array Keyed) (i j : Nat) : (a.extract i j).toList = str a i (j - i):=by
 unfold str
 rw [Array.toList_extract,List.extract_eq_take_drop]
noncomputable def put (a : Array Keyed) (off : Nat) (l : List Keyed) : Array Keyed:=l.zipIdx.foldl (fun a (p,j)=>a.setIfInBounds (off + j) p) a
theorem put_go (off : Nat) : ∀ (l : List Keyed) (k : Nat) (a : Array Keyed),off + k + l.length<=a.size->
  ((l.zipIdx k).foldl (fun a (p,j)=>a.setIfInBounds (off + j) p) a).toList = a.toList.take (off + k) ++ l ++ a.toList.drop (off + k + l.length)
 | [],k,a,_=>by simp
 | x :: l,k,a,h=>by
  rw [List.zipIdx_cons,List.foldl_cons]
  rw [List.length_cons] at h
  rw [put_go off l (k + 1) _ (by rw [Array.size_setIfInBounds];lia)]
  rw [Array.toList_setIfInBounds]
  have e1 : (a.toList.set (off + k) x).take (off + (k + 1)) = a.toList.take (off + k) ++ [x]:=by
   rw [show off + (k + 1) = (off + k) + 1 by lia,List.take_add_one,List.take_set_of_le (Nat.le_refl _),List.getElem?_set_self (by rw [Array.length_toList];lia)]
   rfl
  have e2 : (a.toList.set (off + k) x).drop (off + (k + 1) + l.length) = a.toList.drop (off + k + (x :: l).length):=by
   rw [List.drop_set_of_lt (by lia),List.length_cons]
   congr 1
   lia
  rw [e1,e2]
  simp
theorem put_list {a : Array Keyed} {off : Nat} {l : List Keyed} (h : off + l.length<=a.size) : (put a off l).toList = a.toList.take off ++ l ++ a.toList.drop (off + l.length):=by
 have:=put_go off l 0 a (by lia)
 rw [Nat.add_zero] at this
 exact this
theorem gt_list {a : Array Keyed} {i : Nat} : gt a i = a.toList.getD i dk:=by
 unfold gt
 by_cases h : i < a.size
 ·simp [Array.getD,h]
 ·simp [Array.getD,h]
structure Stp (lo hi : Nat) (st st' : SortSt) : Prop where
 kd : kindOf st' = kindOf st
 fl : failedOf st' = failedOf st
 pm : (arrOf st').Perm (arrOf st)
 out : ∀ j,j < lo\/hi<=j->gt (arrOf st') j = gt (arrOf st) j
theorem Stp.sz {lo hi : Nat} {st st' : SortSt} (h : Stp lo hi st st') : (arrOf st').size = (arrOf st).size:=h.pm.size_eq
theorem allU_perm {a b : Array Keyed} (hU : AllU U a) (p : b.Perm a) : AllU U b:=fun i hi=>by
 have : gt b i ∈ b.toList:=by
  rw [gt_list,List.getD_eq_getElem?_getD,List.getElem?_eq_getElem (by simpa using hi)]
  exact List.getElem_mem _
 obtain ⟨j,hj,e⟩:=mem_gt ((Array.perm_iff_toList_perm.mp p).mem_iff.mp this)
 rw [e]
 exact hU j hj
theorem Srt.mono {a : Array Keyed} {lo hi lo' hi' : Nat} (h : Srt blt a lo hi) (h1 : lo<=lo') (h2 : hi'<=hi) : Srt blt a lo' hi':=fun i j a1 a2 a3=>h i j (by lia) a2 (by lia)
theorem Srt.out {a b : Array Keyed} {lo hi : Nat} (h : Srt blt a lo hi) (e : ∀ j,lo<=j->j < hi->gt b j = gt a j) : Srt blt b lo hi:=fun i j a1 a2 a3=>by
 rw [e i (by lia) (by lia),e j (by lia) a3]
 exact h i j a1 a2 a3
theorem list_split (a : Array Keyed) (i m n : Nat) : a.toList = a.toList.take i ++ (str a i m ++ str a (i + m) n) ++ a.toList.drop (i + (m + n)):=by
 rw [<- str_add]
 unfold str
 rw [List.append_assoc,<- List.drop_drop,List.take_append_drop,List.take_append_drop]
theorem str_put {a : Array Keyed} {off : Nat} {l : List Keyed} (h : off + l.length<=a.size) : str (put a off l) off l.length = l:=by
 unfold str
 rw [put_list h,List.append_assoc,List.drop_left' (by rw [List.length_take,Array.length_toList];lia),List.take_left' rfl]
theorem gt_put {a : Array Keyed} {off : Nat} {l : List Keyed} (h : off + l.length<=a.size) {j : Nat} (hj : j < off\/off + l.length<=j) : gt (put a off l) j = gt a j:=by
 rw [gt_list,gt_list,put_list h,List.getD_eq_getElem?_getD,List.getD_eq_getElem?_getD]
 congr 1
 have hl : (a.toList.take off).length = off:=by rw [List.length_take,Array.length_toList];lia
 rcases hj with hj | hj
 ·rw [List.append_assoc,List.getElem?_append_left (by lia),List.getElem?_take_of_lt hj]
 ·rw [List.getElem?_append_right (by rw [List.length_append];lia),List.length_append,hl,List.getElem?_drop]
  congr 1
  lia
end
section
variable {prog : Program} {w : World} {A : Around} {E : Value->Shared->Prop} {s : Shared} {kd : SortKind} {U : Keyed->Prop} {blt : Keyed->Keyed->Bool}
theorem wpS_set {σ : Type} {M : Model} {st st' : σ} {Q : PUnit->σ->Prop} (h : Q ⟨⟩ st') : wpS M A E s (set st' : StateT σ Sem PUnit) Q st:=by
 unfold wpS
 rw [StateT.run_set]
 exact wpAny_pure ⟨rfl,h⟩
theorem wpS_mergeAt (O : Ord U blt) (hL : LtOk prog w A E s kd U blt) {i : Nat} {st : SortSt} {Q : Bool->SortSt->Prop} (hk : kindOf st = kd) (hU : AllU U (arrOf st)) (hF : failedOf st = none) {sa na pw sb nb pw2 : Nat}
  (p1 : (pendingOf st)[i]? = some (sa,na,pw)) (p2 : (pendingOf st)[i + 1]? = some (sb,nb,pw2)) (hsb : sb = sa + na) (hsz : sb + nb<=(arrOf st).size) (hna : 0 < na) (hnb : 0 < nb)
  (s1 : Srt blt (arrOf st) sa (sa + na)) (s2 : Srt blt (arrOf st) sb (sb + nb))
  (h : ∀ st',Stp sa (sb + nb) st st'->Srt blt (arrOf st') sa (sb + nb)->pendingOf st' = ((pendingOf st).setIfInBounds i (sa,na + nb,pw)).eraseIdxIfInBounds (i + 1)->Q true st') :
  wpS (model prog w) A E s (mergeAt' i) Q st:=by
 subst hsb
 with_unfolding_all refine wpS_bind (wpS_get ?_)
 dsimp only
 rw [p1,p2]
 dsimp only
 refine wpS_bind (wpS_set ?_)
 have hk' : kindOf (setPending st (((pendingOf st).setIfInBounds i (sa,na + nb,pw)).eraseIdxIfInBounds (i + 1))) = kd:=hk
 refine wpS_bind (wpS_elem (arr:=arrOf st) (by lia) ?_)
 refine wpS_bind (wpS_gal (arr:=arrOf st) O hL hk' (by lia) hU (hU _ (by lia)) (s1.mono (Nat.le_refl _) (by lia)) (by lia) fun k hk1 y1 y2=>?_)
 dsimp only
 have y1' : ∀ i,i < k->blt (gt (arrOf st) (sa + na)) (gt (arrOf st) (sa + i)) = false:=fun i hi=>by have:=y1 i hi;simpa [gp] using this
 have y2' : ∀ i,k<=i->i < na->blt (gt (arrOf st) (sa + na)) (gt (arrOf st) (sa + i)) = true:=fun i i1 i2=>by have:=y2 i i1 i2;simpa [gp] using this
 -- the whole stretch is sorted as soon as the first part's last is no more than the second's first
 have whole : (∀ i j,sa<=i->i < sa + na->sa + na<=j->j < sa + na + nb->blt (gt (arrOf st) j) (gt (arrOf st) i) = false)->Srt blt (arrOf st) sa (sa + na + nb):=fun q i j a1 a2 a3=>by
  by_cases c1 : j < sa + na
  ·exact s1 i j a1 a2 c1
  ·by_cases c2 : sa + na<=i
   ·exact s2 i j c2 a2 a3
   ·exact q i j a1 (by lia) (by lia) a3
 have stp0 : Stp sa (sa + na + nb) st (setPending st (((pendingOf st).setIfInBounds i (sa,na + nb,pw)).eraseIdxIfInBounds (i + 1))):=⟨rfl,rfl,Array.Perm.refl _,fun _ _=>rfl⟩
 by_cases e1 : na - k = 0
 ·rw [if_pos (by simpa using e1)]
  refine wpS_pure (h _ stp0 (whole fun i j i1 i2 j1 j2=>?_) rfl)
  have q:=y1' (i - sa) (by lia)
  rw [show sa + (i - sa) = i by lia] at q
  exact O.le_trans (hU _ (by lia)) (hU _ (by lia)) (hU _ (by lia)) q (s2 _ _ (Nat.le_refl _) j1 j2)
 rw [if_neg (by simpa using e1)]
 refine wpS_bind (wpS_elem (arr:=arrOf st) (by lia) ?_)
 refine wpS_bind (wpS_gal (arr:=arrOf st) O hL hk' (by lia) hU (hU _ (by lia)) (s2.mono (Nat.le_refl _) (by lia)) (by lia) fun nb' hnb1 z1 z2=>?_)
 dsimp only
 have ez : sa + k + (na - k) - 1 = sa + na - 1:=by lia
 have z1' : ∀ i,i < nb'->blt (gt (arrOf st) (sa + na + i)) (gt (arrOf st) (sa + na - 1)) = true:=fun i hi=>by have:=z1 i hi;rw [ez] at this;simpa [gp] using this
 have z2' : ∀ i,nb'<=i->i < nb->blt (gt (arrOf st) (sa + na + i)) (gt (arrOf st) (sa + na - 1)) = false:=fun i i1 i2=>by have:=z2 i i1 i2;rw [ez] at this;simpa [gp] using this
 by_cases e2 : nb' = 0
 ·rw [if_pos (by simpa using e2)]
  refine wpS_pure (h _ stp0 (whole fun i j i1 i2 j1 j2=>?_) rfl)
  have q:=z2' (j - (sa + na)) (by lia) (by lia)
  rw [show sa + na + (j - (sa + na)) = j by lia] at q
  exact O.le_trans (hU _ (by lia)) (hU (sa + na - 1) (by lia)) (hU _ (by lia)) (s1 i (sa + na - 1) i1 (by lia) (by lia)) q
 rw [if_neg (by simpa using e2)]
 have ex : ((arrOf st).extract (sa + k) (sa + na)).toList = str (arrOf st) (sa + k) (na - k):=by rw [ext_str];congr 1;lia
 have ey : ((arrOf st).extract (sa + na) (sa + na + nb')).toList = str (arrOf st) (sa + na) nb':=by rw [ext_str];congr 1;lia
 have zx : ((arrOf st).extract (sa + k) (sa + na)).size = na - k:=by rw [Array.size_extract];lia
 have zy : ((arrOf st).extract (sa + na) (sa + na + nb')).size = nb':=by rw [Array.size_extract];lia
 have gx : ∀ i,i < na - k->gt ((arrOf st).extract (sa + k) (sa + na)) i = gt (arrOf st) (sa + k + i):=fun i hi=>by
  have e:=str_get (a:=arrOf st) (lo:=sa + k) (i:=i) (n:=na - k) hi (by lia)
  rw [<- ex,Array.getElem?_toList,gt_some (by lia)] at e
  exact Option.some.inj e
 have gy : ∀ i,i < nb'->gt ((arrOf st).extract (sa + na) (sa + na + nb')) i = gt (arrOf st) (sa + na + i):=fun i hi=>by
  have e:=str_get (a:=arrOf st) (lo:=sa + na) (i:=i) (n:=nb') hi (by lia)
  rw [<- ey,Array.getElem?_toList,gt_some (by lia)] at e
  exact Option.some.inj e
 have fin : ∀ (r : Array Keyed) (st2 : SortSt),Sim (setPending st (((pendingOf st).setIfInBounds i (sa,na + nb,pw)).eraseIdxIfInBounds (i + 1))) st2->
   r.toList = mrg blt ((arrOf st).extract (sa + k) (sa + na)).toList ((arrOf st).extract (sa + na) (sa + na + nb')).toList->
   wpS (model prog w) A E s (do
    modify fun s=>setArr s (r.toList.zipIdx.foldl (fun a (p,j)=>a.setIfInBounds (sa + k + j) p) (arrOf s))
    return (failedOf (<- get)).isNone) Q st2:=by
  intro r st2 sim hr
  rw [ex,ey] at hr
  have hlen : r.toList.length = (na - k) + nb':=by
   rw [hr,(mrg_perm _ _).length_eq,List.length_append,str_len (by lia),str_len (by lia)]
  have hfit : sa + k + r.toList.length<=(arrOf st).size:=by lia
  have ear : arrOf st2 = arrOf st:=sim.ar
  refine wpS_bind (wpS_modify (wpS_bind (wpS_get (wpS_pure ?_))))
  show Q (failedOf st2).isNone (setArr st2 (put (arrOf st2) (sa + k) r.toList))
  rw [sim.fl,show failedOf (setPending st _) = none from hF,ear]
  have hp : (put (arrOf st) (sa + k) r.toList).Perm (arrOf st):=by
   rw [Array.perm_iff_toList_perm,put_list hfit,hlen]
   have sp:=list_split (arrOf st) (sa + k) (na - k) nb'
   rw [show sa + k + (na - k) = sa + na by lia] at sp
   conv=>rhs;rw [sp]
   rw [hr]
   exact (((mrg_perm _ _).append_left _).append_right _)
  have hU':=allU_perm hU hp
  refine h _ ⟨sim.kd,sim.fl,hp,fun j hj=>?_⟩ ?_ ?_
  ·show gt (put (arrOf st) (sa + k) r.toList) j = gt (arrOf st) j
   exact gt_put hfit (by lia)
  ·show Srt blt (put (arrOf st) (sa + k) r.toList) sa (sa + na + nb)
   have hsz' : (put (arrOf st) (sa + k) r.toList).size = (arrOf st).size:=hp.size_eq
   have e0 : str (put (arrOf st) (sa + k) r.toList) (sa + k) ((na - k) + nb') = mrg blt (str (arrOf st) (sa + k) (na - k)) (str (arrOf st) (sa + na) nb'):=by
    rw [<- hlen,str_put hfit,hr]
   have ux : ∀ z ∈ str (arrOf st) (sa + k) (na - k),U z:=fun z hz=>by obtain ⟨i,_,_,i3,rfl⟩:=mem_str hz;exact hU i i3
   have uy : ∀ z ∈ str (arrOf st) (sa + na) nb',U z:=fun z hz=>by obtain ⟨i,_,_,i3,rfl⟩:=mem_str hz;exact hU i i3
   have sm : SL blt (mrg blt (str (arrOf st) (sa + k) (na - k)) (str (arrOf st) (sa + na) nb')):=
    SL_mrg O _ _ ux uy (Srt.sl (s1.mono (by lia) (by lia)) (by lia)) (Srt.sl (s2.mono (Nat.le_refl _) (by lia)) (by lia))
   have mid : Srt blt (put (arrOf st) (sa + k) r.toList) (sa + k) (sa + k + ((na - k) + nb')):=SL.srt O hU' (by rw [e0];exact sm) (by lia)
   have inmid : ∀ j,sa + k<=j->j < sa + na + nb'->∃ q,gt (put (arrOf st) (sa + k) r.toList) j = gt (arrOf st) q/\((sa + k<=q/\q < sa + na)\/(sa + na<=q/\q < sa + na + nb')):=by
    intro j j1 j2
    have e:=str_get (a:=put (arrOf st) (sa + k) r.toList) (lo:=sa + k) (i:=j - (sa + k)) (n:=(na - k) + nb') (by lia) (by lia)
    rw [e0,show sa + k + (j - (sa + k)) = j by lia] at e
    have hm:=List.mem_of_getElem? e
    rcases mem_mrg.mp hm with hm | hm
    ·obtain ⟨q,q1,q2,q3,q4⟩:=mem_str hm
     exact ⟨q,q4,.inl ⟨q1,by lia⟩⟩
    ·obtain ⟨q,q1,q2,q3,q4⟩:=mem_str hm
     exact ⟨q,q4,.inr ⟨q1,q2⟩⟩
   intro i j a1 a2 a3
   -- three zones
   by_cases ci : i < sa + k
   ·have ei : gt (put (arrOf st) (sa + k) r.toList) i = gt (arrOf st) i:=gt_put hfit (by lia)
    by_cases cj : j < sa + k
    ·have ej : gt (put (arrOf st) (sa + k) r.toList) j = gt (arrOf st) j:=gt_put hfit (by lia)
     rw [ei,ej];exact s1 i j a1 a2 (by lia)
    ·have yi:=y1' (i - sa) (by lia)
     rw [show sa + (i - sa) = i by lia] at yi
     have leB : ∀ q,sa + na<=q->q < sa + na + nb->blt (gt (arrOf st) q) (gt (arrOf st) i) = false:=fun q q1 q2=>
      O.le_trans (hU _ (by lia)) (hU _ (by lia)) (hU _ (by lia)) yi (s2 _ _ (Nat.le_refl _) q1 q2)
     by_cases cj2 : j < sa + na + nb'
     ·obtain ⟨q,eq,hq⟩:=inmid j (by lia) cj2
      rw [ei,eq]
      rcases hq with ⟨q1,q2⟩ | ⟨q1,q2⟩
      ·exact s1 i q a1 (by lia) q2
      ·exact leB q q1 (by lia)
     ·have ej : gt (put (arrOf st) (sa + k) r.toList) j = gt (arrOf st) j:=gt_put hfit (by lia)
      rw [ei,ej];exact leB j (by lia) a3
   ·by_cases ci2 : i < sa + na + nb'
    ·by_cases cj2 : j < sa + na + nb'
     ·exact mid i j (by lia) a2 (by lia)
     ·have ej : gt (put (arrOf st) (sa + k) r.toList) j = gt (arrOf st) j:=gt_put hfit (by lia)
      obtain ⟨q,eq,hq⟩:=inmid i (by lia) ci2
      rw [eq,ej]
      rcases hq with ⟨q1,q2⟩ | ⟨q1,q2⟩
      ·have zj:=z2' (j - (sa + na)) (by lia) (by lia)
       rw [show sa + na + (j - (sa + na)) = j by lia] at zj
       exact O.le_trans (hU _ (by lia)) (hU (sa + na - 1) (by lia)) (hU _ (by lia)) (s1 q (sa + na - 1) (by lia) (by lia) (by lia)) zj
      ·exact s2 q j q1 (by lia) a3
    ·have ei : gt (put (arrOf st) (sa + k) r.toList) i = gt (arrOf st) i:=gt_put hfit (by lia)
     have ej : gt (put (arrOf st) (sa + k) r.toList) j = gt (arrOf st) j:=gt_put hfit (by lia)
     rw [ei,ej];exact s2 i j (by lia) a2 a3
  ·show pendingOf st2 = _
   exact sim.pd
 have hUx : AllU U ((arrOf st).extract (sa + k) (sa + na)):=fun i hi=>by rw [zx] at hi;rw [gx i hi];exact hU _ (by lia)
 have hUy : AllU U ((arrOf st).extract (sa + na) (sa + na + nb')):=fun i hi=>by rw [zy] at hi;rw [gy i hi];exact hU _ (by lia)
 have hsx : Srt blt ((arrOf st).extract (sa + k) (sa + na)) 0 ((arrOf st).extract (sa + k) (sa + na)).size:=fun i j a1 a2 a3=>by
  rw [zx] at a3
  rw [gx i (by lia),gx j a3];exact s1 _ _ (by lia) (by lia) (by lia)
 have hsy : Srt blt ((arrOf st).extract (sa + na) (sa + na + nb')) 0 ((arrOf st).extract (sa + na) (sa + na + nb')).size:=fun i j a1 a2 a3=>by
  rw [zy] at a3
  rw [gy i (by lia),gy j a3];exact s2 _ _ (by lia) (by lia) (by lia)
 have hfst : blt (gt ((arrOf st).extract (sa + na) (sa + na + nb')) 0) (gt ((arrOf st).extract (sa + k) (sa + na)) 0) = true:=by
  rw [gx 0 (by lia),gy 0 (by lia)]
  exact y2' k (Nat.le_refl _) (by lia)
 have hlst : ∀ i,i < ((arrOf st).extract (sa + na) (sa + na + nb')).size->blt (gt ((arrOf st).extract (sa + na) (sa + na + nb')) i) (gt ((arrOf st).extract (sa + k) (sa + na)) (((arrOf st).extract (sa + k) (sa + na)).size - 1)) = true:=fun i hi=>by
  rw [zy] at hi
  rw [zx,gx (na - k - 1) (by lia),gy i hi,show sa + k + (na - k - 1) = sa + na - 1 by lia]
  exact z1' i hi
 by_cases ce : na - k<=nb'
 ·rw [if_pos ce]
  exact wpS_bind (wpS_mergeLo (a:=(arrOf st).extract (sa + k) (sa + na)) (b:=(arrOf st).extract (sa + na) (sa + na + nb')) O hL hk' hUx hUy hsx hsy (by lia) (by lia) hfst hlst fin)
 ·rw [if_neg ce]
  exact wpS_bind (wpS_mergeHi (a:=(arrOf st).extract (sa + k) (sa + na)) (b:=(arrOf st).extract (sa + na) (sa + na + nb')) O hL hk' hUx hUy hsx hsy (by lia) (by lia) hfst hlst fin)
end
end TS
end
section
set_option maxHeartbeats 1000000
namespace TS
open PySem PyProof.Rows
section
variable {blt : Keyed->Keyed->Bool} {U : Keyed->Prop}
noncomputable def Eqv (blt : Keyed->Keyed->Bool) (x y : Keyed) : Prop:=blt x y = false/\blt y x = false
theorem Eqv.rfl' (O : Ord U blt) {x : Keyed} (h : U x) : Eqv blt x x:=⟨O.irr x h,O.irr x h⟩
theorem Eqv.symm {x y : Keyed} (h : Eqv blt x y) : Eqv blt y x:=⟨h.2,h.1⟩
theorem Eqv.trans (O : Ord U blt) {x y z : Keyed} (hx : U x) (hy : U y) (hz : U z) (h : Eqv blt x y) (g : Eqv blt y z) : Eqv blt x z:=⟨O.le_trans hz hy hx g.1 h.1,O.le_trans hx hy hz h.2 g.2⟩
noncomputable def NonInc (blt : Keyed->Keyed->Bool) (a : Array Keyed) (lo n : Nat) : Prop:=∀ i j,lo<=i->i<=j->j < lo + n->blt (gt a i) (gt a j) = false
theorem gt_q (a : Array Keyed) (i : Nat) : gt a i = (a[i]?).getD dk:=by
 unfold gt
 by_cases h : i < a.size
 ·simp [Array.getD,h]
 ·simp [Array.getD,h]
theorem gt_mirror {a : Array Keyed} {i j : Nat} (hj : j<=a.size) (k : Nat) : gt (mirror a i j ((j - i) / 2)) k = if i<=k/\k < j then gt a (i + j - 1 - k) else gt a k:=by
 rw [gt_q,getElem?_mirror_all hj]
 split <;> rw [gt_q]
theorem Stp.mir {lo hi : Nat} {st st' : SortSt} (h : Stp lo hi st st') {i j : Nat} (hi' : lo<=i) (hj : j<=hi) (hs : j<=(arrOf st').size) : Stp lo hi st (setArr st' (mirror (arrOf st') i j ((j - i) / 2))):=
 ⟨h.kd,h.fl,(mirror_perm _ _ _ _).trans h.pm,fun k hk=>by
  show gt (mirror (arrOf st') i j ((j - i) / 2)) k = _
  rw [gt_mirror hs,if_neg (by lia)]
  exact h.out k hk⟩
theorem srt_snoc (O : Ord U blt) {a : Array Keyed} {lo x : Nat} (hU : AllU U a) (hx : lo + x < a.size) (h0 : 1<=x) (h : Srt blt a lo (lo + x)) (e : blt (gt a (lo + x)) (gt a (lo + x - 1)) = false) : Srt blt a lo (lo + (x + 1)):=fun i j a1 a2 a3=>by
 by_cases c : j < lo + x
 ·exact h i j a1 a2 c
 ·obtain rfl : j = lo + x:=by lia
  by_cases d : i = lo + x
  ·rw [d];exact O.irr _ (hU _ hx)
  ·exact O.le_trans (hU _ (by lia)) (hU _ (by lia)) (hU _ hx) (h i (lo + x - 1) a1 (by lia) (by lia)) e
theorem ni_snoc (O : Ord U blt) {a : Array Keyed} {lo x : Nat} (hU : AllU U a) (hx : lo + x < a.size) (h0 : 1<=x) (h : NonInc blt a lo x) (e : blt (gt a (lo + x - 1)) (gt a (lo + x)) = false) : NonInc blt a lo (x + 1):=fun i j a1 a2 a3=>by
 by_cases c : j < lo + x
 ·exact h i j a1 a2 c
 ·obtain rfl : j = lo + x:=by lia
  by_cases d : i = lo + x
  ·rw [d];exact O.irr _ (hU _ hx)
  ·exact O.le_trans (hU _ hx) (hU _ (by lia)) (hU _ (by lia)) e (h i (lo + x - 1) a1 (by lia) (by lia))
theorem srt_mir {a : Array Keyed} {lo m : Nat} (hs : lo + m<=a.size) (h : NonInc blt a lo m) : Srt blt (mirror a lo (lo + m) ((lo + m - lo) / 2)) lo (lo + m):=fun i j a1 a2 a3=>by
 rw [gt_mirror hs,gt_mirror hs,if_pos (by lia),if_pos (by lia)]
 exact h _ _ (by lia) (by lia) (by lia)
theorem eqv_mir (O : Ord U blt) {a : Array Keyed} {lo m neq : Nat} (hU : AllU U a) (hs : lo + m<=a.size) (hq : neq + 1<=m) (h : ∀ i,lo + m - (neq + 1)<=i->i < lo + m->Eqv blt (gt a i) (gt a (lo + m - 1))) :
  ∀ k,k < a.size->Eqv blt (gt (mirror a (lo + m - (neq + 1)) (lo + m) ((lo + m - (lo + m - (neq + 1))) / 2)) k) (gt a k):=fun k hk=>by
 rw [gt_mirror hs]
 by_cases c : lo + m - (neq + 1)<=k/\k < lo + m
 ·rw [if_pos c]
  exact (h _ (by lia) (by lia)).trans O (hU _ (by lia)) (hU _ (by lia)) (hU _ (by lia)) (h k c.1 c.2).symm
 ·rw [if_neg c]
  exact Eqv.rfl' O (hU _ hk)
theorem ni_eqv (O : Ord U blt) {a b : Array Keyed} {lo n : Nat} (hU : AllU U a) (hV : AllU U b) (hs : lo + n<=a.size) (ht : lo + n<=b.size) (h : NonInc blt a lo n) (e : ∀ k,k < a.size->Eqv blt (gt b k) (gt a k)) : NonInc blt b lo n:=fun i j a1 a2 a3=>
 O.le_trans (hV j (by lia)) (hU j (by lia)) (hV i (by lia)) (e j (by lia)).2 (O.le_trans (hU j (by lia)) (hU i (by lia)) (hV i (by lia)) (h i j a1 a2 a3) (e i (by lia)).1)
end
section
variable {prog : Program} {w : World} {A : Around} {E : Value->Shared->Prop} {s : Shared} {kd : SortKind} {U : Keyed->Prop} {blt : Keyed->Keyed->Bool}
theorem wpS_ltAt (hL : LtOk prog w A E s kd U blt) {i j : Nat} {st : SortSt} {Q : Option Bool->SortSt->Prop} (hk : kindOf st = kd) (hU : AllU U (arrOf st)) (hi : i < (arrOf st).size) (hj : j < (arrOf st).size)
  (h : Q (some (blt (gt (arrOf st) i) (gt (arrOf st) j))) st) : wpS (model prog w) A E s (ltAt' i j) Q st:=by
 rw [ltAt'_eq]
 exact wpS_bind (wpS_get (wpS_bind (wpS_elem hi (wpS_bind (wpS_elem hj (hL _ _ _ _ (hU _ hi) (hU _ hj) hk h))))))
theorem wpS_countRun (O : Ord U blt) (hL : LtOk prog w A E s kd U blt) {lo nrem : Nat} {st : SortSt} {Q : Option Nat->SortSt->Prop} (hk : kindOf st = kd) (hU : AllU U (arrOf st)) (hn : lo + nrem<=(arrOf st).size) (h1 : 1<=nrem)
  (h : ∀ m st',Stp lo (lo + nrem) st st'->pendingOf st' = pendingOf st->1<=m->m<=nrem->Srt blt (arrOf st') lo (lo + m)->Q (some m) st') : wpS (model prog w) A E s (countRun' lo nrem) Q st:=by
 rw [countRun'_eq]
 have stp0 : Stp lo (lo + nrem) st st:=⟨rfl,rfl,Array.Perm.refl _,fun _ _=>rfl⟩
 refine wpS_bind (wpS_mono (wpS_forRange
  (I:=fun x c st'=>st' = st/\c = (none,x)/\Srt blt (arrOf st) lo (lo + x))
  (Q:=fun c st'=>st' = st/\∃ m,c = (none,m)/\1<=m/\m<=nrem/\Srt blt (arrOf st) lo (lo + m)/\(m = nrem\/(m < nrem/\blt (gt (arrOf st) (lo + m)) (gt (arrOf st) (lo + m - 1)) = true))) ?step ?fin ?init) ?post)
 case init=>exact ⟨rfl,rfl,fun i j a1 a2 a3=>by rw [show i = lo by lia,show j = lo by lia];exact O.irr _ (hU _ (by lia))⟩
 case fin=>
  rintro c st' ⟨rfl,rfl,q⟩
  rw [show max 1 nrem = nrem by lia] at q ⊢
  exact ⟨rfl,nrem,rfl,h1,Nat.le_refl _,q,.inl rfl⟩
 case step=>
  rintro x c st' x1 x2 ⟨rfl,rfl,q⟩
  dsimp only
  refine wpS_bind (wpS_ltAt hL hk hU (by lia) (by lia) ?_)
  dsimp only
  cases e : blt (gt (arrOf st') (lo + x)) (gt (arrOf st') (lo + x - 1)) with
  | true=>
   simp only [if_true]
   exact wpS_pure ⟨rfl,x,rfl,x1,by lia,q,.inr ⟨x2,e⟩⟩
  | false=>
   simp only [Bool.false_eq_true,if_false]
   exact wpS_pure ⟨rfl,rfl,srt_snoc O hU (by lia) x1 q e⟩
 case post=>
  rintro c st ⟨hst,n,rfl,n1,n2,q,hor⟩
  have hst:=hst.symm
  subst hst
  dsimp only
  by_cases hnn : n = nrem
  ·rw [if_pos (by simpa using hnn)]
   exact wpS_pure (h n _ stp0 rfl n1 n2 q)
  rw [if_neg (by simpa using hnn)]
  obtain ⟨n3,hlt⟩:=hor.resolve_left hnn
  by_cases hgt : n > 1
  ·rw [if_pos hgt]
   refine wpS_bind (wpS_ltAt hL hk hU (by lia) (by lia) ?_)
   dsimp only
   cases e : blt (gt (arrOf st) lo) (gt (arrOf st) (lo + n - 1)) with
   | true=>
    simp only [if_true]
    exact wpS_pure (h n _ stp0 rfl n1 n2 q)
   | false=>
    simp only [Bool.false_eq_true,if_false]
    refine wpS_bind (wpS_reverse ?_)
    have stp2 : Stp lo (lo + nrem) st (setArr st (mirror (arrOf st) lo (lo + n) ((lo + n - lo) / 2))):=stp0.mir (Nat.le_refl _) (by lia) (by lia)
    have pd2 : pendingOf (setArr st (mirror (arrOf st) lo (lo + n) ((lo + n - lo) / 2))) = pendingOf st:=rfl
    have ev : ∀ i,lo<=i->i < lo + n->Eqv blt (gt (arrOf st) i) (gt (arrOf st) (lo + n - 1)):=fun i i1 i2=>by
     refine ⟨?_,q i (lo + n - 1) i1 (by lia) (by lia)⟩
     ·cases z : blt (gt (arrOf st) i) (gt (arrOf st) (lo + n - 1)) with
      | false=>rfl
      | true=>
       rcases O.ntr _ (gt (arrOf st) lo) _ (hU i (by lia)) (hU lo (by lia)) (hU (lo + n - 1) (by lia)) z with p | p
       ·rw [q lo i (Nat.le_refl _) i1 i2] at p;cases p
       ·rw [e] at p;cases p
    have hm : ∀ k,k < (arrOf st).size->Eqv blt (gt (mirror (arrOf st) lo (lo + n) ((lo + n - lo) / 2)) k) (gt (arrOf st) k):=fun k hk'=>by
     rw [gt_mirror (by lia)]
     by_cases c : lo<=k/\k < lo + n
     ·rw [if_pos c]
      exact (ev _ (by lia) (by lia)).trans O (hU _ (by lia)) (hU _ (by lia)) (hU _ (by lia)) (ev k c.1 c.2).symm
     ·rw [if_neg c]
      exact Eqv.rfl' O (hU _ hk')
    have ni1 : NonInc blt (arrOf st) lo n:=fun i j a1 a2 a3=>((ev i a1 (by lia)).trans O (hU _ (by lia)) (hU _ (by lia)) (hU _ (by lia)) (ev j (by lia) a3).symm).1
    have ni2 : NonInc blt (arrOf (setArr st (mirror (arrOf st) lo (lo + n) ((lo + n - lo) / 2)))) lo (n + 1):=
     ni_eqv O hU (allU_perm hU (mirror_perm _ _ _ _)) (by lia) (by show lo + (n + 1)<=(mirror _ _ _ _).size;rw [mirror_size];lia) (ni_snoc O hU (by lia) n1 ni1 (O.asym (hU _ (by lia)) (hU _ (by lia)) hlt)) hm
    refine wpS_bind (wpS_lift (wpAny_rule ⟨rfl,?_⟩))
    refine wpS_bind (wpS_mono (wpS_forRange
     (I:=fun x c st'=>∃ neq,c = (none,x,neq)/\Stp lo (lo + nrem) st st'/\pendingOf st' = pendingOf st/\NonInc blt (arrOf st') lo x/\neq + 1<=x/\∀ i,lo + x - (neq + 1)<=i->i < lo + x->Eqv blt (gt (arrOf st') i) (gt (arrOf st') (lo + x - 1)))
     (Q:=fun c st'=>∃ m neq,c = (none,m,neq)/\n + 1<=m/\m<=nrem/\Stp lo (lo + nrem) st st'/\pendingOf st' = pendingOf st/\NonInc blt (arrOf st') lo m/\neq + 1<=m/\∀ i,lo + m - (neq + 1)<=i->i < lo + m->Eqv blt (gt (arrOf st') i) (gt (arrOf st') (lo + m - 1))) ?dstep ?dfin ?dinit) ?dpost)
    case dinit=>exact ⟨0,rfl,stp2,pd2,ni2,by lia,fun i i1 i2=>by rw [show i = lo + (n + 1) - 1 by lia];exact Eqv.rfl' O (allU_perm hU stp2.pm _ (by rw [stp2.sz];lia))⟩
    case dfin=>
     rintro c st' ⟨neq,rfl,q1,q2,q3,q4,q5⟩
     rw [show max (n + 1) nrem = nrem by lia] at q3 q4 q5 ⊢
     exact ⟨nrem,neq,rfl,by lia,Nat.le_refl _,q1,q2,q3,q4,q5⟩
    case dstep=>
     rintro x c st' x1 x2 ⟨neq,rfl,q1,q2,q3,q4,q5⟩
     dsimp only
     have hUx:=allU_perm hU q1.pm
     have hzx : lo + nrem<=(arrOf st').size:=by rw [q1.sz];lia
     refine wpS_bind (wpS_ltAt hL (q1.kd.trans hk) hUx (by lia) (by lia) ?_)
     dsimp only
     cases e : blt (gt (arrOf st') (lo + x)) (gt (arrOf st') (lo + x - 1)) with
     | true=>
      simp only [if_true]
      have ni' : NonInc blt (arrOf st') lo (x + 1):=ni_snoc O hUx (by lia) (by lia) q3 (O.asym (hUx _ (by lia)) (hUx _ (by lia)) e)
      by_cases hq : neq > 0
      ·rw [if_pos hq]
       refine wpS_bind (wpS_reverse (wpS_pure ⟨0,rfl,q1.mir (by lia) (by lia) (by lia),q2,?_,by lia,fun i i1 i2=>?_⟩))
       ·exact ni_eqv O hUx (allU_perm hUx (mirror_perm _ _ _ _)) (by lia) (by rw [mirror_size];lia) ni' (eqv_mir O hUx (by lia) (by lia) q5)
       ·rw [show i = lo + (x + 1) - 1 by lia]
        exact Eqv.rfl' O (allU_perm hUx (mirror_perm _ _ _ _) _ (by rw [mirror_size];lia))
      ·rw [if_neg hq]
       exact wpS_pure ⟨0,rfl,q1,q2,ni',by lia,fun i i1 i2=>by rw [show i = lo + (x + 1) - 1 by lia];exact Eqv.rfl' O (hUx _ (by lia))⟩
     | false=>
      simp only [Bool.false_eq_true,if_false]
      refine wpS_bind (wpS_ltAt hL (q1.kd.trans hk) hUx (by lia) (by lia) ?_)
      dsimp only
      cases e2 : blt (gt (arrOf st') (lo + x - 1)) (gt (arrOf st') (lo + x)) with
      | true=>
       simp only [if_true]
       exact wpS_pure ⟨x,neq,rfl,x1,by lia,q1,q2,q3,q4,q5⟩
      | false=>
       simp only [Bool.false_eq_true,if_false]
       refine wpS_pure ⟨neq + 1,rfl,q1,q2,ni_snoc O hUx (by lia) (by lia) q3 e2,by lia,fun i i1 i2=>?_⟩
       rw [show lo + (x + 1) - 1 = lo + x by lia]
       by_cases c : i = lo + x
       ·rw [c];exact Eqv.rfl' O (hUx _ (by lia))
       ·exact (q5 i (by lia) (by lia)).trans O (hUx _ (by lia)) (hUx _ (by lia)) (hUx _ (by lia)) ⟨e2,e⟩
    case dpost=>
     rintro c st3 ⟨m,neq,rfl,m1,m2,q1,q2,q3,q4,q5⟩
     dsimp only
     have hU3:=allU_perm hU q1.pm
     have hz3 : lo + nrem<=(arrOf st3).size:=by rw [q1.sz];lia
     by_cases hq : neq > 0
     ·rw [if_pos hq]
      refine wpS_bind (wpS_reverse ?_)
      have stp4:=q1.mir (i:=lo + m - (neq + 1)) (j:=lo + m) (by lia) (by lia) (by lia)
      have ni4 : NonInc blt (mirror (arrOf st3) (lo + m - (neq + 1)) (lo + m) ((lo + m - (lo + m - (neq + 1))) / 2)) lo m:=
       ni_eqv O hU3 (allU_perm hU3 (mirror_perm _ _ _ _)) (by lia) (by rw [mirror_size];lia) q3 (eqv_mir O hU3 (by lia) (by lia) q5)
      refine wpS_bind (wpS_reverse ?_)
      have stpA : Stp lo (lo + nrem) st (setArr (setArr st3 (mirror (arrOf st3) (lo + m - (neq + 1)) (lo + m) ((lo + m - (lo + m - (neq + 1))) / 2))) (mirror (arrOf (setArr st3 (mirror (arrOf st3) (lo + m - (neq + 1)) (lo + m) ((lo + m - (lo + m - (neq + 1))) / 2)))) lo (lo + m) ((lo + m - lo) / 2))):=stp4.mir (Nat.le_refl _) (by lia) (by rw [stp4.sz];lia)
      have pdA : pendingOf (setArr (setArr st3 (mirror (arrOf st3) (lo + m - (neq + 1)) (lo + m) ((lo + m - (lo + m - (neq + 1))) / 2))) (mirror (arrOf (setArr st3 (mirror (arrOf st3) (lo + m - (neq + 1)) (lo + m) ((lo + m - (lo + m - (neq + 1))) / 2)))) lo (lo + m) ((lo + m - lo) / 2))) = pendingOf st:=q2
      have hsA : Srt blt (arrOf (setArr (setArr st3 (mirror (arrOf st3) (lo + m - (neq + 1)) (lo + m) ((lo + m - (lo + m - (neq + 1))) / 2))) (mirror (arrOf (setArr st3 (mirror (arrOf st3) (lo + m - (neq + 1)) (lo + m) ((lo + m - (lo + m - (neq + 1))) / 2)))) lo (lo + m) ((lo + m - lo) / 2)))) lo (lo + m):=srt_mir (by rw [stp4.sz];lia) ni4
      refine wpS_bind (wpS_mono (wpS_forRange
       (I:=fun x c st'=>st' = (setArr (setArr st3 (mirror (arrOf st3) (lo + m - (neq + 1)) (lo + m) ((lo + m - (lo + m - (neq + 1))) / 2))) (mirror (arrOf (setArr st3 (mirror (arrOf st3) (lo + m - (neq + 1)) (lo + m) ((lo + m - (lo + m - (neq + 1))) / 2)))) lo (lo + m) ((lo + m - lo) / 2)))/\c = (none,x)/\Srt blt (arrOf (setArr (setArr st3 (mirror (arrOf st3) (lo + m - (neq + 1)) (lo + m) ((lo + m - (lo + m - (neq + 1))) / 2))) (mirror (arrOf (setArr st3 (mirror (arrOf st3) (lo + m - (neq + 1)) (lo + m) ((lo + m - (lo + m - (neq + 1))) / 2)))) lo (lo + m) ((lo + m - lo) / 2)))) lo (lo + x))
       (Q:=fun c st'=>st' = (setArr (setArr st3 (mirror (arrOf st3) (lo + m - (neq + 1)) (lo + m) ((lo + m - (lo + m - (neq + 1))) / 2))) (mirror (arrOf (setArr st3 (mirror (arrOf st3) (lo + m - (neq + 1)) (lo + m) ((lo + m - (lo + m - (neq + 1))) / 2)))) lo (lo + m) ((lo + m - lo) / 2)))/\∃ mm,c = (none,mm)/\m<=mm/\mm<=nrem/\Srt blt (arrOf (setArr (setArr st3 (mirror (arrOf st3) (lo + m - (neq + 1)) (lo + m) ((lo + m - (lo + m - (neq + 1))) / 2))) (mirror (arrOf (setArr st3 (mirror (arrOf st3) (lo + m - (neq + 1)) (lo + m) ((lo + m - (lo + m - (neq + 1))) / 2)))) lo (lo + m) ((lo + m - lo) / 2)))) lo (lo + mm)) ?stepA ?finA ?initA) ?postA)
      case initA=>exact ⟨rfl,rfl,hsA⟩
      case finA=>
       rintro c st' ⟨rfl,rfl,q⟩
       rw [show max m nrem = nrem by lia] at q ⊢
       exact ⟨rfl,nrem,rfl,by lia,Nat.le_refl _,q⟩
      case postA=>
       rintro c st' ⟨rfl,mm,rfl,mm1,mm2,q⟩
       exact wpS_pure (h mm _ stpA pdA (by lia) mm2 q)
      case stepA=>
       rintro x c st' x1 x2 ⟨rfl,rfl,q⟩
       dsimp only
       refine wpS_bind (wpS_ltAt hL (stpA.kd.trans hk) (allU_perm hU stpA.pm) (by rw [stpA.sz];lia) (by rw [stpA.sz];lia) ?_)
       dsimp only
       cases e : blt (gt (arrOf (setArr (setArr st3 (mirror (arrOf st3) (lo + m - (neq + 1)) (lo + m) ((lo + m - (lo + m - (neq + 1))) / 2))) (mirror (arrOf (setArr st3 (mirror (arrOf st3) (lo + m - (neq + 1)) (lo + m) ((lo + m - (lo + m - (neq + 1))) / 2)))) lo (lo + m) ((lo + m - lo) / 2)))) (lo + x)) (gt (arrOf (setArr (setArr st3 (mirror (arrOf st3) (lo + m - (neq + 1)) (lo + m) ((lo + m - (lo + m - (neq + 1))) / 2))) (mirror (arrOf (setArr st3 (mirror (arrOf st3) (lo + m - (neq + 1)) (lo + m) ((lo + m - (lo + m - (neq + 1))) / 2)))) lo (lo + m) ((lo + m - lo) / 2)))) (lo + x - 1)) with
       | true=>
        simp only [if_true]
        exact wpS_pure ⟨rfl,x,rfl,x1,by lia,q⟩
       | false=>
        simp only [Bool.false_eq_true,if_false]
        exact wpS_pure ⟨rfl,rfl,srt_snoc O (allU_perm hU stpA.pm) (by rw [stpA.sz];lia) (by lia) q e⟩
     ·rw [if_neg hq]
      refine wpS_bind (wpS_reverse ?_)
      have stpB : Stp lo (lo + nrem) st (setArr st3 (mirror (arrOf st3) lo (lo + m) ((lo + m - lo) / 2))):=q1.mir (Nat.le_refl _) (by lia) (by rw [q1.sz];lia)
      have pdB : pendingOf (setArr st3 (mirror (arrOf st3) lo (lo + m) ((lo + m - lo) / 2))) = pendingOf st:=q2
      have hsB : Srt blt (arrOf (setArr st3 (mirror (arrOf st3) lo (lo + m) ((lo + m - lo) / 2)))) lo (lo + m):=srt_mir (by rw [q1.sz];lia) q3
      refine wpS_bind (wpS_mono (wpS_forRange
       (I:=fun x c st'=>st' = (setArr st3 (mirror (arrOf st3) lo (lo + m) ((lo + m - lo) / 2)))/\c = (none,x)/\Srt blt (arrOf (setArr st3 (mirror (arrOf st3) lo (lo + m) ((lo + m - lo) / 2)))) lo (lo + x))
       (Q:=fun c st'=>st' = (setArr st3 (mirror (arrOf st3) lo (lo + m) ((lo + m - lo) / 2)))/\∃ mm,c = (none,mm)/\m<=mm/\mm<=nrem/\Srt blt (arrOf (setArr st3 (mirror (arrOf st3) lo (lo + m) ((lo + m - lo) / 2)))) lo (lo + mm)) ?stepB ?finB ?initB) ?postB)
      case initB=>exact ⟨rfl,rfl,hsB⟩
      case finB=>
       rintro c st' ⟨rfl,rfl,q⟩
       rw [show max m nrem = nrem by lia] at q ⊢
       exact ⟨rfl,nrem,rfl,by lia,Nat.le_refl _,q⟩
      case postB=>
       rintro c st' ⟨rfl,mm,rfl,mm1,mm2,q⟩
       exact wpS_pure (h mm _ stpB pdB (by lia) mm2 q)
      case stepB=>
       rintro x c st' x1 x2 ⟨rfl,rfl,q⟩
       dsimp only
       refine wpS_bind (wpS_ltAt hL (stpB.kd.trans hk) (allU_perm hU stpB.pm) (by rw [stpB.sz];lia) (by rw [stpB.sz];lia) ?_)
       dsimp only
       cases e : blt (gt (arrOf (setArr st3 (mirror (arrOf st3) lo (lo + m) ((lo + m - lo) / 2)))) (lo + x)) (gt (arrOf (setArr st3 (mirror (arrOf st3) lo (lo + m) ((lo + m - lo) / 2)))) (lo + x - 1)) with
       | true=>
        simp only [if_true]
        exact wpS_pure ⟨rfl,x,rfl,x1,by lia,q⟩
       | false=>
        simp only [Bool.false_eq_true,if_false]
        exact wpS_pure ⟨rfl,rfl,srt_snoc O (allU_perm hU stpB.pm) (by rw [stpB.sz];lia) (by lia) q e⟩
  ·rw [if_neg hgt]
   obtain rfl : n = 1:=by lia
   have stp2:=stp0
   have pd2 : pendingOf st = pendingOf st:=rfl
   have ni2 : NonInc blt (arrOf st) lo (1 + 1):=ni_snoc O hU (by lia) (Nat.le_refl _) (fun i j a1 a2 a3=>by rw [show i = lo by lia,show j = lo by lia];exact O.irr _ (hU _ (by lia))) (O.asym (hU _ (by lia)) (hU _ (by lia)) hlt)
   refine wpS_bind (wpS_lift (wpAny_rule ⟨rfl,?_⟩))
   refine wpS_bind (wpS_mono (wpS_forRange
    (I:=fun x c st'=>∃ neq,c = (none,x,neq)/\Stp lo (lo + nrem) st st'/\pendingOf st' = pendingOf st/\NonInc blt (arrOf st') lo x/\neq + 1<=x/\∀ i,lo + x - (neq + 1)<=i->i < lo + x->Eqv blt (gt (arrOf st') i) (gt (arrOf st') (lo + x - 1)))
    (Q:=fun c st'=>∃ m neq,c = (none,m,neq)/\1 + 1<=m/\m<=nrem/\Stp lo (lo + nrem) st st'/\pendingOf st' = pendingOf st/\NonInc blt (arrOf st') lo m/\neq + 1<=m/\∀ i,lo + m - (neq + 1)<=i->i < lo + m->Eqv blt (gt (arrOf st') i) (gt (arrOf st') (lo + m - 1))) ?dstep ?dfin ?dinit) ?dpost)
   case dinit=>exact ⟨0,rfl,stp2,pd2,ni2,by lia,fun i i1 i2=>by rw [show i = lo + (1 + 1) - 1 by lia];exact Eqv.rfl' O (allU_perm hU stp2.pm _ (by rw [stp2.sz];lia))⟩
   case dfin=>
    rintro c st' ⟨neq,rfl,q1,q2,q3,q4,q5⟩
    rw [show max (1 + 1) nrem = nrem by lia] at q3 q4 q5 ⊢
    exact ⟨nrem,neq,rfl,by lia,Nat.le_refl _,q1,q2,q3,q4,q5⟩
   case dstep=>
    rintro x c st' x1 x2 ⟨neq,rfl,q1,q2,q3,q4,q5⟩
    dsimp only
    have hUx:=allU_perm hU q1.pm
    have hzx : lo + nrem<=(arrOf st').size:=by rw [q1.sz];lia
    refine wpS_bind (wpS_ltAt hL (q1.kd.trans hk) hUx (by lia) (by lia) ?_)
    dsimp only
    cases e : blt (gt (arrOf st') (lo + x)) (gt (arrOf st') (lo + x - 1)) with
    | true=>
     simp only [if_true]
     have ni' : NonInc blt (arrOf st') lo (x + 1):=ni_snoc O hUx (by lia) (by lia) q3 (O.asym (hUx _ (by lia)) (hUx _ (by lia)) e)
     by_cases hq : neq > 0
     ·rw [if_pos hq]
      refine wpS_bind (wpS_reverse (wpS_pure ⟨0,rfl,q1.mir (by lia) (by lia) (by lia),q2,?_,by lia,fun i i1 i2=>?_⟩))
      ·exact ni_eqv O hUx (allU_perm hUx (mirror_perm _ _ _ _)) (by lia) (by rw [mirror_size];lia) ni' (eqv_mir O hUx (by lia) (by lia) q5)
      ·rw [show i = lo + (x + 1) - 1 by lia]
       exact Eqv.rfl' O (allU_perm hUx (mirror_perm _ _ _ _) _ (by rw [mirror_size];lia))
     ·rw [if_neg hq]
      exact wpS_pure ⟨0,rfl,q1,q2,ni',by lia,fun i i1 i2=>by rw [show i = lo + (x + 1) - 1 by lia];exact Eqv.rfl' O (hUx _ (by lia))⟩
    | false=>
     simp only [Bool.false_eq_true,if_false]
     refine wpS_bind (wpS_ltAt hL (q1.kd.trans hk) hUx (by lia) (by lia) ?_)
     dsimp only
     cases e2 : blt (gt (arrOf st') (lo + x - 1)) (gt (arrOf st') (lo + x)) with
     | true=>
      simp only [if_true]
      exact wpS_pure ⟨x,neq,rfl,x1,by lia,q1,q2,q3,q4,q5⟩
     | false=>
      simp only [Bool.false_eq_true,if_false]
      refine wpS_pure ⟨neq + 1,rfl,q1,q2,ni_snoc O hUx (by lia) (by lia) q3 e2,by lia,fun i i1 i2=>?_⟩
      rw [show lo + (x + 1) - 1 = lo + x by lia]
      by_cases c : i = lo + x
      ·rw [c];exact Eqv.rfl' O (hUx _ (by lia))
      ·exact (q5 i (by lia) (by lia)).trans O (hUx _ (by lia)) (hUx _ (by lia)) (hUx _ (by lia)) ⟨e2,e⟩
   case dpost=>
    rintro c st3 ⟨m,neq,rfl,m1,m2,q1,q2,q3,q4,q5⟩
    dsimp only
    have hU3:=allU_perm hU q1.pm
    have hz3 : lo + nrem<=(arrOf st3).size:=by rw [q1.sz];lia
    by_cases hq : neq > 0
    ·rw [if_pos hq]
     refine wpS_bind (wpS_reverse ?_)
     have stp4:=q1.mir (i:=lo + m - (neq + 1)) (j:=lo + m) (by lia) (by lia) (by lia)
     have ni4 : NonInc blt (mirror (arrOf st3) (lo + m - (neq + 1)) (lo + m) ((lo + m - (lo + m - (neq + 1))) / 2)) lo m:=
      ni_eqv O hU3 (allU_perm hU3 (mirror_perm _ _ _ _)) (by lia) (by rw [mirror_size];lia) q3 (eqv_mir O hU3 (by lia) (by lia) q5)
     refine wpS_bind (wpS_reverse ?_)
     have stpA : Stp lo (lo + nrem) st (setArr (setArr st3 (mirror (arrOf st3) (lo + m - (neq + 1)) (lo + m) ((lo + m - (lo + m - (neq + 1))) / 2))) (mirror (arrOf (setArr st3 (mirror (arrOf st3) (lo + m - (neq + 1)) (lo + m) ((lo + m - (lo + m - (neq + 1))) / 2)))) lo (lo + m) ((lo + m - lo) / 2))):=stp4.mir (Nat.le_refl _) (by lia) (by rw [stp4.sz];lia)
     have pdA : pendingOf (setArr (setArr st3 (mirror (arrOf st3) (lo + m - (neq + 1)) (lo + m) ((lo + m - (lo + m - (neq + 1))) / 2))) (mirror (arrOf (setArr st3 (mirror (arrOf st3) (lo + m - (neq + 1)) (lo + m) ((lo + m - (lo + m - (neq + 1))) / 2)))) lo (lo + m) ((lo + m - lo) / 2))) = pendingOf st:=q2
     have hsA : Srt blt (arrOf (setArr (setArr st3 (mirror (arrOf st3) (lo + m - (neq + 1)) (lo + m) ((lo + m - (lo + m - (neq + 1))) / 2))) (mirror (arrOf (setArr st3 (mirror (arrOf st3) (lo + m - (neq + 1)) (lo + m) ((lo + m - (lo + m - (neq + 1))) / 2)))) lo (lo + m) ((lo + m - lo) / 2)))) lo (lo + m):=srt_mir (by rw [stp4.sz];lia) ni4
     refine wpS_bind (wpS_mono (wpS_forRange
      (I:=fun x c st'=>st' = (setArr (setArr st3 (mirror (arrOf st3) (lo + m - (neq + 1)) (lo + m) ((lo + m - (lo + m - (neq + 1))) / 2))) (mirror (arrOf (setArr st3 (mirror (arrOf st3) (lo + m - (neq + 1)) (lo + m) ((lo + m - (lo + m - (neq + 1))) / 2)))) lo (lo + m) ((lo + m - lo) / 2)))/\c = (none,x)/\Srt blt (arrOf (setArr (setArr st3 (mirror (arrOf st3) (lo + m - (neq + 1)) (lo + m) ((lo + m - (lo + m - (neq + 1))) / 2))) (mirror (arrOf (setArr st3 (mirror (arrOf st3) (lo + m - (neq + 1)) (lo + m) ((lo + m - (lo + m - (neq + 1))) / 2)))) lo (lo + m) ((lo + m - lo) / 2)))) lo (lo + x))
      (Q:=fun c st'=>st' = (setArr (setArr st3 (mirror (arrOf st3) (lo + m - (neq + 1)) (lo + m) ((lo + m - (lo + m - (neq + 1))) / 2))) (mirror (arrOf (setArr st3 (mirror (arrOf st3) (lo + m - (neq + 1)) (lo + m) ((lo + m - (lo + m - (neq + 1))) / 2)))) lo (lo + m) ((lo + m - lo) / 2)))/\∃ mm,c = (none,mm)/\m<=mm/\mm<=nrem/\Srt blt (arrOf (setArr (setArr st3 (mirror (arrOf st3) (lo + m - (neq + 1)) (lo + m) ((lo + m - (lo + m - (neq + 1))) / 2))) (mirror (arrOf (setArr st3 (mirror (arrOf st3) (lo + m - (neq + 1)) (lo + m) ((lo + m - (lo + m - (neq + 1))) / 2)))) lo (lo + m) ((lo + m - lo) / 2)))) lo (lo + mm)) ?stepA ?finA ?initA) ?postA)
     case initA=>exact ⟨rfl,rfl,hsA⟩
     case finA=>
      rintro c st' ⟨rfl,rfl,q⟩
      rw [show max m nrem = nrem by lia] at q ⊢
      exact ⟨rfl,nrem,rfl,by lia,Nat.le_refl _,q⟩
     case postA=>
      rintro c st' ⟨rfl,mm,rfl,mm1,mm2,q⟩
      exact wpS_pure (h mm _ stpA pdA (by lia) mm2 q)
     case stepA=>
      rintro x c st' x1 x2 ⟨rfl,rfl,q⟩
      dsimp only
      refine wpS_bind (wpS_ltAt hL (stpA.kd.trans hk) (allU_perm hU stpA.pm) (by rw [stpA.sz];lia) (by rw [stpA.sz];lia) ?_)
      dsimp only
      cases e : blt (gt (arrOf (setArr (setArr st3 (mirror (arrOf st3) (lo + m - (neq + 1)) (lo + m) ((lo + m - (lo + m - (neq + 1))) / 2))) (mirror (arrOf (setArr st3 (mirror (arrOf st3) (lo + m - (neq + 1)) (lo + m) ((lo + m - (lo + m - (neq + 1))) / 2)))) lo (lo + m) ((lo + m - lo) / 2)))) (lo + x)) (gt (arrOf (setArr (setArr st3 (mirror (arrOf st3) (lo + m - (neq + 1)) (lo + m) ((lo + m - (lo + m - (neq + 1))) / 2))) (mirror (arrOf (setArr st3 (mirror (arrOf st3) (lo + m - (neq + 1)) (lo + m) ((lo + m - (lo + m - (neq + 1))) / 2)))) lo (lo + m) ((lo + m - lo) / 2)))) (lo + x - 1)) with
      | true=>
       simp only [if_true]
       exact wpS_pure ⟨rfl,x,rfl,x1,by lia,q⟩
      | false=>
       simp only [Bool.false_eq_true,if_false]
       exact wpS_pure ⟨rfl,rfl,srt_snoc O (allU_perm hU stpA.pm) (by rw [stpA.sz];lia) (by lia) q e⟩
    ·rw [if_neg hq]
     refine wpS_bind (wpS_reverse ?_)
     have stpB : Stp lo (lo + nrem) st (setArr st3 (mirror (arrOf st3) lo (lo + m) ((lo + m - lo) / 2))):=q1.mir (Nat.le_refl _) (by lia) (by rw [q1.sz];lia)
     have pdB : pendingOf (setArr st3 (mirror (arrOf st3) lo (lo + m) ((lo + m - lo) / 2))) = pendingOf st:=q2
     have hsB : Srt blt (arrOf (setArr st3 (mirror (arrOf st3) lo (lo + m) ((lo + m - lo) / 2)))) lo (lo + m):=srt_mir (by rw [q1.sz];lia) q3
     refine wpS_bind (wpS_mono (wpS_forRange
      (I:=fun x c st'=>st' = (setArr st3 (mirror (arrOf st3) lo (lo + m) ((lo + m - lo) / 2)))/\c = (none,x)/\Srt blt (arrOf (setArr st3 (mirror (arrOf st3) lo (lo + m) ((lo + m - lo) / 2)))) lo (lo + x))
      (Q:=fun c st'=>st' = (setArr st3 (mirror (arrOf st3) lo (lo + m) ((lo + m - lo) / 2)))/\∃ mm,c = (none,mm)/\m<=mm/\mm<=nrem/\Srt blt (arrOf (setArr st3 (mirror (arrOf st3) lo (lo + m) ((lo + m - lo) / 2)))) lo (lo + mm)) ?stepB ?finB ?initB) ?postB)
     case initB=>exact ⟨rfl,rfl,hsB⟩
     case finB=>
      rintro c st' ⟨rfl,rfl,q⟩
      rw [show max m nrem = nrem by lia] at q ⊢
      exact ⟨rfl,nrem,rfl,by lia,Nat.le_refl _,q⟩
     case postB=>
      rintro c st' ⟨rfl,mm,rfl,mm1,mm2,q⟩
      exact wpS_pure (h mm _ stpB pdB (by lia) mm2 q)
     case stepB=>
      rintro x c st' x1 x2 ⟨rfl,rfl,q⟩
      dsimp only
      refine wpS_bind (wpS_ltAt hL (stpB.kd.trans hk) (allU_perm hU stpB.pm) (by rw [stpB.sz];lia) (by rw [stpB.sz];lia) ?_)
      dsimp only
      cases e : blt (gt (arrOf (setArr st3 (mirror (arrOf st3) lo (lo + m) ((lo + m - lo) / 2)))) (lo + x)) (gt (arrOf (setArr st3 (mirror (arrOf st3) lo (lo + m) ((lo + m - lo) / 2)))) (lo + x - 1)) with
      | true=>
       simp only [if_true]
       exact wpS_pure ⟨rfl,x,rfl,x1,by lia,q⟩
      | false=>
       simp only [Bool.false_eq_true,if_false]
       exact wpS_pure ⟨rfl,rfl,srt_snoc O (allU_perm hU stpB.pm) (by rw [stpB.sz];lia) (by lia) q e⟩
end
end TS
end
section
set_option maxHeartbeats 1000000
namespace TS
open PySem PyProof.Rows
section
variable {blt : Keyed->Keyed->Bool} {U : Keyed->Prop}
theorem gt_bubble {a : Array Keyed} {src d : Nat} (hs : src < a.size) (hd : d<=src) (k : Nat) :
  gt (bubble a src d) k = if k = src - d then gt a src else if src - d < k/\k<=src then gt a (k - 1) else gt a k:=by
 rw [gt_q,getElem?_bubble hs d hd]
 repeat' split
 all_goals rw [gt_q]
end
section
variable {prog : Program} {w : World} {A : Around} {E : Value->Shared->Prop} {s : Shared} {kd : SortKind} {U : Keyed->Prop} {blt : Keyed->Keyed->Bool}
theorem wpS_binarySort (O : Ord U blt) (hL : LtOk prog w A E s kd U blt) {lo n ok : Nat} {st : SortSt} {Q : Bool->SortSt->Prop} (hk : kindOf st = kd) (hU : AllU U (arrOf st)) (hn : lo + n<=(arrOf st).size) (hok : ok<=n)
  (hs : Srt blt (arrOf st) lo (lo + ok))
  (h : ∀ st',Stp lo (lo + n) st st'->pendingOf st' = pendingOf st->Srt blt (arrOf st') lo (lo + n)->Q true st') : wpS (model prog w) A E s (binarySort' lo n ok) Q st:=by
 rw [binarySort'_eq]
 have stp0 : Stp lo (lo + n) st st:=⟨rfl,rfl,Array.Perm.refl _,fun _ _=>rfl⟩
 refine wpS_bind (wpS_mono (wpS_forRange (I:=fun k c st'=>c = (none,())/\Stp lo (lo + n) st st'/\pendingOf st' = pendingOf st/\Srt blt (arrOf st') lo (lo + min k n))
  (Q:=fun c st'=>c = (none,())/\Stp lo (lo + n) st st'/\pendingOf st' = pendingOf st/\Srt blt (arrOf st') lo (lo + n)) ?step ?fin ?init) ?post)
 case post=>
  rintro c st' ⟨rfl,q1,q2,q3⟩
  exact wpS_pure (h st' q1 q2 q3)
 case init=>
  refine ⟨rfl,stp0,rfl,fun i j a1 a2 a3=>?_⟩
  by_cases h1 : ok = 0
  ·rw [show i = j by lia]
   exact O.irr _ (hU _ (by lia))
  ·exact hs i j a1 a2 (by lia)
 case fin=>
  rintro c st' ⟨hc,q1,q2,q3⟩
  rw [show min (max (max ok 1) n) n = n by lia] at q3
  exact ⟨hc,q1,q2,q3⟩
 case step=>
  rintro k c st' k1 k2 ⟨rfl,q1,q2,q3⟩
  rw [show min k n = k by lia] at q3
  have hU':=allU_perm hU q1.pm
  have hz : lo + n<=(arrOf st').size:=by rw [q1.sz];exact hn
  refine wpS_bind (wpS_mono (wpS_forRange (I:=fun x c st''=>st'' = st'/\∃ l r,c = (none,l,r)/\l<=r/\r<=k/\r - l<=k - x/\
    (∀ i,lo<=i->i < lo + l->blt (gt (arrOf st') (lo + k)) (gt (arrOf st') i) = false)/\(∀ i,lo + r<=i->i < lo + k->blt (gt (arrOf st') (lo + k)) (gt (arrOf st') i) = true))
   (Q:=fun c st''=>st'' = st'/\∃ l r,c = (none,l,r)/\l<=k/\
    (∀ i,lo<=i->i < lo + l->blt (gt (arrOf st') (lo + k)) (gt (arrOf st') i) = false)/\(∀ i,lo + l<=i->i < lo + k->blt (gt (arrOf st') (lo + k)) (gt (arrOf st') i) = true)) ?istep ?ifin ?iinit) ?ipost)
  case iinit=>exact ⟨rfl,0,k,rfl,by lia,by lia,by lia,fun i i1 i2=>by lia,fun i i1 i2=>by lia⟩
  case ifin=>
   rintro c st'' ⟨rfl,l,r,rfl,b1,b2,b3,b4,b5⟩
   obtain rfl : l = r:=by lia
   exact ⟨rfl,l,l,rfl,b2,b4,b5⟩
  case istep=>
   rintro x c st'' _ hx ⟨rfl,l,r,rfl,b1,b2,b3,b4,b5⟩
   dsimp only
   by_cases hge : l >= r
   ·rw [if_pos hge]
    obtain rfl : l = r:=by lia
    exact wpS_pure ⟨rfl,l,l,rfl,b2,b4,b5⟩
   ·rw [if_neg hge]
    refine wpS_bind (wpS_ltAt hL (q1.kd.trans hk) hU' (by lia) (by lia) ?_)
    dsimp only
    cases e : blt (gt (arrOf st'') (lo + k)) (gt (arrOf st'') (lo + (l + r) / 2)) with
    | true=>
     simp only [if_true]
     refine wpS_pure ⟨rfl,l,(l + r) / 2,rfl,by lia,by lia,by lia,b4,fun i i1 i2=>?_⟩
     rcases O.ntr _ (gt (arrOf st'') i) _ (hU' _ (by lia)) (hU' i (by lia)) (hU' _ (by lia)) e with p | p
     ·exact p
     ·rw [q3 _ i (by lia) i1 (by lia)] at p;cases p
    | false=>
     simp only [Bool.false_eq_true,if_false]
     refine wpS_pure ⟨rfl,(l + r) / 2 + 1,r,rfl,by lia,by lia,by lia,fun i i1 i2=>?_,b5⟩
     exact O.le_trans (hU' _ (by lia)) (hU' (lo + (l + r) / 2) (by lia)) (hU' _ (by lia)) (q3 i (lo + (l + r) / 2) i1 (by lia) (by lia)) e
  case ipost=>
   rintro c st'' ⟨rfl,l,r,rfl,b1,b4,b5⟩
   show wpS _ _ _ _ (moveDown' (lo + k) (lo + l) >>= fun _=>pure (ForInStep.yield (none,()))) _ _
   rw [moveDown'_eq]
   refine wpS_bind (wpS_modify (wpS_pure ⟨rfl,⟨q1.kd,q1.fl,(bubble_perm _ _ _).trans q1.pm,fun j hj=>?_⟩,q2,?_⟩))
   ·show gt (bubble (arrOf st'') (lo + k) (lo + k - (lo + l))) j = _
    rw [gt_bubble (by lia) (by lia),if_neg (by lia),if_neg (by lia)]
    exact q1.out j hj
   ·rw [show min (k + 1) n = k + 1 by lia]
    intro i j a1 a2 a3
    show blt (gt (bubble (arrOf st'') (lo + k) (lo + k - (lo + l))) j) (gt (bubble (arrOf st'') (lo + k) (lo + k - (lo + l))) i) = false
    rw [gt_bubble (by lia) (by lia),gt_bubble (by lia) (by lia),show lo + k - (lo + k - (lo + l)) = lo + l by lia]
    repeat' split
    all_goals first
     | (exfalso;lia)
     | exact O.irr _ (hU' _ (by lia))
     | exact b4 _ (by lia) (by lia)
     | exact O.asym (hU' _ (by lia)) (hU' _ (by lia)) (b5 _ (by lia) (by lia))
     | exact q3 _ _ (by lia) (by lia) (by lia)
end
section
variable {blt : Keyed->Keyed->Bool} {U : Keyed->Prop}
noncomputable def Runs (blt : Keyed->Keyed->Bool) (a : Array Keyed) : List (Nat × Nat × Nat)->Nat->Nat->Prop
 | [],b,e=>b = e
 | (s,n,_) :: r,b,e=>s = b/\0 < n/\Srt blt a b (b + n)/\Runs blt a r (b + n) e
theorem Runs.le {a : Array Keyed} : ∀ {l : List (Nat × Nat × Nat)} {b e : Nat},Runs blt a l b e->b + l.length<=e
 | [],b,e,h=>by have : b = e:=h;simp;lia
 | (s,n,p) :: r,b,e,h=>by
  obtain ⟨_,h1,_,h2⟩:=h
  have:=Runs.le h2
  rw [List.length_cons];lia
theorem Runs.app {a : Array Keyed} : ∀ {l r : List (Nat × Nat × Nat)} {b e : Nat},Runs blt a (l ++ r) b e ↔ ∃ m,Runs blt a l b m/\Runs blt a r m e
 | [],r,b,e=>⟨fun h=>⟨b,rfl,h⟩,fun ⟨m,h1,h2⟩=>by have : b = m:=h1;subst this;exact h2⟩
 | (s,n,p) :: l,r,b,e=>by
  constructor
  ·rintro ⟨h1,h2,h3,h4⟩
   obtain ⟨m,h5,h6⟩:=Runs.app.mp h4
   exact ⟨m,⟨h1,h2,h3,h5⟩,h6⟩
  ·rintro ⟨m,⟨h1,h2,h3,h5⟩,h6⟩
   exact ⟨h1,h2,h3,Runs.app.mpr ⟨m,h5,h6⟩⟩
theorem Runs.out {a a' : Array Keyed} : ∀ {l : List (Nat × Nat × Nat)} {b e : Nat},Runs blt a l b e->(∀ j,b<=j->j < e->gt a' j = gt a j)->Runs blt a' l b e
 | [],b,e,h,_=>h
 | (s,n,p) :: l,b,e,⟨h1,h2,h3,h4⟩,q=>by
  have:=h4.le
  exact ⟨h1,h2,h3.out fun j j1 j2=>q j j1 (by lia),Runs.out h4 fun j j1 j2=>q j (by lia) j2⟩
theorem Runs.two {a : Array Keyed} {l1 l2 : List (Nat × Nat × Nat)} {sa na p sb nb q b e : Nat} (h : Runs blt a (l1 ++ (sa,na,p) :: (sb,nb,q) :: l2) b e) :
  b<=sa/\sb = sa + na/\0 < na/\0 < nb/\sb + nb<=e/\Srt blt a sa (sa + na)/\Srt blt a sb (sb + nb):=by
 obtain ⟨m,h1,h2,h3,h4,h5,h6,h7,h8⟩:=Runs.app.mp h
 subst h2 h5
 have e1:=h1.le
 have e2:=h8.le
 exact ⟨by lia,rfl,h3,h6,by lia,h4,h7⟩
theorem Runs.merge {a a' : Array Keyed} {l1 l2 : List (Nat × Nat × Nat)} {sa na p sb nb q b e : Nat} (h : Runs blt a (l1 ++ (sa,na,p) :: (sb,nb,q) :: l2) b e)
  (ho : ∀ j,j < sa\/sb + nb<=j->gt a' j = gt a j) (hs : Srt blt a' sa (sb + nb)) : Runs blt a' (l1 ++ (sa,na + nb,p) :: l2) b e:=by
 obtain ⟨m,h1,h2,h3,h4,h5,h6,h7,h8⟩:=Runs.app.mp h
 subst h2 h5
 have e1:=h1.le
 have e2:=h8.le
 refine Runs.app.mpr ⟨sa,h1.out fun j _ j2=>ho j (by lia),rfl,by lia,?_,?_⟩
 ·rw [<- Nat.add_assoc];exact hs
 ·rw [<- Nat.add_assoc]
  exact h8.out fun j j1 _=>ho j (by lia)
theorem ers {p : Array (Nat × Nat × Nat)} {i : Nat} {x y v : Nat × Nat × Nat} {l1 l2 : List (Nat × Nat × Nat)} (h : p.toList = l1 ++ x :: y :: l2) (hi : l1.length = i) :
  ((p.setIfInBounds i v).eraseIdxIfInBounds (i + 1)).toList = l1 ++ v :: l2:=by
 have hz : p.size = l1.length + (l2.length + 2):=by
  have:=congrArg List.length h
  simpa using this
 have : i + 1 < (p.setIfInBounds i v).size:=by rw [Array.size_setIfInBounds];lia
 rw [Array.eraseIdxIfInBounds,dif_pos this,Array.toList_eraseIdx,Array.toList_setIfInBounds,h,List.set_append_right _ _ (by lia),show i - l1.length = 0 by lia,List.set_cons_zero,
  List.eraseIdx_append_of_length_le (by lia),show i + 1 - l1.length = 1 by lia]
 rfl
theorem split2 {p : Array (Nat × Nat × Nat)} {i : Nat} (h : i + 1 < p.size) : ∃ x y l1 l2,p.toList = l1 ++ x :: y :: l2/\l1.length = i/\p[i]? = some x/\p[i + 1]? = some y:=by
 refine ⟨p[i],p[i + 1],p.toList.take i,p.toList.drop (i + 2),?_,?_,by simp,by simp⟩
 ·conv=>lhs;rw [<- List.take_append_drop i p.toList]
  rw [List.drop_eq_getElem_cons (by simp;lia),List.drop_eq_getElem_cons (i:=i + 1) (by simp;lia)]
  rfl
 ·simp;lia
end
end TS
end
section
set_option maxHeartbeats 1000000
namespace TS
open PySem PyProof.Rows
section
variable {prog : Program} {w : World} {A : Around} {E : Value->Shared->Prop} {s : Shared} {kd : SortKind} {U : Keyed->Prop} {blt : Keyed->Keyed->Bool}
structure Bs (U : Keyed->Prop) (kd : SortKind) (a₀ : Array Keyed) (st : SortSt) : Prop where
 kd : kindOf st = kd
 fl : failedOf st = none
 pm : (arrOf st).Perm a₀
theorem Bs.stp {a₀ : Array Keyed} {st st' : SortSt} {lo hi : Nat} (b : Bs U kd a₀ st) (h : Stp lo hi st st') : Bs U kd a₀ st':=⟨h.kd.trans b.kd,h.fl.trans b.fl,h.pm.trans b.pm⟩
theorem runs_pow {a : Array Keyed} (pw : Nat) : ∀ (i : Nat) {l : List (Nat × Nat × Nat)} {b e : Nat},Runs blt a l b e->Runs blt a (l.modify i fun x=>(x.1,x.2.1,pw)) b e
 | _,[],_,_,h=>by
  rw [List.modify_nil]
  exact h
 | 0,(s,n,p) :: l,b,e,h=>h
 | i + 1,(s,n,p) :: l,b,e,⟨h1,h2,h3,h4⟩=>⟨h1,h2,h3,runs_pow pw i h4⟩
theorem wpS_mrgAt (O : Ord U blt) (hL : LtOk prog w A E s kd U blt) {a₀ : Array Keyed} (hU : AllU U a₀) {st : SortSt} {e i : Nat} {Q : Bool->SortSt->Prop} (B : Bs U kd a₀ st) (he : e<=a₀.size) (R : Runs blt (arrOf st) (pendingOf st).toList 0 e)
  (hi : i + 1 < (pendingOf st).size)
  (h : ∀ st',Bs U kd a₀ st'->Runs blt (arrOf st') (pendingOf st').toList 0 e->(pendingOf st').size + 1 = (pendingOf st).size->(∀ j,e<=j->gt (arrOf st') j = gt (arrOf st) j)->Q true st') : wpS (model prog w) A E s (mergeAt' i) Q st:=by
 obtain ⟨⟨sa,na,p⟩,⟨sb,nb,q⟩,l1,l2,e1,e2,e3,e4⟩:=split2 hi
 rw [e1] at R
 obtain ⟨r1,r2,r3,r4,r5,r6,r7⟩:=R.two
 have hz : (arrOf st).size = a₀.size:=B.pm.size_eq
 refine wpS_mergeAt O hL B.kd (allU_perm hU B.pm) B.fl e3 e4 r2 (by lia) r3 r4 r6 r7 fun st' S Z P=>?_
 have P' : (pendingOf st').toList = l1 ++ (sa,na + nb,p) :: l2:=by rw [P];exact ers e1 e2
 refine h st' (B.stp S) ?_ ?_ fun j hj=>S.out j (by lia)
 ·rw [P']
  exact R.merge S.out Z
 ·have h1:=congrArg List.length P'
  have h2:=congrArg List.length e1
  simp at h1 h2
  lia
theorem wpS_sortRuns (O : Ord U blt) (hL : LtOk prog w A E s kd U blt) {a₀ : Array Keyed} (hU : AllU U a₀) {st : SortSt} {Q : Unit->SortSt->Prop} (B : Bs U kd a₀ st) (hp : pendingOf st = #[]) (hz : 0 < a₀.size)
  (h : ∀ st',Bs U kd a₀ st'->Srt blt (arrOf st') 0 a₀.size->Q () st') : wpS (model prog w) A E s sortRuns' Q st:=by
 have sz : ∀ {st' : SortSt},Bs U kd a₀ st'->(arrOf st').size = a₀.size:=fun b=>b.pm.size_eq
 rw [sortRuns'_eq]
 refine wpS_bind (wpS_get ?_)
 dsimp only
 rw [sz B]
 generalize minRun' a₀.size a₀.size 0 = minrun
 refine wpS_bind (wpS_mono (wpS_forRange
  (I:=fun x c st'=>∃ lo,c = (none,lo)/\lo<=a₀.size/\(x<=lo\/lo = a₀.size)/\Bs U kd a₀ st'/\Runs blt (arrOf st') (pendingOf st').toList 0 lo)
  (Q:=fun c st'=>c = (none,a₀.size)/\Bs U kd a₀ st'/\Runs blt (arrOf st') (pendingOf st').toList 0 a₀.size) ?step ?fin ?init) ?post)
 case init=>exact ⟨0,rfl,Nat.zero_le _,.inl (Nat.le_refl _),B,by rw [hp];rfl⟩
 case fin=>
  rintro c st' ⟨lo,rfl,a1,a2,b,r⟩
  obtain rfl : lo = a₀.size:=by lia
  exact ⟨rfl,b,r⟩
 case step=>
  rintro x c st1 _ hx ⟨lo,rfl,a1,a2,b,r⟩
  dsimp only
  by_cases hge : lo >= a₀.size
  ·rw [if_pos hge]
   obtain rfl : lo = a₀.size:=by lia
   exact wpS_pure ⟨rfl,b,r⟩
  rw [if_neg hge]
  refine wpS_bind (wpS_countRun O hL b.kd (allU_perm hU b.pm) (by rw [sz b];lia) (by lia) fun m st2 S2 P2 m1 m2 Z2=>?_)
  dsimp only
  have b2:=b.stp S2
  have r2 : Runs blt (arrOf st2) (pendingOf st2).toList 0 lo:=by rw [P2];exact r.out fun j _ j2=>S2.out j (.inl j2)
  have rest : ∀ (n : Nat),1<=n->lo + n<=a₀.size->∀ (st4 : SortSt),Bs U kd a₀ st4->∀ l,(pendingOf st4).toList = l ++ [(lo,n,0)]->Runs blt (arrOf st4) l 0 lo->Srt blt (arrOf st4) lo (lo + n)->
    ∃ lo',((none,lo + n) : Option Unit × Nat) = (none,lo')/\lo'<=a₀.size/\(x + 1<=lo'\/lo' = a₀.size)/\Bs U kd a₀ st4/\Runs blt (arrOf st4) (pendingOf st4).toList 0 lo':=by
   intro n n1 n2 st4 b4 l e r4 z4
   refine ⟨lo + n,rfl,n2,?_,b4,?_⟩
   ·rcases a2 with a2 | a2
    ·exact .inl (by lia)
    ·lia
   ·rw [e]
    exact Runs.app.mpr ⟨lo,r4,rfl,by lia,z4,rfl⟩
  by_cases hm : m < minrun
  ·rw [if_pos hm]
   refine wpS_bind (wpS_lift (wpAny_rule ⟨rfl,?_⟩))
   refine wpS_bind (wpS_binarySort O hL b2.kd (allU_perm hU b2.pm) (by rw [sz b2];lia) (by lia) Z2 fun st3 S3 P3 Z3=>?_)
   simp only [Bool.not_true,Bool.false_eq_true,if_false]
   have b3:=b2.stp S3
   have r3 : Runs blt (arrOf st3) (pendingOf st3).toList 0 lo:=by rw [P3];exact r2.out fun j _ j2=>S3.out j (.inl j2)
   have hmm : 1<=min (a₀.size - lo) minrun/\lo + min (a₀.size - lo) minrun<=a₀.size:=⟨by lia,by lia⟩
   refine wpS_bind (wpS_get ?_)
   cases hbk : (pendingOf st3).back? with
   | none=>
    dsimp only
    refine wpS_bind (wpS_modify (wpS_pure (rest (min (a₀.size - lo) minrun) (by lia) (by lia) _ ⟨b3.kd,b3.fl,b3.pm⟩ _ ?_ r3 Z3)))
    show ((pendingOf st3).push (lo,(min (a₀.size - lo) minrun),0)).toList = _
    rw [Array.toList_push]
   | some t=>
    obtain ⟨s1,n1',pw1⟩:=t
    dsimp only
    refine wpS_bind (wpS_mono (wpS_forRange
     (I:=fun y c st'=>c = (none,())/\Bs U kd a₀ st'/\Runs blt (arrOf st') (pendingOf st').toList 0 lo/\∀ j,lo<=j->gt (arrOf st') j = gt (arrOf st3) j)
     (Q:=fun c st'=>c = (none,())/\Bs U kd a₀ st'/\Runs blt (arrOf st') (pendingOf st').toList 0 lo/\∀ j,lo<=j->gt (arrOf st') j = gt (arrOf st3) j) ?mstep (fun c st' q=>q) ⟨rfl,b3,r3,fun _ _=>rfl⟩) ?mpost)
    case mpost=>
     rintro c st4 ⟨rfl,b4,r4,o4⟩
     dsimp only
     refine wpS_bind (wpS_modify (wpS_bind (wpS_modify (wpS_pure (rest (min (a₀.size - lo) minrun) (by lia) (by lia) _ ⟨b4.kd,b4.fl,b4.pm⟩ _ ?_ (runs_pow (power' a₀.size (2 * s1 + n1') (2 * s1 + n1' + n1' + min (a₀.size - lo) minrun) a₀.size) ((pendingOf st4).size - 1) r4) (Z3.out fun j j1 j2=>o4 j j1))))))
     show (((pendingOf st4).modify _ _).push (lo,(min (a₀.size - lo) minrun),0)).toList = _
     rw [Array.toList_push,Array.toList_modify]
    case mstep=>
     rintro y c st4 _ hy ⟨rfl,b4,r4,o4⟩
     refine wpS_bind (wpS_get ?_)
     by_cases hp : (pendingOf st4).size > 1
     ·rw [if_pos hp]
      obtain ⟨t,ht⟩ : ∃ t,(pendingOf st4)[(pendingOf st4).size - 2]? = some t:=⟨_,getElem?_pos _ _ (by lia)⟩
      rw [ht]
      obtain ⟨t1,t2,older⟩:=t
      dsimp only
      split
      ·exact wpS_pure ⟨rfl,b4,r4,o4⟩
      ·refine wpS_bind (wpS_mrgAt O hL hU b4 (by lia) r4 (by lia) fun st5 b5 r5 _ o5=>?_)
       simp only [Bool.not_true,Bool.false_eq_true,if_false]
       exact wpS_pure ⟨rfl,b5,r5,fun j hj=>(o5 j hj).trans (o4 j hj)⟩
     ·rw [if_neg hp]
      exact wpS_pure ⟨rfl,b4,r4,o4⟩
  ·rw [if_neg hm]
   refine wpS_bind (wpS_get ?_)
   cases hbk : (pendingOf st2).back? with
   | none=>
    dsimp only
    refine wpS_bind (wpS_modify (wpS_pure (rest m (by lia) (by lia) _ ⟨b2.kd,b2.fl,b2.pm⟩ _ ?_ r2 Z2)))
    show ((pendingOf st2).push (lo,m,0)).toList = _
    rw [Array.toList_push]
   | some t=>
    obtain ⟨s1,n1',pw1⟩:=t
    dsimp only
    refine wpS_bind (wpS_mono (wpS_forRange
     (I:=fun y c st'=>c = (none,())/\Bs U kd a₀ st'/\Runs blt (arrOf st') (pendingOf st').toList 0 lo/\∀ j,lo<=j->gt (arrOf st') j = gt (arrOf st2) j)
     (Q:=fun c st'=>c = (none,())/\Bs U kd a₀ st'/\Runs blt (arrOf st') (pendingOf st').toList 0 lo/\∀ j,lo<=j->gt (arrOf st') j = gt (arrOf st2) j) ?mstep (fun c st' q=>q) ⟨rfl,b2,r2,fun _ _=>rfl⟩) ?mpost)
    case mpost=>
     rintro c st4 ⟨rfl,b4,r4,o4⟩
     dsimp only
     refine wpS_bind (wpS_modify (wpS_bind (wpS_modify (wpS_pure (rest m (by lia) (by lia) _ ⟨b4.kd,b4.fl,b4.pm⟩ _ ?_ (runs_pow (power' a₀.size (2 * s1 + n1') (2 * s1 + n1' + n1' + m) a₀.size) ((pendingOf st4).size - 1) r4) (Z2.out fun j j1 j2=>o4 j j1))))))
     show (((pendingOf st4).modify _ _).push (lo,m,0)).toList = _
     rw [Array.toList_push,Array.toList_modify]
    case mstep=>
     rintro y c st4 _ hy ⟨rfl,b4,r4,o4⟩
     refine wpS_bind (wpS_get ?_)
     by_cases hp : (pendingOf st4).size > 1
     ·rw [if_pos hp]
      obtain ⟨t,ht⟩ : ∃ t,(pendingOf st4)[(pendingOf st4).size - 2]? = some t:=⟨_,getElem?_pos _ _ (by lia)⟩
      rw [ht]
      obtain ⟨t1,t2,older⟩:=t
      dsimp only
      split
      ·exact wpS_pure ⟨rfl,b4,r4,o4⟩
      ·refine wpS_bind (wpS_mrgAt O hL hU b4 (by lia) r4 (by lia) fun st5 b5 r5 _ o5=>?_)
       simp only [Bool.not_true,Bool.false_eq_true,if_false]
       exact wpS_pure ⟨rfl,b5,r5,fun j hj=>(o5 j hj).trans (o4 j hj)⟩
     ·rw [if_neg hp]
      exact wpS_pure ⟨rfl,b4,r4,o4⟩
 case post=>
  rintro c st1 ⟨rfl,b,r⟩
  dsimp only
  have hle:=r.le
  rw [Array.length_toList] at hle
  refine wpS_bind (wpS_mono (wpS_forRange
   (I:=fun x c st'=>c = (none,())/\Bs U kd a₀ st'/\Runs blt (arrOf st') (pendingOf st').toList 0 a₀.size/\((pendingOf st').size + x<=a₀.size\/(pendingOf st').size<=1))
   (Q:=fun c st'=>c = (none,())/\Bs U kd a₀ st'/\Runs blt (arrOf st') (pendingOf st').toList 0 a₀.size/\(pendingOf st').size<=1) ?fstep ?ffin ?finit) ?fpost)
  case finit=>exact ⟨rfl,b,r,.inl (by lia)⟩
  case ffin=>
   rintro c st' ⟨rfl,q1,q2,q3⟩
   exact ⟨rfl,q1,q2,by lia⟩
  case fpost=>
   rintro c st' ⟨rfl,q1,q2,q3⟩
   refine wpS_pure (h st' q1 ?_)
   match hl : (pendingOf st').toList with
   | []=>rw [hl] at q2;have : 0 = a₀.size:=q2;lia
   | [(s0,n0,p0)]=>
    rw [hl] at q2
    obtain ⟨_,_,z,e⟩:=q2
    have e : 0 + n0 = a₀.size:=e
    rw [e] at z
    exact z
   | _ :: _ :: _=>
    have:=congrArg List.length hl
    rw [Array.length_toList] at this
    simp at this
    lia
  case fstep=>
   rintro x c st4 _ hx ⟨rfl,b4,r4,o4⟩
   refine wpS_bind (wpS_get ?_)
   by_cases hp1 : (pendingOf st4).size<=1
   ·rw [if_pos hp1]
    exact wpS_pure ⟨rfl,b4,r4,hp1⟩
   rw [if_neg hp1]
   refine wpS_bind (wpS_mrgAt O hL hU b4 (Nat.le_refl _) r4 ?hi fun st5 b5 r5 e5 _=>?_)
   case hi=>
    repeat' split
    all_goals lia
   simp only [Bool.not_true,Bool.false_eq_true,if_false]
   exact wpS_pure ⟨rfl,b5,r5,by lia⟩
end
end TS
end
section
namespace Mi
open PySem
inductive D where
 | undef | non | bl (b : Bool) | int (i : Int) | str (x : Str)
 | tup (xs : List D) | lst (xs : List D) | dct (kvs : List (D × D)) | scr (xs : List D) | fdc (kvs : List (D × D))
 deriving Inhabited
mutual
noncomputable def D.pure : D->Bool
 | .tup xs=>D.pures xs
 | .lst _=>false
 | .dct _=>false
 | .undef=>false
 | .scr _=>false
 | .fdc _=>false
 | _=>true
noncomputable def D.pures : List D->Bool
 | []=>true
 | x :: xs=>x.pure && D.pures xs
end
mutual
noncomputable def eqD : D->D->Bool
 | .non,.non=>true
 | .bl a,.bl b=>a == b
 | .int a,.int b=>a == b
 | .bl a,.int b=>(if a then (1 : Int) else 0) == b
 | .int a,.bl b=>a == (if b then (1 : Int) else 0)
 | .str a,.str b=>a == b
 | .tup xs,.tup ys=>eqDs xs ys
 | .lst xs,.lst ys=>eqDs xs ys
 | _,_=>false
noncomputable def eqDs : List D->List D->Bool
 | [],[]=>true
 | x :: xs,y :: ys=>eqD x y && eqDs xs ys
 | _,_=>false
end
mutual
noncomputable def D.eqok : Nat->D->Bool
 | n + 1,.tup xs=>D.eqoks n xs
 | n + 1,.lst xs=>D.eqoks n xs
 | 0,.tup _=>false
 | 0,.lst _=>false
 | _,.dct _=>false
 | _,.undef=>false
 | _,.scr _=>false
 | _,.fdc _=>false
 | _,_=>true
noncomputable def D.eqoks : Nat->List D->Bool
 | _,[]=>true
 | n,x :: xs=>D.eqok n x && D.eqoks n xs
end
inductive Ordr where | lt | le | gt | ge
 deriving DecidableEq
noncomputable def Ordr.int : Ordr->Int->Int->Bool
 | .lt,a,b=>decide (a < b) | .le,a,b=>decide (a<=b) | .gt,a,b=>decide (b < a) | .ge,a,b=>decide (b<=a)
noncomputable def Ordr.nat : Ordr->Nat->Nat->Bool
 | .lt,a,b=>decide (a < b) | .le,a,b=>decide (a<=b) | .gt,a,b=>decide (b < a) | .ge,a,b=>decide (b<=a)
noncomputable def strLt (a b : Str) : Bool:=decide (a.cps.toList < b.cps.toList)
noncomputable def Ordr.str : Ordr->Str->Str->Bool
 | .lt,a,b=>strLt a b | .le,a,b=>!strLt b a | .gt,a,b=>strLt b a | .ge,a,b=>!strLt a b
mutual
noncomputable def ordD (o : Ordr) : D->D->Option Bool
 | .int a,.int b=>some (o.int a b)
 | .str a,.str b=>some (o.str a b)
 | .tup xs,.tup ys=>ordDs o xs ys
 | _,_=>none
noncomputable def ordDs (o : Ordr) : List D->List D->Option Bool
 | [],ys=>some (o.nat 0 ys.length)
 | x :: xs,[]=>some (o.nat (x :: xs).length 0)
 | x :: xs,y :: ys=>if eqD x y then ordDs o xs ys else ordD o x y
end
inductive Res (α : Type) where
 | ok (a : α) | err (c : Str) (as : List D) | bad
noncomputable def Res.bind {α β : Type} : Res α->(α->Res β)->Res β
 | .ok a,f=>f a
 | .err c as,_=>.err c as
 | .bad,_=>.bad
noncomputable instance : Monad Res where
 pure:=.ok
 bind:=Res.bind
@[simp] theorem Res.ok_bind {α β : Type} (a : α) (f : α->Res β) : ((Res.ok a) >>= f) = f a:=rfl
@[simp] theorem Res.err_bind {α β : Type} (c : Str) (as : List D) (f : α->Res β) : ((Res.err c as : Res α) >>= f) = .err c as:=rfl
@[simp] theorem Res.bad_bind {α β : Type} (f : α->Res β) : ((Res.bad : Res α) >>= f) = .bad:=rfl
@[simp] theorem Res.pure_eq {α : Type} (a : α) : (pure a : Res α) = .ok a:=rfl
theorem Res.bind_ok {α β : Type} {m : Res α} {f : α->Res β} {b : β} (h : (m >>= f) = .ok b) : ∃ a,m = .ok a/\f a = .ok b:=by
 cases m with
 | ok a=>exact ⟨a,rfl,h⟩
 | err c as=>cases h
 | bad=>cases h
noncomputable def Res.ofOpt {α : Type} : Option α->Res α
 | some a=>.ok a
 | none=>.bad
@[simp] theorem Res.ofOpt_some {α : Type} (a : α) : Res.ofOpt (some a) = .ok a:=rfl
theorem Res.ofOpt_ok {α : Type} {o : Option α} {a : α} (h : Res.ofOpt o = .ok a) : o = some a:=by
 cases o with
 | none=>cases h
 | some b=>cases h;rfl
noncomputable def lim : Nat:=1000000
inductive Bop where | add | sub | mul | fdiv | mod | pow
 deriving DecidableEq
inductive Cop where | eq | ne | ord (o : Ordr) | isin | notin | isN | notN
 deriving DecidableEq
noncomputable def smallB (i : Int) : Bool:=decide (-(2 ^ 64) < i) && decide (i < 2 ^ 64)
noncomputable def binD : Bop->D->D->Res D
 | .add,.int a,.int b=>.ok (.int (a + b))
 | .sub,.int a,.int b=>.ok (.int (a - b))
 | .mul,.int a,.int b=>if smallB a || smallB b then .ok (.int (a * b)) else .bad
 | .fdiv,.int a,.int b=>if decide (0 < b) && decide (b < 1073741824) then .ok (.int (a / b)) else .bad
 | .mod,.int a,.int b=>if decide (0 < b) then .ok (.int (a % b)) else .bad
 | .pow,.int a,.int b=>if decide (0<=b) && decide (b<=1000000) && decide (a.natAbs < 2 ^ 64) then .ok (.int (a ^ b.toNat)) else .bad
 | .add,.str a,.str b=>if decide (a.length + b.length<=lim) then .ok (.str (a ++ b)) else .bad
 | .add,.lst a,.lst b=>if decide (a.length + b.length<=lim) && D.pures a && D.pures b then .ok (.lst (a ++ b)) else .bad
 | _,_,_=>.bad
noncomputable def truD : D->Res Bool
 | .non=>.ok false
 | .bl b=>.ok b
 | .int i=>.ok (i != 0)
 | .str x=>if decide (x.length<=lim) then .ok ((x.length : Int) != 0) else .bad
 | .tup xs=>.ok (!xs.isEmpty)
 | .lst xs=>.ok (!xs.isEmpty)
 | .dct kvs=>.ok (!kvs.isEmpty)
 | .undef=>.bad
 | .fdc _=>.bad
 | .scr xs=>.ok (!xs.isEmpty)
noncomputable def flatKey : D->Bool
 | .int _=>true
 | .str _=>true
 | _=>false
noncomputable def keyOk : D->Bool
 | .int _=>true
 | .str _=>true
 | .tup xs=>xs.all flatKey
 | _=>false
noncomputable def isTup : D->Bool
 | .tup _=>true
 | _=>false
noncomputable def lookD : List (D × D)->D->Option D
 | [],_=>none
 | (k,v) :: r,q=>if eqD k q then some v else lookD r q
noncomputable def putD : List (D × D)->D->D->List (D × D)
 | [],q,w=>[(q,w)]
 | (k,v) :: r,q,w=>if eqD k q then (k,w) :: r else (k,v) :: putD r q w
noncomputable def fitK (kvs : List (D × D)) (k : D) : Bool:=keyOk k && kvs.all (fun p=>isTup p.1 == isTup k)
noncomputable def eqdepth : Nat:=12
noncomputable def cmpD : Cop->D->D->Res D
 | .eq,a,b=>if a.eqok eqdepth && b.eqok eqdepth then .ok (.bl (eqD a b)) else .bad
 | .ne,a,b=>if a.eqok eqdepth && b.eqok eqdepth then .ok (.bl (!eqD a b)) else .bad
 | .ord o,a,b=>if a.eqok eqdepth && b.eqok eqdepth then (match ordD o a b with | some k=>.ok (.bl k) | none=>.bad) else .bad
 | .isin,a,.tup ys=>if a.eqok eqdepth && D.eqoks eqdepth ys then .ok (.bl (ys.any fun y=>eqD y a)) else .bad
 | .isin,a,.lst ys=>if a.eqok eqdepth && D.eqoks eqdepth ys then .ok (.bl (ys.any fun y=>eqD y a)) else .bad
 | .isin,a,.dct kvs=>if fitK kvs a then .ok (.bl (lookD kvs a).isSome) else .bad
 | .notin,a,.tup ys=>if a.eqok eqdepth && D.eqoks eqdepth ys then .ok (.bl (!(ys.any fun y=>eqD y a))) else .bad
 | .notin,a,.lst ys=>if a.eqok eqdepth && D.eqoks eqdepth ys then .ok (.bl (!(ys.any fun y=>eqD y a))) else .bad
 | .notin,a,.dct kvs=>if fitK kvs a then .ok (.bl (!(lookD kvs a).isSome)) else .bad
 | .isN,.scr _,.non=>.bad
 | .notN,.scr _,.non=>.bad
 | .isN,.fdc _,.non=>.bad
 | .notN,.fdc _,.non=>.bad
 | .isN,.non,.non=>.ok (.bl true)
 | .isN,a,.non=>.ok (.bl false)
 | .notN,.non,.non=>.ok (.bl false)
 | .notN,a,.non=>.ok (.bl true)
 | _,_,_=>.bad
noncomputable def ixD (n : Nat) (i : Int) : Option Nat:=if 0<=i then (if i < n then some i.toNat else none) else if -(n : Int)<=i then some (i + n).toNat else none
noncomputable def getD (d i : D) : Res D:=
 match d,i with
 | .tup xs,.int i=>Res.ofOpt ((ixD xs.length i).bind fun j=>xs[j]?)
 | .lst xs,.int i=>Res.ofOpt ((ixD xs.length i).bind fun j=>xs[j]?)
 | .scr xs,.int i=>Res.ofOpt ((ixD xs.length i).bind fun j=>xs[j]?)
 | .str x,.int i=>if decide (x.length<=lim) then Res.ofOpt (((ixD x.cps.toList.length i).bind fun j=>x.cps.toList[j]?).map fun c=>D.str ⟨#[c]⟩) else .bad
 | .dct kvs,k=>if keyOk k then Res.ofOpt (lookD kvs k) else .bad
 | .fdc kvs,k=>if keyOk k then Res.ofOpt (lookD kvs k) else .bad
 | _,_=>.bad
noncomputable def sIxD (n d : Nat) : Option Int->Nat
 | none=>d
 | some v=>if v < 0 then (max (v + (n : Int)) 0).toNat else (min v (n : Int)).toNat
noncomputable def cutD {α : Type} (xs : List α) (lo hi : Option Int) : List α:=(xs.drop (sIxD xs.length 0 lo)).take (sIxD xs.length xs.length hi - sIxD xs.length 0 lo)
inductive Ty where | int | str | bool | list | tuple | dict
 deriving DecidableEq
noncomputable def isTy : Ty->D->Res Bool
 | _,.undef=>.bad
 | _,.scr _=>.bad
 | _,.fdc _=>.bad
 | .int,.int _=>.ok true
 | .int,.bl _=>.ok true
 | .bool,.bl _=>.ok true
 | .str,.str _=>.ok true
 | .tuple,.tup _=>.ok true
 | .list,.lst _=>.ok true
 | .dict,.dct _=>.ok true
 | _,_=>.ok false
mutual
noncomputable def D.plain : D->Bool
 | .int _=>true
 | .str _=>true
 | .tup xs=>D.plains xs
 | _=>false
noncomputable def D.plains : List D->Bool
 | []=>true
 | x :: xs=>x.plain && D.plains xs
end
mutual
noncomputable def enc : D->List Int
 | .int i=>[0,i]
 | .str x=>1 :: (x.cps.toList.map (fun (c : Nat)=>(c : Int) + 1) ++ [0])
 | .tup xs=>2 :: encs xs
 | _=>[]
noncomputable def encs : List D->List Int
 | []=>[0]
 | x :: xs=>1 :: (enc x ++ encs xs)
end
noncomputable def kindD : D->Nat
 | .int _=>1
 | .str _=>2
 | .tup (.int _ :: _)=>3
 | .tup (.str _ :: _)=>4
 | .tup (.tup _ :: _)=>5
 | _=>0
noncomputable def comparable (xs : List D) : Bool:=xs.all fun a=>a.plain && a.eqok eqdepth && kindD a != 0 && kindD a == kindD (xs.headD .non) && xs.all fun b=>(ordD .lt a b).isSome
noncomputable def leE (a b : D) : Bool:=!decide (enc b < enc a)
noncomputable def sortD (xs : List D) : List D:=xs.mergeSort leE
noncomputable def bound62 (i : Int) : Bool:=decide (-(2 ^ 62)<=i) && decide (i < 2 ^ 62)
noncomputable def asB : D->Res Bool
 | .bl b=>.ok b
 | _=>.bad
noncomputable def asI : D->Res Int
 | .int i=>.ok i
 | _=>.bad
inductive Fl where
 | nx (ρ : List D) | rt (d : D) | bk (ρ : List D) | ct (ρ : List D)
noncomputable def endD : Fl->Res D
 | .rt d=>.ok d
 | .nx _=>.ok .non
 | _=>.bad
noncomputable abbrev FE:=List D->Res D
noncomputable abbrev FT:=List D->Res Bool
noncomputable abbrev FA:=List D->Res (List D)
noncomputable def bVar (i : Nat) : FE:=fun ρ=>match ρ.getD i .undef with | .undef=>.bad | d=>.ok d
noncomputable def bC (d : D) : FE:=fun _=>.ok d
noncomputable def b2 (f : D->D->Res D) (a b : FE) : FE:=fun ρ=>do let x <- a ρ;let y <- b ρ;f x y
noncomputable def b1 (f : D->Res D) (a : FE) : FE:=fun ρ=>do let x <- a ρ;f x
noncomputable def bTB (a : FE) : FT:=fun ρ=>do let x <- a ρ;asB x
noncomputable def bNot (a : FT) : FT:=fun ρ=>do let x <- a ρ;pure (!x)
noncomputable def bAnd (a b : FT) : FT:=fun ρ=>do let x <- a ρ;if x then b ρ else pure false
noncomputable def bOr (a b : FT) : FT:=fun ρ=>do let x <- a ρ;if x then pure true else b ρ
noncomputable def bNotV (a : FE) : FE:=fun ρ=>do let x <- a ρ;let k <- asB x;pure (.bl (!k))
noncomputable def bAndV (a b : FE) : FE:=fun ρ=>do let x <- a ρ;let k <- asB x;if k then b ρ else pure (.bl false)
noncomputable def bCh (f g : D->D->Res D) (a b c : FE) : FE:=fun ρ=>do let x <- a ρ;let y <- b ρ;let z <- f x y;let k <- asB z;if k then (do let u <- c ρ;g y u) else pure (.bl false)
noncomputable def bNil : FA:=fun _=>.ok []
noncomputable def bCons (a : FE) (b : FA) : FA:=fun ρ=>do let x <- a ρ;let xs <- b ρ;pure (x :: xs)
noncomputable def bTup (a : FA) : FE:=fun ρ=>do let xs <- a ρ;if decide (xs.length<=lim) then pure (.tup xs) else .bad
noncomputable def bLst (a : FA) : FE:=fun ρ=>do let xs <- a ρ;if decide (xs.length<=lim) then pure (.lst xs) else .bad
noncomputable def bCall (f : List D->Res D) (a : FA) : FE:=fun ρ=>do let xs <- a ρ;f xs
noncomputable def bSome (a : FE) : List D->Res (Option Int):=fun ρ=>do let x <- a ρ;let i <- asI x;pure (some i)
noncomputable def truN : D->Res Bool
 | .dct _=>.bad
 | .scr _=>.bad
 | .fdc _=>.bad
 | d=>truD d
noncomputable def bTr (a : FE) : FT:=fun ρ=>do let x <- a ρ;truN x
noncomputable def negD : D->Res D
 | .int i=>.ok (.int (-i))
 | _=>.bad
noncomputable def slcD : D->Option Int->Option Int->Res D
 | .lst xs,lo,hi=>if D.pures xs then .ok (.lst (cutD xs lo hi)) else .bad
 | .scr xs,lo,hi=>if D.pures xs then .ok (.lst (cutD xs lo hi)) else .bad
 | .tup xs,lo,hi=>if !D.pures xs || decide (sIxD xs.length 0 lo = 0/\sIxD xs.length xs.length hi = xs.length) then .bad else .ok (.tup (cutD xs lo hi))
 | _,_,_=>.bad
noncomputable def bSlc (a : FE) (lo hi : List D->Res (Option Int)) : FE:=fun ρ=>do let x <- a ρ;let l <- lo ρ;let h <- hi ρ;slcD x l h
noncomputable def bestD (o : Ordr) : List D->Res D
 | []=>.bad
 | x :: xs=>if ((x :: xs).all fun a=>a.eqok eqdepth && (x :: xs).all fun b=>(ordD o a b).isSome) then .ok (xs.foldl (fun m y=>if (ordD o y m).getD false then y else m) x) else .bad
noncomputable def btD (o : Ordr) (ds : List D) (i j : Nat) : Bool:=(ordD o (ds.getD i .non) (ds.getD j .non)).getD false
noncomputable def minmax (o : Ordr) : List D->Res D
 | [.lst xs]=>bestD o xs
 | [.tup xs]=>bestD o xs
 | [a,b]=>bestD o [a,b]
 | _=>.bad
noncomputable def lenD : List D->Res D
 | [.tup xs]=>.ok (.int xs.length)
 | [.lst xs]=>.ok (.int xs.length)
 | [.scr xs]=>.ok (.int xs.length)
 | [.str x]=>if decide (x.length<=lim) then .ok (.int x.length) else .bad
 | _=>.bad
noncomputable def keysD (kvs : List (D × D)) : List D:=kvs.map (·.1)
noncomputable def listD : List D->Res D
 | [.tup xs]=>if D.pures xs then .ok (.lst xs) else .bad
 | [.lst xs]=>if D.pures xs then .ok (.lst xs) else .bad
 | [.dct kvs]=>if kvs.all (fun p=>!isTup p.1) then .ok (.lst (keysD kvs)) else .bad
 | _=>.bad
noncomputable def tupleD : List D->Res D
 | [.tup xs]=>.ok (.tup xs)
 | [.lst xs]=>.ok (.tup xs)
 | _=>.bad
noncomputable def sortedD : List D->Res D
 | [.lst xs]=>if comparable xs then .ok (.lst (sortD xs)) else .bad
 | _=>.bad
noncomputable def Ty.nm : Ty->String
 | .int => "int" | .str => "str" | .bool => "bool" | .list => "list" | .tuple => "tuple" | .dict => "dict"
noncomputable def isTyD (t : Ty) (d : D) : Res D:=do let k <- isTy t d;pure (.bl k)
noncomputable def argN (n : Nat) (f : List D->Res D) : List D->Res D:=fun ds=>if decide (ds.length = n) then f ds else .bad
noncomputable abbrev FI:=List D->Res (List D × Bool)
noncomputable def itemsD : D->Res (List D)
 | .lst xs=>.ok xs
 | .tup xs=>.ok xs
 | _=>.bad
noncomputable def bItems (a : FE) (fr : Bool) : FI:=fun ρ=>do let x <- a ρ;let xs <- itemsD x;pure (xs,fr || x.pure)
noncomputable def rng1D : List D->Res (List D × Bool)
 | [.int n]=>if bound62 n then .ok ((List.range n.toNat).map fun (k : Nat)=>D.int (0 + (k : Int)),true) else .bad
 | _=>.bad
noncomputable def bThen (f : FA) (g : List D->Res (List D × Bool)) : FI:=fun ρ=>do let xs <- f ρ;g xs
noncomputable def padD (n : Nat) (ρ : List D) : List D:=(List.range n).map fun i=>ρ.getD i .undef
noncomputable def oneT : D->Res (List D):=fun d=>.ok [d]
noncomputable def cstep (n : Nat) (t : D->Res (List D)) (c : FT) (f : FE) (k : Bool) (ρ : List D) (acc : List D) (x : D) : Res (List D):=do
 let bs <- t x
 let ok <- c (padD n ρ ++ bs)
 if ok then (do
  let y <- f (padD n ρ ++ bs)
  if k || y.pure then pure (acc ++ [y]) else .bad)
 else pure acc
noncomputable def cfold (g : List D->D->Res (List D)) : List D->List D->Res (List D)
 | acc,[]=>.ok acc
 | acc,x :: xs=>do let a <- g acc x;cfold g a xs
noncomputable def bComp (n : Nat) (it : FI) (t : D->Res (List D)) (c : FT) (f : FE) (k : Bool) : FE:=fun ρ=>do
 let xs <- it ρ
 if decide (xs.1.length<=lim) then (do
  let ys <- cfold (cstep n t c f k ρ) [] xs.1
  pure (.lst ys)) else .bad
noncomputable def bTrue : FT:=fun _=>.ok true
noncomputable abbrev FS:=List D->Res Fl
noncomputable def inner : D->Bool
 | .lst xs=>D.pures xs
 | .dct kvs=>D.pures (kvs.map (·.2))
 | _=>false
noncomputable def sNil : FS:=fun ρ=>.ok (.nx ρ)
noncomputable def sSeq (f g : FS) : FS:=fun ρ=>do
 let r <- f ρ
 match r with
 | .nx ρ'=>g ρ'
 | r=>.ok r
noncomputable def sSet (o : Bool) (i : Nat) (f : FE) (k : Bool) : FS:=fun ρ=>do
 let d <- f ρ
 if (if o then k && inner d else k || d.pure) then .ok (.nx (ρ.set i d)) else .bad
noncomputable def sAl (i j : Nat) : FS:=fun ρ=>do
 let d <- bVar j ρ
 .ok (.nx (ρ.set i d))
noncomputable def sIf (c : FT) (f g : FS) : FS:=fun ρ=>do
 let k <- c ρ
 if k then f ρ else g ρ
noncomputable def sRet (f : FE) (k : Bool) : FS:=fun ρ=>do
 let d <- f ρ
 if k || d.pure then .ok (.rt d) else .bad
noncomputable def sRetV (i : Nat) : FS:=fun ρ=>do
 let d <- bVar i ρ
 .ok (.rt d)
noncomputable def sApp (i : Nat) (f : FE) : FS:=fun ρ=>do
 let d <- f ρ
 match ρ.getD i .undef with
 | .lst xs=>if decide (xs.length < lim) && d.pure then .ok (.nx (ρ.set i (.lst (xs ++ [d])))) else .bad
 | _=>.bad
noncomputable def sIns (i : Nat) (f : FE) (g : FE) : FS:=fun ρ=>do
 let j <- f ρ
 let d <- g ρ
 match ρ.getD i .undef,j with
 | .lst xs,.int j=>if decide (xs.length < lim) && d.pure && decide (0<=j) && decide (j<=xs.length) then .ok (.nx (ρ.set i (.lst (xs.take j.toNat ++ d :: xs.drop j.toNat)))) else .bad
 | _,_=>.bad
noncomputable def sPut (i : Nat) (f : FE) (g : FE) : FS:=fun ρ=>do
 let d <- g ρ
 let k <- f ρ
 match ρ.getD i .undef with
 | .dct kvs=>if decide (kvs.length < lim) && fitK kvs k && d.pure then .ok (.nx (ρ.set i (.dct (putD kvs k d)))) else .bad
 | _=>.bad
noncomputable def tg1 (i : Nat) : D->List D->Res (List D):=fun d ρ=>.ok (ρ.set i d)
noncomputable def setsD : List Nat->List D->List D->List D
 | i :: is,d :: ds,ρ=>setsD is ds (ρ.set i d)
 | _,_,ρ=>ρ
noncomputable def tgN (is : List Nat) : D->List D->Res (List D)
 | .tup ds,ρ=>if decide (ds.length = is.length) then .ok (setsD is ds ρ) else .bad
 | _,_=>.bad
noncomputable def forS (t : D->List D->Res (List D)) (body : FS) : List D->List D->Res Fl
 | [],ρ=>.ok (.nx ρ)
 | x :: xs,ρ=>do
  let ρ1 <- t x ρ
  let r <- body ρ1
  match r with
  | .nx ρ'=>forS t body xs ρ'
  | .ct ρ'=>forS t body xs ρ'
  | .bk ρ'=>.ok (.nx ρ')
  | .rt d=>.ok (.rt d)
noncomputable def sFor (it : FI) (t : D->List D->Res (List D)) (body : FS) : FS:=fun ρ=>do
 let xs <- it ρ
 if xs.2 then forS t body xs.1 ρ else .bad
noncomputable def sForV (i : Nat) (t : D->List D->Res (List D)) (body : FS) : FS:=fun ρ=>do
 let d <- bVar i ρ
 let xs <- itemsD d
 forS t body xs ρ
noncomputable def fnS (n m : Nat) (f : FS) : List D->Res D:=fun ds=>do
 let r <- f (ds ++ List.replicate (m - n) .undef)
 endD r
end Mi
end
section
namespace Mi
open PySem
mutual
theorem eqD_eq : ∀ (a b : D),a.plain = true->b.plain = true->eqD a b = true->a = b
 | .int i,.int j,_,_,h=>by rw [eqD] at h;rw [eq_of_beq h]
 | .str i,.str j,_,_,h=>by rw [eqD] at h;rw [eq_of_beq h]
 | .tup xs,.tup ys,h1,h2,h=>by
  rw [D.plain] at h1 h2
  rw [eqD] at h
  rw [eqDs_eq xs ys h1 h2 h]
 | .int _,.str _,_,_,h=>by simp [eqD] at h
 | .int _,.tup _,_,_,h=>by simp [eqD] at h
 | .str _,.int _,_,_,h=>by simp [eqD] at h
 | .str _,.tup _,_,_,h=>by simp [eqD] at h
 | .tup _,.int _,_,_,h=>by simp [eqD] at h
 | .tup _,.str _,_,_,h=>by simp [eqD] at h
 | .undef,_,h,_,_=>by simp [D.plain] at h
 | .scr _,_,h,_,_=>by simp [D.plain] at h
 | .non,_,h,_,_=>by simp [D.plain] at h
 | .bl _,_,h,_,_=>by simp [D.plain] at h
 | .lst _,_,h,_,_=>by simp [D.plain] at h
 | .dct _,_,h,_,_=>by simp [D.plain] at h
 | .int _,.undef,_,h,_=>by simp [D.plain] at h
 | .int _,.scr _,_,h,_=>by simp [D.plain] at h
 | .int _,.non,_,h,_=>by simp [D.plain] at h
 | .int _,.bl _,_,h,_=>by simp [D.plain] at h
 | .int _,.lst _,_,h,_=>by simp [D.plain] at h
 | .int _,.dct _,_,h,_=>by simp [D.plain] at h
 | .str _,.undef,_,h,_=>by simp [D.plain] at h
 | .str _,.scr _,_,h,_=>by simp [D.plain] at h
 | .str _,.non,_,h,_=>by simp [D.plain] at h
 | .str _,.bl _,_,h,_=>by simp [D.plain] at h
 | .str _,.lst _,_,h,_=>by simp [D.plain] at h
 | .str _,.dct _,_,h,_=>by simp [D.plain] at h
 | .tup _,.undef,_,h,_=>by simp [D.plain] at h
 | .tup _,.scr _,_,h,_=>by simp [D.plain] at h
 | .tup _,.non,_,h,_=>by simp [D.plain] at h
 | .tup _,.bl _,_,h,_=>by simp [D.plain] at h
 | .tup _,.lst _,_,h,_=>by simp [D.plain] at h
 | .tup _,.dct _,_,h,_=>by simp [D.plain] at h
theorem eqDs_eq : ∀ (a b : List D),D.plains a = true->D.plains b = true->eqDs a b = true->a = b
 | [],[],_,_,_=>rfl
 | x :: xs,y :: ys,h1,h2,h=>by
  rw [D.plains,Bool.and_eq_true] at h1 h2
  rw [eqDs,Bool.and_eq_true] at h
  rw [eqD_eq x y h1.1 h2.1 h.1,eqDs_eq xs ys h1.2 h2.2 h.2]
 | [],_ :: _,_,_,h=>by simp [eqDs] at h
 | _ :: _,[],_,_,h=>by simp [eqDs] at h
end
mutual
theorem eqD_self : ∀ (a : D),a.plain = true->eqD a a = true
 | .int i,_=>by simp [eqD]
 | .str i,_=>by simp [eqD]
 | .tup xs,h=>by rw [D.plain] at h;rw [eqD];exact eqDs_self xs h
 | .undef,h=>by simp [D.plain] at h
 | .scr _,h=>by simp [D.plain] at h
 | .non,h=>by simp [D.plain] at h
 | .bl _,h=>by simp [D.plain] at h
 | .lst _,h=>by simp [D.plain] at h
 | .dct _,h=>by simp [D.plain] at h
theorem eqDs_self : ∀ (a : List D),D.plains a = true->eqDs a a = true
 | [],_=>rfl
 | x :: xs,h=>by
  rw [D.plains,Bool.and_eq_true] at h
  rw [eqDs,eqD_self x h.1,eqDs_self xs h.2]
  rfl
end
theorem map_cut : ∀ (a b : List Nat) (r t : List Int),(a.map (fun (c : Nat)=>(c : Int) + 1) ++ [0]) ++ r = (b.map (fun (c : Nat)=>(c : Int) + 1) ++ [0]) ++ t->a = b/\r = t
 | [],[],r,t,h=>by simpa using h
 | [],c :: b,r,t,h=>by
  simp only [List.map_nil,List.nil_append,List.cons_append,List.map_cons,List.cons.injEq] at h
  lia
 | c :: a,[],r,t,h=>by
  simp only [List.map_nil,List.nil_append,List.cons_append,List.map_cons,List.cons.injEq] at h
  lia
 | c :: a,d :: b,r,t,h=>by
  simp only [List.cons_append,List.map_cons,List.cons.injEq] at h
  obtain ⟨e1,e2⟩:=map_cut a b r t h.2
  exact ⟨by rw [e1,show c = d by lia],e2⟩
mutual
theorem enc_cut : ∀ (a b : D) (r t : List Int),a.plain = true->b.plain = true->enc a ++ r = enc b ++ t->a = b/\r = t
 | .int i,b,r,t,_,h2,h=>by
  cases b <;> simp only [enc,D.plain,Bool.false_eq_true,List.cons_append,List.cons.injEq,List.nil_append] at h h2 <;> try omega
  ·exact ⟨by rw [h.2.1],h.2.2⟩
 | .str x,b,r,t,_,h2,h=>by
  cases b with
  | str y=>
   simp only [enc,List.cons_append,List.cons.injEq,true_and] at h
   obtain ⟨e1,e2⟩:=map_cut _ _ _ _ h
   refine ⟨?_,e2⟩
   cases x;cases y
   simp only [] at e1
   congr 2
   exact Array.toList_inj.mp e1
  | _=>simp [enc,D.plain] at h h2
 | .tup xs,b,r,t,h1,h2,h=>by
  cases b with
  | tup ys=>
   rw [D.plain] at h1 h2
   simp only [enc,List.cons_append,List.cons.injEq,true_and] at h
   obtain ⟨e1,e2⟩:=encs_cut xs ys r t h1 h2 h
   exact ⟨by rw [e1],e2⟩
  | _=>simp [enc,D.plain] at h h2
 | .undef,_,_,_,h,_,_=>by simp [D.plain] at h
 | .scr _,_,_,_,h,_,_=>by simp [D.plain] at h
 | .non,_,_,_,h,_,_=>by simp [D.plain] at h
 | .bl _,_,_,_,h,_,_=>by simp [D.plain] at h
 | .lst _,_,_,_,h,_,_=>by simp [D.plain] at h
 | .dct _,_,_,_,h,_,_=>by simp [D.plain] at h
theorem encs_cut : ∀ (a b : List D) (r t : List Int),D.plains a = true->D.plains b = true->encs a ++ r = encs b ++ t->a = b/\r = t
 | [],[],r,t,_,_,h=>by simpa [encs] using h
 | [],_ :: _,r,t,_,_,h=>by simp [encs] at h
 | _ :: _,[],r,t,_,_,h=>by simp [encs] at h
 | x :: xs,y :: ys,r,t,h1,h2,h=>by
  rw [D.plains,Bool.and_eq_true] at h1 h2
  simp only [encs,List.cons_append,List.cons.injEq,true_and,List.append_assoc] at h
  obtain ⟨e1,e2⟩:=enc_cut x y _ _ h1.1 h2.1 h
  obtain ⟨e3,e4⟩:=encs_cut xs ys r t h1.2 h2.2 e2
  exact ⟨by rw [e1,e3],e4⟩
end
theorem enc_inj {a b : D} (h1 : a.plain = true) (h2 : b.plain = true) (h : enc a = enc b) : a = b:=(enc_cut a b [] [] h1 h2 (by rw [h])).1
theorem lt_app_left (p : List Int) (r t : List Int) : p ++ r < p ++ t ↔ r < t:=by
 induction p with
 | nil=>rfl
 | cons x p ih=>rw [List.cons_append,List.cons_append,List.cons_lt_cons_iff];simp [ih]
theorem lt_app : ∀ (u v r t : List Int),(∀ z,u ++ z ≠ v)->(∀ z,v ++ z ≠ u)->(u ++ r < v ++ t ↔ u < v)
 | [],v,_,_,h,_=>absurd rfl (h v)
 | u,[],_,_,_,h=>absurd rfl (h u)
 | x :: u,y :: v,r,t,h1,h2=>by
  rw [List.cons_append,List.cons_append,List.cons_lt_cons_iff,List.cons_lt_cons_iff]
  by_cases e : x = y
  ·subst e
   have:=lt_app u v r t (fun z hz=>h1 z (by rw [List.cons_append,hz])) (fun z hz=>h2 z (by rw [List.cons_append,hz]))
   simp [this]
  ·simp [e]
theorem strs_lt : ∀ (a b : List Nat),(a.map (fun (c : Nat)=>(c : Int) + 1) ++ [0] < b.map (fun (c : Nat)=>(c : Int) + 1) ++ [0]) ↔ a < b
 | [],[]=>by simp
 | [],c :: b=>by
  simp only [List.map_nil,List.nil_append,List.map_cons,List.cons_append,List.cons_lt_cons_iff,List.nil_lt_cons,iff_true]
  left;lia
 | c :: a,[]=>by
  simp only [List.map_nil,List.nil_append,List.map_cons,List.cons_append,List.cons_lt_cons_iff,List.not_lt_nil,iff_false,not_or,not_and]
  exact ⟨by lia,fun h=>by lia⟩
 | c :: a,d :: b=>by
  simp only [List.map_cons,List.cons_append,List.cons_lt_cons_iff,strs_lt a b]
  constructor
  ·rintro (h | ⟨h,k⟩)
   ·left;lia
   ·right;exact ⟨by lia,k⟩
  ·rintro (h | ⟨h,k⟩)
   ·left;lia
   ·right;exact ⟨by lia,k⟩
mutual
theorem ord_enc : ∀ (a b : D) (k : Bool),a.plain = true->b.plain = true->ordD .lt a b = some k->k = decide (enc a < enc b)
 | .int i,.int j,k,_,_,h=>by
  rw [ordD] at h
  rw [<- Option.some.inj h]
  simp [enc,Ordr.int,List.cons_lt_cons_iff]
 | .str x,.str y,k,_,_,h=>by
  rw [ordD] at h
  rw [<- Option.some.inj h]
  have:=strs_lt x.cps.toList y.cps.toList
  simp only [enc,Ordr.str,strLt,List.cons_lt_cons_iff,true_and]
  simp [this]
 | .tup xs,.tup ys,k,h1,h2,h=>by
  rw [D.plain] at h1 h2
  rw [ordD] at h
  rw [ords_enc xs ys k h1 h2 h]
  simp [enc,List.cons_lt_cons_iff]
 | .int _,.str _,_,_,_,h=>by simp [ordD] at h
 | .int _,.tup _,_,_,_,h=>by simp [ordD] at h
 | .int _,.undef,_,_,_,h=>by simp [ordD] at h
 | .int _,.scr _,_,_,_,h=>by simp [ordD] at h
 | .int _,.non,_,_,_,h=>by simp [ordD] at h
 | .int _,.bl _,_,_,_,h=>by simp [ordD] at h
 | .int _,.lst _,_,_,_,h=>by simp [ordD] at h
 | .int _,.dct _,_,_,_,h=>by simp [ordD] at h
 | .str _,.int _,_,_,_,h=>by simp [ordD] at h
 | .str _,.tup _,_,_,_,h=>by simp [ordD] at h
 | .str _,.undef,_,_,_,h=>by simp [ordD] at h
 | .str _,.scr _,_,_,_,h=>by simp [ordD] at h
 | .str _,.non,_,_,_,h=>by simp [ordD] at h
 | .str _,.bl _,_,_,_,h=>by simp [ordD] at h
 | .str _,.lst _,_,_,_,h=>by simp [ordD] at h
 | .str _,.dct _,_,_,_,h=>by simp [ordD] at h
 | .tup _,.int _,_,_,_,h=>by simp [ordD] at h
 | .tup _,.str _,_,_,_,h=>by simp [ordD] at h
 | .tup _,.undef,_,_,_,h=>by simp [ordD] at h
 | .tup _,.scr _,_,_,_,h=>by simp [ordD] at h
 | .tup _,.non,_,_,_,h=>by simp [ordD] at h
 | .tup _,.bl _,_,_,_,h=>by simp [ordD] at h
 | .tup _,.lst _,_,_,_,h=>by simp [ordD] at h
 | .tup _,.dct _,_,_,_,h=>by simp [ordD] at h
 | .undef,_,_,h,_,_=>by simp [D.plain] at h
 | .scr _,_,_,h,_,_=>by simp [D.plain] at h
 | .non,_,_,h,_,_=>by simp [D.plain] at h
 | .bl _,_,_,h,_,_=>by simp [D.plain] at h
 | .lst _,_,_,h,_,_=>by simp [D.plain] at h
 | .dct _,_,_,h,_,_=>by simp [D.plain] at h
theorem ords_enc : ∀ (a b : List D) (k : Bool),D.plains a = true->D.plains b = true->ordDs .lt a b = some k->k = decide (encs a < encs b)
 | [],[],k,_,_,h=>by rw [ordDs] at h;rw [<- Option.some.inj h];simp [encs,Ordr.nat]
 | [],y :: ys,k,_,_,h=>by rw [ordDs] at h;rw [<- Option.some.inj h];simp [encs,Ordr.nat,List.cons_lt_cons_iff]
 | x :: xs,[],k,_,_,h=>by rw [ordDs] at h;rw [<- Option.some.inj h];simp [encs,Ordr.nat,List.cons_lt_cons_iff]
 | x :: xs,y :: ys,k,h1,h2,h=>by
  rw [D.plains,Bool.and_eq_true] at h1 h2
  rw [ordDs] at h
  simp only [encs,List.cons_lt_cons_iff,true_and,Int.lt_irrefl,false_or]
  cases e : eqD x y with
  | true=>
   rw [e,if_pos rfl] at h
   have:=eqD_eq x y h1.1 h2.1 e
   subst this
   rw [ords_enc xs ys k h1.2 h2.2 h]
   simp [lt_app_left]
  | false=>
   rw [e,if_neg (by simp)] at h
   rw [ord_enc x y k h1.1 h2.1 h]
   have hne : x ≠ y:=fun z=>by subst z;rw [eqD_self x h1.1] at e;cases e
   have:=lt_app (enc x) (enc y) (encs xs) (encs ys) (fun z hz=>hne (enc_cut x y z [] h1.1 h2.1 (by simpa using hz)).1) (fun z hz=>hne (enc_cut y x z [] h2.1 h1.1 (by simpa using hz)).1.symm)
   simp [this]
end
theorem leE_trans (a b c : D) (h1 : leE a b = true) (h2 : leE b c = true) : leE a c = true:=by
 simp only [leE,Bool.not_eq_true',decide_eq_false_iff_not] at *
 exact fun h=>by
  rcases (inferInstance : Std.Trichotomous (α:=List Int) (· < ·)) with _
  exact h1 (List.lt_of_le_of_lt (List.not_lt.mp h2) h)
theorem leE_total (a b : D) : (leE a b || leE b a) = true:=by
 simp only [leE,Bool.or_eq_true,Bool.not_eq_true',decide_eq_false_iff_not]
 by_cases h : enc b < enc a
 ·right;exact List.lt_asymm h
 ·left;exact h
theorem sortD_perm (ds : List D) : (sortD ds).Perm ds:=List.mergeSort_perm ds leE
theorem sortD_sorted (ds : List D) : (sortD ds).Pairwise fun a b=>leE a b = true:=List.pairwise_mergeSort (fun a b c=>leE_trans a b c) (fun a b=>leE_total a b) ds
theorem sorted_eq {ds es : List D} (hp : ∀ d ∈ ds,d.plain = true) (h : ds.Perm es) (h1 : ds.Pairwise fun a b=>leE a b = true) (h2 : es.Pairwise fun a b=>leE a b = true) : ds = es:=by
 refine List.Perm.eq_of_pairwise (le:=fun a b=>leE a b = true) (fun a b ha hb h1 h2=>?_) h1 h2 h
 simp only [leE,Bool.not_eq_true',decide_eq_false_iff_not] at h1 h2
 exact enc_inj (hp a ha) (hp b (h.mem_iff.mpr hb)) (List.le_antisymm h1 h2)
end Mi
end
section
set_option maxRecDepth 100000
namespace Mi
open PySem L2
class KFrag where
 K : PySem.W.Frag
variable [KFrag]
noncomputable def ScrAt (H : Hp) (a : Addr) (xs : List V) : Prop:=(∃ o,H a = some (.frz o (.lst xs)))\/
 ∃ (o : Obj) (its : Array Value) (n : Nat),KFrag.K.lookup a = some o/\o.cls = .type "list"/\o.dict = none/\o.data = .seq its n/\its.size<=sizeLine/\Vals xs its.toList
theorem ScrAt.sq {H : Hp} {a : Addr} {xs : List V} {K : PySem.W.Frag} (h : ScrAt H a xs) (hK : KFrag.K = K) : SqL K H a xs:=by
 subst hK
 rcases h with ⟨o,h⟩ | h
 ·exact .inl (.inr ⟨o,h⟩)
 ·exact .inr h
noncomputable def kD : Key->D
 | .inl i=>.int i
 | .inr x=>.str x
noncomputable def mutO : HO->Bool
 | .lst _=>true
 | .dK _=>true
 | .dT _=>true
 | _=>false
mutual
inductive Rep (P : Addr->Prop) (H : Hp) : V->D->Prop
 | non : Rep P H .non .non
 | bl (b : Bool) : Rep P H (.bl b) (.bl b)
 | int (i : Int) : Rep P H (.int i) (.int i)
 | str (x : Str) : Rep P H (.str x) (.str x)
 | tup {a : Addr} {xs : List V} {ds : List D} : H a = some (.tup xs)->Reps P H xs ds->Rep P H (.ref a) (.tup ds)
 | lst {a : Addr} {xs : List V} {ds : List D} : H a = some (.lst xs)->P a->Reps P H xs ds->Rep P H (.ref a) (.lst ds)
 | frz {a : Addr} {xs : List V} {ds : List D} : ScrAt H a xs->Reps P H xs ds->Rep P H (.ref a) (.scr ds)
 | dK {a : Addr} {kvs : List (Key × V)} {ds : List (D × D)} : H a = some (.dK kvs)->P a->RepK P H kvs ds->(kvs.map (·.1)).Nodup->Rep P H (.ref a) (.dct ds)
 | dT {a : Addr} {kvs : List (List Key × V)} {ds : List (D × D)} : H a = some (.dT kvs)->P a->RepT P H kvs ds->(kvs.map (·.1)).Nodup->Rep P H (.ref a) (.dct ds)
 | fdK {a : Addr} {o : Obj} {kvs : List (Key × V)} {ds : List (D × D)} : H a = some (.frz o (.dK kvs))->RepK P H kvs ds->(kvs.map (·.1)).Nodup->Rep P H (.ref a) (.fdc ds)
 | fdT {a : Addr} {o : Obj} {kvs : List (List Key × V)} {ds : List (D × D)} : H a = some (.frz o (.dT kvs))->RepT P H kvs ds->(kvs.map (·.1)).Nodup->Rep P H (.ref a) (.fdc ds)
inductive Reps (P : Addr->Prop) (H : Hp) : List V->List D->Prop
 | nil : Reps P H [] []
 | cons {v : V} {d : D} {vs : List V} {ds : List D} : Rep P H v d->Reps P H vs ds->Reps P H (v :: vs) (d :: ds)
inductive RepK (P : Addr->Prop) (H : Hp) : List (Key × V)->List (D × D)->Prop
 | nil : RepK P H [] []
 | cons {k : Key} {v : V} {d : D} {r : List (Key × V)} {ds : List (D × D)} : Rep P H v d->RepK P H r ds->RepK P H ((k,v) :: r) ((kD k,d) :: ds)
inductive RepT (P : Addr->Prop) (H : Hp) : List (List Key × V)->List (D × D)->Prop
 | nil : RepT P H [] []
 | cons {k : List Key} {v : V} {d : D} {r : List (List Key × V)} {ds : List (D × D)} : Rep P H v d->RepT P H r ds->RepT P H ((k,v) :: r) ((.tup (k.map kD),d) :: ds)
end
noncomputable def Keep (P : Addr->Prop) (H H' : Hp) : Prop:=∀ a o,H a = some o->(P a\/mutO o = false)->H' a = some o
theorem Keep.same {P : Addr->Prop} {H H' : Hp} (h : Same H H') : Keep P H H':=fun a o e _=>h a o e
mutual
theorem Rep.keep {P P' : Addr->Prop} {H H' : Hp} (k : Keep P H H') (m : ∀ a,P a->P' a) : ∀ {v : V} {d : D},Rep P H v d->Rep P' H' v d
 | _,_,.non=>.non
 | _,_,.bl b=>.bl b
 | _,_,.int i=>.int i
 | _,_,.str x=>.str x
 | _,_,.tup e r=>.tup (k _ _ e (.inr rfl)) (Reps.keep k m r)
 | _,_,.lst e p r=>.lst (k _ _ e (.inl p)) (m _ p) (Reps.keep k m r)
 | _,_,.frz e r=>.frz (e.imp (fun ⟨o,e⟩=>⟨o,k _ _ e (.inr rfl)⟩) id) (Reps.keep k m r)
 | _,_,.dK e p r n=>.dK (k _ _ e (.inl p)) (m _ p) (RepK.keep k m r) n
 | _,_,.dT e p r n=>.dT (k _ _ e (.inl p)) (m _ p) (RepT.keep k m r) n
 | _,_,.fdK e r n=>.fdK (k _ _ e (.inr rfl)) (RepK.keep k m r) n
 | _,_,.fdT e r n=>.fdT (k _ _ e (.inr rfl)) (RepT.keep k m r) n
theorem Reps.keep {P P' : Addr->Prop} {H H' : Hp} (k : Keep P H H') (m : ∀ a,P a->P' a) : ∀ {v : List V} {d : List D},Reps P H v d->Reps P' H' v d
 | _,_,.nil=>.nil
 | _,_,.cons r t=>.cons (Rep.keep k m r) (Reps.keep k m t)
theorem RepK.keep {P P' : Addr->Prop} {H H' : Hp} (k : Keep P H H') (m : ∀ a,P a->P' a) : ∀ {v : List (Key × V)} {d : List (D × D)},RepK P H v d->RepK P' H' v d
 | _,_,.nil=>.nil
 | _,_,.cons r t=>.cons (Rep.keep k m r) (RepK.keep k m t)
theorem RepT.keep {P P' : Addr->Prop} {H H' : Hp} (k : Keep P H H') (m : ∀ a,P a->P' a) : ∀ {v : List (List Key × V)} {d : List (D × D)},RepT P H v d->RepT P' H' v d
 | _,_,.nil=>.nil
 | _,_,.cons r t=>.cons (Rep.keep k m r) (RepT.keep k m t)
end
theorem Rep.mono {P P' : Addr->Prop} {H : Hp} {v : V} {d : D} (r : Rep P H v d) (m : ∀ a,P a->P' a) : Rep P' H v d:=r.keep (fun _ _ e _=>e) m
theorem Reps.mono {P P' : Addr->Prop} {H : Hp} {v : List V} {d : List D} (r : Reps P H v d) (m : ∀ a,P a->P' a) : Reps P' H v d:=r.keep (fun _ _ e _=>e) m
theorem Rep.same {P : Addr->Prop} {H H' : Hp} {v : V} {d : D} (r : Rep P H v d) (s : Same H H') : Rep P H' v d:=r.keep (.same s) fun _ h=>h
theorem Reps.same {P : Addr->Prop} {H H' : Hp} {v : List V} {d : List D} (r : Reps P H v d) (s : Same H H') : Reps P H' v d:=r.keep (.same s) fun _ h=>h
mutual
theorem Rep.ofPure {P P' : Addr->Prop} {H : Hp} : ∀ {v : V} {d : D},Rep P H v d->d.pure = true->Rep P' H v d
 | _,_,.non,_=>.non
 | _,_,.bl b,_=>.bl b
 | _,_,.int i,_=>.int i
 | _,_,.str x,_=>.str x
 | _,_,.tup e r,h=>.tup e (Reps.ofPure r (by rw [D.pure] at h;exact h))
 | _,_,.lst _ _ _,h=>by rw [D.pure] at h;cases h
 | _,_,.frz _ _,h=>by rw [D.pure] at h;cases h
 | _,_,.dK _ _ _ _,h=>by rw [D.pure] at h;cases h
 | _,_,.dT _ _ _ _,h=>by rw [D.pure] at h;cases h
 | _,_,.fdK _ _ _,h=>by rw [D.pure] at h;cases h
 | _,_,.fdT _ _ _,h=>by rw [D.pure] at h;cases h
theorem Reps.ofPure {P P' : Addr->Prop} {H : Hp} : ∀ {v : List V} {d : List D},Reps P H v d->D.pures d = true->Reps P' H v d
 | _,_,.nil,_=>.nil
 | _,_,.cons r t,h=>by
  rw [D.pures,Bool.and_eq_true] at h
  exact .cons (Rep.ofPure r h.1) (Reps.ofPure t h.2)
end
theorem Reps.length {P : Addr->Prop} {H : Hp} : ∀ {v : List V} {d : List D},Reps P H v d->v.length = d.length
 | _,_,.nil=>rfl
 | _,_,.cons _ t=>by rw [List.length_cons,List.length_cons,Reps.length t]
theorem Reps.get {P : Addr->Prop} {H : Hp} : ∀ {vs : List V} {ds : List D} {i : Nat} {d : D},Reps P H vs ds->ds[i]? = some d->∃ v,vs[i]? = some v/\Rep P H v d
 | _,_,_,_,.nil,e=>by simp at e
 | _,_,0,_,.cons r _,e=>by simp at e;subst e;exact ⟨_,rfl,r⟩
 | _,_,i + 1,d,.cons _ t,e=>by
  obtain ⟨v,h1,h2⟩:=Reps.get (i:=i) (d:=d) t (by simpa using e)
  exact ⟨v,by simpa using h1,h2⟩
theorem Reps.append {P : Addr->Prop} {H : Hp} : ∀ {vs ws : List V} {ds es : List D},Reps P H vs ds->Reps P H ws es->Reps P H (vs ++ ws) (ds ++ es)
 | _,_,_,_,.nil,s=>s
 | _,_,_,_,.cons r t,s=>.cons r (Reps.append t s)
theorem Reps.take {P : Addr->Prop} {H : Hp} : ∀ {vs : List V} {ds : List D} (n : Nat),Reps P H vs ds->Reps P H (vs.take n) (ds.take n)
 | _,_,0,_=>.nil
 | _,_,_ + 1,.nil=>.nil
 | _,_,n + 1,.cons r t=>.cons r (Reps.take n t)
theorem Reps.drop {P : Addr->Prop} {H : Hp} : ∀ {vs : List V} {ds : List D} (n : Nat),Reps P H vs ds->Reps P H (vs.drop n) (ds.drop n)
 | _,_,0,r=>r
 | _,_,_ + 1,.nil=>.nil
 | _,_,n + 1,.cons _ t=>Reps.drop n t
theorem Reps.snoc {P : Addr->Prop} {H : Hp} {vs : List V} {ds : List D} {v : V} {d : D} (t : Reps P H vs ds) (r : Rep P H v d) : Reps P H (vs ++ [v]) (ds ++ [d]):=t.append (.cons r .nil)
theorem Rep.undef {P : Addr->Prop} {H : Hp} {v : V} : ¬ Rep P H v .undef:=fun h=>by cases h
noncomputable abbrev All : Addr->Prop:=fun _=>True
noncomputable abbrev New (H : Hp) : Addr->Prop:=fun a=>H a = none
theorem Rep.all {P : Addr->Prop} {H : Hp} {v : V} {d : D} (r : Rep P H v d) : Rep All H v d:=r.mono fun _ _=>trivial
theorem Reps.all {P : Addr->Prop} {H : Hp} {v : List V} {d : List D} (r : Reps P H v d) : Reps All H v d:=r.mono fun _ _=>trivial
theorem Same.new {H H' : Hp} (s : Same H H') : ∀ a,New H' a->New H a:=fun a h=>s.free h
theorem Same.upd {H : Hp} {a : Addr} {o : HO} (h : H a = none) : Same H (upd H a o):=fun b u e=>by rw [upd_ne (ne_of_none e h)];exact e
noncomputable def ER (H : Hp) (σ : St) (ρ : List D) : Prop:=∀ i,ρ.getD i .undef ≠ .undef->∃ v,σ[i]? = some (some v)/\Rep All H v (ρ.getD i .undef)
theorem ER.same {H H' : Hp} {σ : St} {ρ : List D} (e : ER H σ ρ) (s : Same H H') : ER H' σ ρ:=fun i h=>by
 obtain ⟨v,h1,h2⟩:=e i h
 exact ⟨v,h1,h2.same s⟩
section
variable (cf : Nat->List D->Res D) (ff : Nat->Bool)
end
theorem PE.imp {X : Cx} {e : PySem.Expr} {t t' : TE} (h : PE X e t) (i : ∀ σ H Q,t' σ H Q->t σ H Q) : PE X e t':=fun pins s σ H Q I q=>h pins s σ H Q I (i σ H Q q)
theorem PT.imp {X : Cx} {e : PySem.Expr} {t t' : TT} (h : PT X e t) (i : ∀ σ H Q,t' σ H Q->t σ H Q) : PT X e t':=fun pins s σ H Q I q=>h pins s σ H Q I (i σ H Q q)
theorem PA.imp {X : Cx} {e : List PySem.Expr} {t t' : TA} (h : PA X e t) (i : ∀ σ H Q,t' σ H Q->t σ H Q) : PA X e t':=fun pos pins s σ H Q I q=>h pos pins s σ H Q I (i σ H Q q)
end Mi
end
section
set_option maxRecDepth 100000
namespace L2
open PySem PySem.Spec PyProof.Rows
noncomputable def hideN (own : List Str) (x : Str) : Str:=if own.contains x then x ++ (" " : Str) else x
noncomputable def clF (env : Env) : List (Str × NameKind)->List (Str × Addr)->List (Str × Addr)
 | [],acc=>acc
 | (n,k) :: r,acc=>clF env r (if k == .free then (n,(env.cells.lookup n).getD 0) :: acc else acc)
theorem closure_eq {env : Env} : ∀ (names : List (Str × NameKind)) (acc : List (Str × Addr)),(∀ y ∈ names,y.2 = .free->∃ c,env.cells.lookup y.1 = some c)->
  (forIn names acc fun x cs=>(match x with
   | (name,kind)=>if (kind == .free) = true then cellOf env name >>= fun c=>pure (ForInStep.yield ((name,c) :: cs)) else pure (ForInStep.yield cs) : Sem (ForInStep (List (Str × Addr))))) = (pure (clF env names acc) : Sem _)
 | [],acc,_=>by rw [List.forIn_nil];rfl
 | (n,k) :: r,acc,h=>by
  rw [List.forIn_cons]
  by_cases hk : (k == .free) = true
  ·have hk' : k = .free:=by simpa using hk
   obtain ⟨c,e⟩:=h (n,k) (List.mem_cons_self ..) hk'
   have e' : cellOf env n = pure c:=by
    unfold cellOf
    have e2 : env.cells.lookup n = some c:=e
    rw [e2]
   dsimp only
   rw [if_pos hk,e',pure_bind,pure_bind]
   dsimp only
   rw [closure_eq r _ fun y hy=>h y (List.mem_cons_of_mem _ hy)]
   have e2 : env.cells.lookup n = some c:=e
   simp only [clF,hk,if_true,e2,Option.getD_some]
  ·dsimp only
   rw [if_neg hk,pure_bind]
   dsimp only
   rw [closure_eq r _ fun y hy=>h y (List.mem_cons_of_mem _ hy)]
   simp only [clF,hk,Bool.false_eq_true,if_false]
theorem closure_of {env : Env} {scope : Scope} (h : ∀ y ∈ scope.names,y.2 = .free->∃ c,env.cells.lookup y.1 = some c) : closureFor scope env = pure (clF env scope.names []):=by
 unfold closureFor
 have:=closure_eq (env:=env) scope.names [] h
 simp only [bind_pure] at *
 exact this
theorem clF_sub {env : Env} : ∀ {names : List (Str × NameKind)} {acc : List (Str × Addr)} {x : Str} {c : Addr},(∀ y ∈ names,y.2 = .free->∃ c,env.cells.lookup y.1 = some c)->(∀ x c,acc.lookup x = some c->env.cells.lookup x = some c)->
  (clF env names acc).lookup x = some c->env.cells.lookup x = some c
 | [],acc,x,c,_,h,e=>h x c e
 | (n,k) :: r,acc,x,c,q,h,e=>by
  unfold clF at e
  refine clF_sub (fun y hy=>q y (List.mem_cons_of_mem _ hy)) (fun y d hy=>?_) e
  by_cases hk : (k == .free) = true
  ·rw [if_pos hk,List.lookup_cons] at hy
   obtain ⟨c',e'⟩:=q (n,k) (List.mem_cons_self ..) (by simpa using hk)
   have e2 : env.cells.lookup n = some c':=e'
   cases hyn : y == n with
   | true=>
    rw [hyn] at hy
    have : y = n:=by simpa using hyn
    subst this
    rw [e2] at hy
    simp only [Option.getD_some] at hy
    rw [e2];exact hy
   | false=>rw [hyn] at hy;exact h y d hy
  ·rw [if_neg hk] at hy
   exact h y d hy
theorem clF_acc {env : Env} : ∀ {names : List (Str × NameKind)} {acc : List (Str × Addr)} {x : Str},(∃ c,acc.lookup x = some c)->∃ c,(clF env names acc).lookup x = some c
 | [],_,_,h=>h
 | (n,k) :: r,acc,x,⟨c,h⟩=>by
  unfold clF
  refine clF_acc ?_
  by_cases hk : (k == .free) = true
  ·rw [if_pos hk,List.lookup_cons]
   cases x == n with
   | true=>exact ⟨_,rfl⟩
   | false=>exact ⟨c,h⟩
  ·rw [if_neg hk];exact ⟨c,h⟩
theorem clF_has {env : Env} : ∀ {names : List (Str × NameKind)} {acc : List (Str × Addr)} {x : Str},(x,NameKind.free) ∈ names->∃ c,(clF env names acc).lookup x = some c
 | (n,k) :: r,acc,x,h=>by
  unfold clF
  rcases List.mem_cons.mp h with e | h
  ·cases e
   refine clF_acc ?_
   rw [if_pos (by decide),List.lookup_cons]
   simp
  ·exact clF_has h
structure CompSc (N : List Str) (sc scope : Scope) (own : List Str) : Prop where
 kind : scope.kind = .function
 nocell : ∀ y ∈ scope.names,y.2 ≠ .cell
 names : ∀ y ∈ scope.names,y.2 = .local->scope.names.lookup y.1 = some .local
 free : ∀ y ∈ scope.names,y.2 = .free->sc.names.lookup y.1 = some .cell\/sc.names.lookup y.1 = some .free
 ownl : ∀ x ∈ own,scope.names.lookup x = some .local
 hid : ∀ x ∈ own,scope.names.lookup (x ++ (" " : Str)) = none
 loc : ∀ y ∈ scope.names,y.2 = .local->y.1 ∈ own\/y.1 ∉ N
structure CompCx (X X' : Cx) (scope : Scope) (own : List Str) : Prop where
 prog : X'.prog = X.prog
 w : X'.w = X.w
 K : X'.K = X.K
 mg : X'.mg = X.mg
 base : X'.base = X.base
 A : X'.A = X.A
 N : X'.N = X.N.map (hideN own) ++ own
 scope : X'.env.scope = relabel scope X.env
 calm : X'.calm = X.calm
 xe : X'.xe = fun _ _=>False
noncomputable def cxComp (X : Cx) (scope : Scope) (cl : List (Str × Addr)) (C : Addr) (own : List Str) (s₂ : Shared) (H₂ : Hp) (fp : List Addr) : Cx:=
 { X with N:=X.N.map (hideN own) ++ own,s₀:=s₂,H₀:=H₂,env:=compEnvC scope cl C X.env,outer:=X.stack,stack:=X.stack,ex:=fp,fn:=fun _=>false,pn:=[],xe:=fun _ _=>False }
theorem cxComp_ok {X : Cx} {scope : Scope} {cl : List (Str × Addr)} {C : Addr} {own : List Str} {s₂ : Shared} {H₂ : Hp} {fp : List Addr} : CompCx X (cxComp X scope cl C own s₂ H₂ fp) scope own:=
 ⟨rfl,rfl,rfl,rfl,rfl,rfl,rfl,rfl,rfl,rfl⟩
noncomputable def Ext (σ σ2 : St) : Prop:=σ2.length = σ.length/\∀ (i : Nat) v,σ[i]? = some (some v)->σ2[i]? = some (some v)
noncomputable def tComp (wi : TI) (g : TG) (tc : TT) (te : TE) (m : Nat) : TE:=fun σ H Q=>wi σ H fun J H1=>∀ p,H1 p = none->
 ∃ W : Nat->Nat->List V->Hp->Prop,(∃ n,W 0 n [] (upd H1 p (.lst [])))/\∀ i n ys H,W i n ys H->H p = some (.lst ys)/\((J.stop i H/\Q (.ref p) H)\/(J.go i H/\ys.length < sizeLine/\
  ∀ x H2,J.yld i H x H2->g x (σ ++ List.replicate m none) H2 fun σ2 H3=>Ext (σ ++ List.replicate m none) σ2/\tc σ2 H3 fun b H4=>if b = true then te σ2 H4 fun y H5=>H5 p = some (.lst ys)/\∃ n',n' < n/\W (i + 1) n' (ys ++ [y]) (upd H5 p (.lst (ys ++ [y])))
   else ∃ n',n' < n/\W (i + 1) n' ys H4))
theorem Un.but {fs ex : List Addr} {H H1 : Hp} {h h1 h' : Heap} {C : Addr} (u : Un fs ex H H1 h h1) (sb : Heap.SameBut C h1 h') (hC : h.objs.size<=C) (hx : C ∉ ex) : Un fs ex H H1 h h':=by
 have ne : ∀ b o,h.get? b = some o->b ≠ C:=fun b o e=>Nat.ne_of_lt (Nat.lt_of_lt_of_le (Heap.lt_size e) hC)
 refine ⟨fun b o e n h1 h2=>sb.extBut b o (ne b o e) (u.keep b o e n h1 h2),fun b o e n h1 h2=>?_,u.free,fun b o e h2=>?_,u.tups,u.frzs,u.tbls⟩
 ·obtain ⟨sl,q⟩:=u.slot b o e n h1 h2
  exact ⟨sl,sb.extBut b _ (ne b o e) q⟩
 ·obtain ⟨o',q⟩:=u.there b o e h2
  exact ⟨o',sb.extBut b _ (ne b o e) q⟩
theorem HOk.but {P : Program} {w : World} {H : Hp} {h h' : Heap} {C : Addr} (ok : HOk P w H h) (sb : Heap.SameBut C h h') (hC : H C = none) : HOk P w H h':=fun a o e=>by
 refine (ok a o e).stay (fun b u hb q=>sb.extBut b u ?_ q) (fun _ q=>q) fun _ _ q=>q
 intro z
 subst z
 rcases hb with z | z
 ·subst z;rw [hC] at e;cases e
 ·rw [hC] at z;cases z
section
variable {X : Cx} {scope : Scope} {own : List Str}
theorem Inv.comp {pins : List (Addr × Obj)} {σ : St} {H2 : Hp} {s2 : Shared} {fp : List Addr} {h1 : Heap} {t1 : Nat} (I : Inv X pins σ H2 s2) (S : CompSc X.N X.env.scope scope own) (hf : ∀ b ∈ fp,FpOk X pins H2 b)
  (hfx : ∀ b ∈ fp,b < s2.heap.objs.size) (hns : h1.Ns (s2.heap.objs.size + 1) (fun _=>none))
  (hk : ∀ b o,s2.heap.get? b = some o->h1.get? b = some o) (hacc : h1.get? s2.heap.objs.size = some { cls:=.type "list",data:=.seq #[] }) :
  Inv (cxComp X scope (clF X.env scope.names []) (s2.heap.objs.size + 1) own s2 H2 fp) [] (σ ++ List.replicate own.length none) (upd H2 s2.heap.objs.size (.lst [])) { s2 with heap:=h1,toks:=t1 }:=by
 have hD : H2 s2.heap.objs.size = none:=I.hok.fresh (Nat.le_refl _)
 have hC : H2 (s2.heap.objs.size + 1) = none:=I.hok.fresh (Nat.le_succ _)
 have cells : ∀ y ∈ scope.names,y.2 = .free->∃ c,X.env.cells.lookup y.1 = some c:=fun y hy hk=>I.ok.has y.1 (S.free y hy hk)
 have sub : ∀ x c,(clF X.env scope.names []).lookup x = some c->X.env.cells.lookup x = some c:=fun x c e=>clF_sub cells (fun _ _ h=>by simp at h) e
 have relk : ∀ x,(relabel scope X.env).names.lookup x = some .cell\/(relabel scope X.env).names.lookup x = some .free->(x,NameKind.free) ∈ scope.names:=by
  intro x hx
  have go : ∀ (l : List (Str × NameKind)),(∀ y ∈ l,y.2 ≠ .cell)->((l.map fun (n,k)=>if (k == NameKind.free && X.env.scope.kind == .function && X.env.kindOf n == some .cell) then (n,NameKind.cell) else (n,k)).lookup x = some .cell\/(l.map fun (n,k)=>if (k == NameKind.free && X.env.scope.kind == .function && X.env.kindOf n == some .cell) then (n,NameKind.cell) else (n,k)).lookup x = some .free)->(x,NameKind.free) ∈ l:=by
   intro l
   induction l with
   | nil=>intro _ h;rcases h with h | h <;> simp at h
   | cons p l ih=>
    obtain ⟨n,k⟩:=p
    intro nc h
    rw [List.map_cons] at h
    dsimp only at h
    by_cases hc : (k == NameKind.free && X.env.scope.kind == .function && X.env.kindOf n == some .cell) = true
    ·rw [if_pos hc] at h
     rw [List.lookup_cons] at h
     cases e : x == n with
     | true=>
      have : x = n:=by simpa using e
      subst this
      simp only [Bool.and_eq_true] at hc
      have : k = .free:=by simpa using hc.1.1
      subst this
      exact List.mem_cons_self ..
     | false=>
      rw [e] at h
      exact List.mem_cons_of_mem _ (ih (fun y hy=>nc y (List.mem_cons_of_mem _ hy)) h)
    ·rw [if_neg hc] at h
     rw [List.lookup_cons] at h
     cases e : x == n with
     | true=>
      have : x = n:=by simpa using e
      subst this
      rw [e] at h
      dsimp only at h
      rcases h with h | h
      ·exact absurd (Option.some.inj h) (nc (x,k) (List.mem_cons_self ..))
      ·have:=Option.some.inj h
       subst this
       exact List.mem_cons_self ..
     | false=>
      rw [e] at h
      exact List.mem_cons_of_mem _ (ih (fun y hy=>nc y (List.mem_cons_of_mem _ hy)) h)
  exact go scope.names S.nocell hx
 have hne : s2.heap.objs.size ≠ s2.heap.objs.size + 1:=Nat.ne_of_lt (Nat.lt_succ_self _)
 have hlt : ∀ b o,s2.heap.get? b = some o->b < s2.heap.objs.size:=fun b o e=>Heap.lt_size e
 have hstk : ∀ b ∈ frs X.stack,b < s2.heap.objs.size:=fun b hb=>by
  obtain ⟨_,o,ho,_⟩:=I.stack.mem hb
  exact hlt b o ho
 refine ⟨⟨I.mod,?_,I.ok.glob,I.ok.blt,Nat.le_succ _,fun x y c e1 e2=>I.ok.inj x y c (sub x c e1) (sub y c e2),fun x hx=>?_,fun _ _ h=>(by cases h),I.ok.hd,I.ok.frames,.inl rfl,fun b hb=>?_,fun b o e=>I.bs b o e,?_,fun b o e hb=>?_,fun b hb hz=>?_,I.stack,I.stkFree⟩,
  rfl,I.bare,Un.laid hk (Nat.le_refl _) hD,?_,fun x c e=>?_,?_,fun x c e=>?_,fun p hp=>(by simp [cxComp] at hp),?_,?_⟩
 ·exact S.kind
 ·have hx' : (relabel scope X.env).names.lookup x = some .cell\/(relabel scope X.env).names.lookup x = some .free:=hx
  exact clF_has (relk x hx')
 ·refine ⟨Nat.ne_of_lt (Nat.lt_succ_of_lt (hfx b hb)),fun x c e z=>?_⟩
  exact (hf b hb).2.2.2.2.1 x c (sub x c e) z
 ·exact Nat.le_trans I.ok.bsz I.sz
 ·rcases (hf b hb).2.2.2.1 with z | z
  ·exact I.ok.noex b o e z
  ·exact absurd (Nat.lt_of_lt_of_le (Heap.lt_size e) (Nat.le_trans I.ok.bsz z)) (Nat.lt_irrefl _)
 ·rcases List.mem_cons.mp (I.stkSub b hz) with z' | z'
  ·exact (hf b hb).2.1 z'
  ·exact (hf b hb).2.2.1 z'
 ·refine ⟨_,hns,fun i x v e1 e2 e3=>?_⟩
  have hi : i < σ.length:=by
   rcases Nat.lt_or_ge i σ.length with h | h
   ·exact h
   ·rw [List.getElem?_append_right h,List.getElem?_replicate] at e2
    split at e2 <;> cases e2
  rw [List.getElem?_append_left hi] at e2
  have hiN : i < X.N.length:=by rw [<- I.len];exact hi
  have e1' : (X.N.map (hideN own))[i]? = some x:=by
   have : (X.N.map (hideN own) ++ own)[i]? = some x:=e1
   rwa [List.getElem?_append_left (by rw [List.length_map];exact hiN)] at this
  rw [List.getElem?_map] at e1'
  obtain ⟨y,hy,ey⟩:=Option.map_eq_some_iff.mp e1'
  have hyN : y ∈ X.N:=List.mem_of_getElem? hy
  have e3' : (relabel scope X.env).names.lookup x = some .local\/(relabel scope X.env).names.lookup x = some .cell\/(relabel scope X.env).names.lookup x = some .free:=e3
  have keys : ∀ z k,(relabel scope X.env).names.lookup z = some k->∃ k',scope.names.lookup z = some k'/\(k = .local->k' = .local):=by
   intro z k
   show (scope.names.map fun (n,k)=>if (k == NameKind.free && X.env.scope.kind == .function && X.env.kindOf n == some .cell) then (n,NameKind.cell) else (n,k)).lookup z = some k->_
   generalize scope.names = l
   induction l with
   | nil=>intro h;simp at h
   | cons p l ih=>
    obtain ⟨n,k0⟩:=p
    intro h
    rw [List.map_cons] at h
    dsimp only at h
    by_cases hc : (k0 == NameKind.free && X.env.scope.kind == .function && X.env.kindOf n == some .cell) = true
    ·rw [if_pos hc,List.lookup_cons] at h
     rw [List.lookup_cons]
     cases e : z == n with
     | true=>
      rw [e] at h
      dsimp only at h
      cases h
      exact ⟨k0,rfl,fun q=>by cases q⟩
     | false=>rw [e] at h;exact ih h
    ·rw [if_neg hc,List.lookup_cons] at h
     rw [List.lookup_cons]
     cases e : z == n with
     | true=>
      rw [e] at h
      dsimp only at h
      cases h
      exact ⟨_,rfl,fun q=>q⟩
     | false=>rw [e] at h;exact ih h
  by_cases hown : own.contains y = true
  ·exfalso
   have ex : x = y ++ (" " : Str):=by rw [<- ey];unfold hideN;rw [if_pos hown]
   have hn:=S.hid y (by simpa using hown)
   rw [<- ex] at hn
   rcases e3' with q | q | q
   all_goals
    obtain ⟨k',hk',_⟩:=keys _ _ q
    rw [hn] at hk'
    cases hk'
  ·have ex : x = y:=by rw [<- ey];unfold hideN;rw [if_neg hown]
   subst ex
   rcases e3' with q | q
   ·exfalso
    obtain ⟨k',hk',hl⟩:=keys _ _ q
    have:=hl rfl
    subst this
    rcases S.loc _ (PySem.mem_of_lookup hk') rfl with z | z
    ·exact hown (by simpa using z)
    ·exact z hyN
   ·have hfr:=relk x q
    have hv:=S.free _ hfr rfl
    obtain ⟨m,_,hl⟩:=I.loc
    obtain ⟨u,ru,lk⟩:=hl i x v hy e2 (.inr hv)
    refine ⟨u,ru,.inr ⟨q,?_⟩⟩
    rcases lk with ⟨z,_⟩ | ⟨_,c,hc,o,ho,hd⟩
    ·have z' : X.env.scope.names.lookup x = some .local:=z
     rcases hv with hv | hv <;> (rw [z'] at hv;cases hv)
    ·obtain ⟨c',hc'⟩:=clF_has (env:=X.env) (acc:=[]) hfr
     have:=sub x c' hc'
     rw [hc] at this
     cases this
     exact ⟨c,hc',o,hk c o ho,hd⟩
 ·obtain ⟨v,z⟩:=I.cell x c (sub x c e)
  obtain ⟨o,ho,hd⟩:=z
  exact ⟨v,o,hk c o ho,hd⟩
 ·show upd H2 _ _ (s2.heap.objs.size + 1) = none
  rw [upd_ne (Ne.symm hne)];exact hC
 ·obtain ⟨v,o,ho,_⟩:=I.cell x c (sub x c e)
  show upd H2 _ _ c = none
  rw [upd_ne (Nat.ne_of_lt (hlt c o ho))];exact I.freeC x c (sub x c e)
 ·exact I.hok.laid hk (Nat.le_refl _) ⟨Nat.zero_le _,[],0,.nil,hacc⟩
 ·show (σ ++ List.replicate own.length none).length = (X.N.map (hideN own) ++ own).length
  rw [List.length_append,List.length_append,List.length_replicate,List.length_map,I.len]
end
section
variable {X : Cx} {scope : Scope} {own : List Str}
theorem pe_compif {elt iter tg c : Expr} {wi : TI} {g : TG} {tc : TT} {te : TE} {pos : Pos} (S : CompSc X.N X.env.scope scope own) (hcalm : X.calm = true) (hi : PI X tg iter wi)
  (hg : ∀ X',CompCx X X' scope own->PG X' tg g) (hc : ∀ X',CompCx X X' scope own->PT X' c tc) (he : ∀ X',CompCx X X' scope own->PE X' elt te)
  (hs : ∀ x,foldedSetIterable iter X.env x = pure x) : PE X (.ListComp elt [⟨tg,iter,[c],0⟩] scope pos) (tComp wi g tc te own.length):=by
 intro pins s σ H Q I h
 rw [eval_ListComp]
 have cells : ∀ y ∈ scope.names,y.2 = .free->∃ c,X.env.cells.lookup y.1 = some c:=fun y hy hk=>I.ok.has y.1 (S.free y hy hk)
 refine wpAny_comprehension_free (use:=none) rfl hs (closure_of cells) S.kind S.names (thn (hi pins s σ H _ I h) fun xv s1 h1=>thn h1 fun itv s2 h2=>?_)
 obtain ⟨it,fp,tn,J,H2,e,I2,T,st2,f2,hW⟩:=h2
 subst e
 have hD : H2 s2.heap.objs.size = none:=I2.hok.fresh (Nat.le_refl _)
 obtain ⟨W,⟨n0,w0⟩,turn⟩:=hW _ hD
 have hfx : ∀ b ∈ fp,b < s2.heap.objs.size:=fun b hb=>by
  obtain ⟨o,ho,_⟩:=T.obj 0 _ st2 b hb
  exact Heap.lt_size ho
 refine wpAny_newObj_type (wpAny_newFunctionEnv S.nocell (by intro y hy;simp at hy) (fun h₁ hns₁ hsb₁=>?_) S.kind)
 dsimp only at hns₁ hsb₁ ⊢
 have hC : (s2.heap.push { cls:=.type "list",dict:=none,data:=.seq ([] : List Value).toArray }).objs.size = s2.heap.objs.size + 1:=Heap.size_push ..
 have hne : s2.heap.objs.size ≠ s2.heap.objs.size + 1:=Nat.ne_of_lt (Nat.lt_succ_self _)
 rw [hC] at hns₁ hsb₁ ⊢
 have old : ∀ b o,s2.heap.get? b = some o->h₁.get? b = some o:=fun b o e=>hsb₁.extBut b o (Nat.ne_of_lt (Nat.lt_succ_of_lt (Heap.lt_size e))) (Heap.get?_push_of_some _ (Heap.get?_push_of_some _ e))
 have hacc : h₁.get? s2.heap.objs.size = some { cls:=.type "list",data:=.seq #[] }:=hsb₁.extBut _ _ hne (Heap.get?_push_of_some _ (Heap.get?_push_size _ rfl))
 have I4:=Inv.comp (t1:=s2.toks + ([] : List (Str × Value)).length) I2 S f2 hfx hns₁ old hacc
 generalize hX' : cxComp X scope (clF X.env scope.names []) (s2.heap.objs.size + 1) own s2 H2 fp = X' at I4
 have cc : CompCx X X' scope own:=by rw [<- hX'];exact cxComp_ok
 have eenv : X'.env = compEnvC scope (clF X.env scope.names []) (s2.heap.objs.size + 1) X.env:=by rw [<- hX'];rfl
 have eA : X'.A = X.A:=cc.A
 have ep : X'.prog = X.prog:=cc.prog
 have ew : X'.w = X.w:=cc.w
 have efs : X'.fs = frs X.stack:=by rw [<- hX'];rfl
 have eex : X'.ex = fp:=by rw [<- hX'];rfl
 have es0 : X'.s₀ = s2:=by rw [<- hX'];rfl
 have eH0 : X'.H₀ = H2:=by rw [<- hX'];rfl
 have epn : X'.pn = []:=by rw [<- hX'];rfl
 have eK : X'.K = X.K:=cc.K
 have exe:=cc.xe
 have ecalm : X'.calm = true:=cc.calm.trans hcalm
 -- the iterator's records within the block
 have fpok : ∀ {H' : Hp},(∀ b ∈ fp,H' b = none)->∀ b ∈ fp,FpOk X' [] H' b:=fun {H'} hn b hb=>by
  obtain ⟨_,f1,f3,_,f5,_⟩:=f2 b hb
  refine ⟨hn b hb,?_,?_,.inl (by rw [eex];exact hb),fun x c e=>?_,fun p hp=>by rw [epn] at hp;simp at hp⟩
  ·rw [eenv];exact Nat.ne_of_lt (Nat.lt_succ_of_lt (hfx b hb))
  ·rw [efs]
   intro z
   rcases List.mem_cons.mp (I2.stkSub b z) with z | z
   ·exact f1 z
   ·exact f3 z
  ·rw [eenv] at e
   exact f5 x c (clF_sub cells (fun _ _ h=>by simp at h) e)
 have st4 : tn 0 h₁:=T.keep _ _ _ st2 fun b _ o e=>old b o e
 have fr4 : ∀ b ∈ fp,(upd H2 s2.heap.objs.size (.lst [])) b = none:=fun b hb=>by rw [upd_ne (Nat.ne_of_lt (hfx b hb))];exact (f2 b hb).1
 have loop : ∀ s4 : Shared,s4 = { s2 with heap:=h₁,toks:=s2.toks + ([] : List (Str × Value)).length }->
   codeAny (model X.prog X.w) X.A (.compLoop (.ListComp elt [⟨tg,iter,[c],0⟩] scope pos) 0 (.ref it) (.ref s2.heap.objs.size) X'.env)
    (compPost (model X.prog X.w) X.A X.xe none (EP X pins σ Q) (.ref s2.heap.objs.size) (s2.heap.objs.size + 1)) s4:=by
  rintro s4 rfl
  refine PySem.W.kct_loop (fun n s'=>∃ i ys H',Inv X' [] (σ ++ List.replicate own.length none) H' s'/\tn i s'.heap/\(∀ b ∈ fp,H' b = none)/\W i n ys H') ?_ n0 ⟨0,[],_,I4,st4,fr4,w0⟩
  rintro n s5 ⟨i,ys,H5,I5,st5,fr5,w5⟩
  obtain ⟨hacc5,tr⟩:=turn i n ys H5 w5
  rcases tr with ⟨stop,q⟩ | ⟨go,hlen,step⟩
  ·have done:=T.done X' ep ew eK ecalm i [] s5 _ H5 (notedBy (model X.prog X.w) X.A X'.env fun e s'=>compPost (model X.prog X.w) X.A X.xe none (EP X pins σ Q) (.ref s2.heap.objs.size) (s2.heap.objs.size + 1) (.error e) s') I5 (fpok fr5) st5 stop
   rw [eA] at done
   refine thn done fun r s6 ⟨hr,I6⟩=>?_
   subst hr
   obtain ⟨m6,hn6,_⟩:=id I6.loc
   rw [eenv] at hn6
   refine ⟨m6,hn6,fun h' sb=>⟨.ref s2.heap.objs.size,H5,?_,rfl,q⟩⟩
   have u6 : Un (frs X.stack) fp H2 H5 s2.heap s6.heap:=by
    have:=I6.base
    rw [efs,eex,eH0,es0] at this
    exact this
   have hCn : H5 (s2.heap.objs.size + 1) = none:=by
    have:=I6.free
    rw [eenv] at this
    exact this
   have u7:=u6.but sb (Nat.le_succ _) (fun z=>absurd (hfx _ z) (Nat.not_lt.mpr (Nat.le_succ _)))
   have hok7 : HOk X.prog X.w H5 h':=by
    have:=I6.hok
    rw [ep,ew] at this
    exact this.but sb hCn
   have hos : s6.os = s2.os:=by have:=I6.os;rw [es0] at this;exact this
   obtain ⟨hh,gg,dd,tt,oo⟩:=s6
   obtain rfl : oo = s2.os:=hos
   have fin:=Inv.call (h':=h') (g':=gg) (d':=dd) (t':=tt) (ch:=fp) I2 u7 hok7 I6.bare fun b hb=>⟨(f2 b hb).2.2.2.1,(f2 b hb).2.1,(f2 b hb).2.2.2.2.1,(f2 b hb).2.2.2.2.2⟩
   exact fin
  ·have item:=T.item X' ep ew eK ecalm i [] s5 _ H5 (notedBy (model X.prog X.w) X.A X'.env fun e s'=>compPost (model X.prog X.w) X.A X.xe none (EP X pins σ Q) (.ref s2.heap.objs.size) (s2.heap.objs.size + 1) (.error e) s') I5 (fpok fr5) st5 go
   rw [eA] at item
   refine thn item fun r s6 ⟨u,hr,h6⟩=>?_
   subst hr
   refine thn h6 fun _ s7 ⟨x,H7,I7,r7,y7,st7,fr7⟩=>?_
   have I7':=I7.pinned (fpok fr7) (T.obj _ _ st7)
   have hg':=hg X' cc _ s7 _ H7 x u _ I7' r7 (step x H7 y7)
   rw [ep,ew,eA,exe] at hg'
   refine wpAny_mono hg' (fun _ s8 ⟨σ8,H8,I8,ext8,q8⟩=>?_) fun _ _ z=>False.elim z
   have back : ∀ {ys' : List V} {H9 : Hp} {s9 : Shared} {σ9 : St},Ext (σ ++ List.replicate own.length none) σ9->Inv X' ([] ++ pinsAt fp s7.heap) σ9 H9 s9->(∃ n',n' < n/\W (i + 1) n' ys' H9)->∃ m,m < n/\∃ i ys H',Inv X' [] (σ ++ List.replicate own.length none) H' s9/\tn i s9.heap/\(∀ b ∈ fp,H' b = none)/\W i m ys H':=by
    rintro ys' H9 s9 σ9 ex9 I9 ⟨n',hn',w9⟩
    refine ⟨n',hn',i + 1,ys',H9,(I9.weak ex9.1.symm ex9.2).unpinned,T.keep _ _ _ st7 fun b hb o e=>(I9.pin (b,o) (List.mem_append_right _ (List.mem_append_right _ (mem_pinsAt hb e)))).1,fun b hb=>?_,w9⟩
    obtain ⟨o,e,d⟩:=T.obj _ _ st7 b hb
    exact (I9.pin (b,o) (List.mem_append_right _ (List.mem_append_right _ (mem_pinsAt hb e)))).2.1
   have hc':=hc X' cc _ s8 _ H8 _ I8 q8
   rw [ep,ew,eA,exe] at hc'
   refine wpAny_mono hc' (fun b s9 ⟨H9,I9,q9⟩=>?_) fun _ _ z=>False.elim z
   cases b with
   | false=>
    simp only [Bool.false_eq_true,if_false] at q9 ⊢
    exact back ext8 I9 q9
   | true=>
    simp only [if_true] at q9 ⊢
    have he':=he X' cc _ s9 _ H9 _ I9 q9
    rw [ep,ew,eA,exe] at he'
    refine wpAny_mono he' (fun yv s10 ⟨y,H10,I10,r10,p10,q10⟩=>?_) fun _ _ z=>False.elim z
    have hm:=mt_append (X:=X') _ s10 σ8 H10 (.ref s2.heap.objs.size) [y] (.ref s2.heap.objs.size) [yv] (fun _ H11=>∃ n',n' < n/\W (i + 1) n' (ys ++ [y]) H11) I10 rfl (.cons r10 .nil) ⟨s2.heap.objs.size,ys,y,rfl,rfl,p10,hlen,q10⟩
    rw [ep,ew,eA,exe] at hm
    exact wpAny_mono hm (fun _ s11 ⟨_,H11,I11,_,q11⟩=>back ext8 I11 q11) fun _ _ z=>False.elim z
 have l4:=loop _ rfl
 rw [eenv] at l4
 exact codeAny_compStart_list l4 (T.self X.A 0 _ _ _ st4 l4)
theorem pe_comp0 {elt iter tg : Expr} {wi : TI} {g : TG} {te : TE} {pos : Pos} (S : CompSc X.N X.env.scope scope own) (hcalm : X.calm = true) (hi : PI X tg iter wi)
  (hg : ∀ X',CompCx X X' scope own->PG X' tg g) (he : ∀ X',CompCx X X' scope own->PE X' elt te)
  (hs : ∀ x,foldedSetIterable iter X.env x = pure x) : PE X (.ListComp elt [⟨tg,iter,[],0⟩] scope pos) (tComp wi g (fun _ H Q=>Q true H) te own.length):=by
 intro pins s σ H Q I h
 rw [eval_ListComp]
 have cells : ∀ y ∈ scope.names,y.2 = .free->∃ c,X.env.cells.lookup y.1 = some c:=fun y hy hk=>I.ok.has y.1 (S.free y hy hk)
 refine wpAny_comprehension_free (use:=none) rfl hs (closure_of cells) S.kind S.names (thn (hi pins s σ H _ I h) fun xv s1 h1=>thn h1 fun itv s2 h2=>?_)
 obtain ⟨it,fp,tn,J,H2,e,I2,T,st2,f2,hW⟩:=h2
 subst e
 have hD : H2 s2.heap.objs.size = none:=I2.hok.fresh (Nat.le_refl _)
 obtain ⟨W,⟨n0,w0⟩,turn⟩:=hW _ hD
 have hfx : ∀ b ∈ fp,b < s2.heap.objs.size:=fun b hb=>by
  obtain ⟨o,ho,_⟩:=T.obj 0 _ st2 b hb
  exact Heap.lt_size ho
 refine wpAny_newObj_type (wpAny_newFunctionEnv S.nocell (by intro y hy;simp at hy) (fun h₁ hns₁ hsb₁=>?_) S.kind)
 dsimp only at hns₁ hsb₁ ⊢
 have hC : (s2.heap.push { cls:=.type "list",dict:=none,data:=.seq ([] : List Value).toArray }).objs.size = s2.heap.objs.size + 1:=Heap.size_push ..
 have hne : s2.heap.objs.size ≠ s2.heap.objs.size + 1:=Nat.ne_of_lt (Nat.lt_succ_self _)
 rw [hC] at hns₁ hsb₁ ⊢
 have old : ∀ b o,s2.heap.get? b = some o->h₁.get? b = some o:=fun b o e=>hsb₁.extBut b o (Nat.ne_of_lt (Nat.lt_succ_of_lt (Heap.lt_size e))) (Heap.get?_push_of_some _ (Heap.get?_push_of_some _ e))
 have hacc : h₁.get? s2.heap.objs.size = some { cls:=.type "list",data:=.seq #[] }:=hsb₁.extBut _ _ hne (Heap.get?_push_of_some _ (Heap.get?_push_size _ rfl))
 have I4:=Inv.comp (t1:=s2.toks + ([] : List (Str × Value)).length) I2 S f2 hfx hns₁ old hacc
 generalize hX' : cxComp X scope (clF X.env scope.names []) (s2.heap.objs.size + 1) own s2 H2 fp = X' at I4
 have cc : CompCx X X' scope own:=by rw [<- hX'];exact cxComp_ok
 have eenv : X'.env = compEnvC scope (clF X.env scope.names []) (s2.heap.objs.size + 1) X.env:=by rw [<- hX'];rfl
 have eA : X'.A = X.A:=cc.A
 have ep : X'.prog = X.prog:=cc.prog
 have ew : X'.w = X.w:=cc.w
 have efs : X'.fs = frs X.stack:=by rw [<- hX'];rfl
 have eex : X'.ex = fp:=by rw [<- hX'];rfl
 have es0 : X'.s₀ = s2:=by rw [<- hX'];rfl
 have eH0 : X'.H₀ = H2:=by rw [<- hX'];rfl
 have epn : X'.pn = []:=by rw [<- hX'];rfl
 have eK : X'.K = X.K:=cc.K
 have exe:=cc.xe
 have ecalm : X'.calm = true:=cc.calm.trans hcalm
 -- the iterator's records within the block
 have fpok : ∀ {H' : Hp},(∀ b ∈ fp,H' b = none)->∀ b ∈ fp,FpOk X' [] H' b:=fun {H'} hn b hb=>by
  obtain ⟨_,f1,f3,_,f5,_⟩:=f2 b hb
  refine ⟨hn b hb,?_,?_,.inl (by rw [eex];exact hb),fun x c e=>?_,fun p hp=>by rw [epn] at hp;simp at hp⟩
  ·rw [eenv];exact Nat.ne_of_lt (Nat.lt_succ_of_lt (hfx b hb))
  ·rw [efs]
   intro z
   rcases List.mem_cons.mp (I2.stkSub b z) with z | z
   ·exact f1 z
   ·exact f3 z
  ·rw [eenv] at e
   exact f5 x c (clF_sub cells (fun _ _ h=>by simp at h) e)
 have st4 : tn 0 h₁:=T.keep _ _ _ st2 fun b _ o e=>old b o e
 have fr4 : ∀ b ∈ fp,(upd H2 s2.heap.objs.size (.lst [])) b = none:=fun b hb=>by rw [upd_ne (Nat.ne_of_lt (hfx b hb))];exact (f2 b hb).1
 have loop : ∀ s4 : Shared,s4 = { s2 with heap:=h₁,toks:=s2.toks + ([] : List (Str × Value)).length }->
   codeAny (model X.prog X.w) X.A (.compLoop (.ListComp elt [⟨tg,iter,[],0⟩] scope pos) 0 (.ref it) (.ref s2.heap.objs.size) X'.env)
    (compPost (model X.prog X.w) X.A X.xe none (EP X pins σ Q) (.ref s2.heap.objs.size) (s2.heap.objs.size + 1)) s4:=by
  rintro s4 rfl
  refine PySem.W.kcp_loop (fun n s'=>∃ i ys H',Inv X' [] (σ ++ List.replicate own.length none) H' s'/\tn i s'.heap/\(∀ b ∈ fp,H' b = none)/\W i n ys H') ?_ n0 ⟨0,[],_,I4,st4,fr4,w0⟩
  rintro n s5 ⟨i,ys,H5,I5,st5,fr5,w5⟩
  obtain ⟨hacc5,tr⟩:=turn i n ys H5 w5
  rcases tr with ⟨stop,q⟩ | ⟨go,hlen,step⟩
  ·have done:=T.done X' ep ew eK ecalm i [] s5 _ H5 (notedBy (model X.prog X.w) X.A X'.env fun e s'=>compPost (model X.prog X.w) X.A X.xe none (EP X pins σ Q) (.ref s2.heap.objs.size) (s2.heap.objs.size + 1) (.error e) s') I5 (fpok fr5) st5 stop
   rw [eA] at done
   refine thn done fun r s6 ⟨hr,I6⟩=>?_
   subst hr
   obtain ⟨m6,hn6,_⟩:=id I6.loc
   rw [eenv] at hn6
   refine ⟨m6,hn6,fun h' sb=>⟨.ref s2.heap.objs.size,H5,?_,rfl,q⟩⟩
   have u6 : Un (frs X.stack) fp H2 H5 s2.heap s6.heap:=by
    have:=I6.base
    rw [efs,eex,eH0,es0] at this
    exact this
   have hCn : H5 (s2.heap.objs.size + 1) = none:=by
    have:=I6.free
    rw [eenv] at this
    exact this
   have u7:=u6.but sb (Nat.le_succ _) (fun z=>absurd (hfx _ z) (Nat.not_lt.mpr (Nat.le_succ _)))
   have hok7 : HOk X.prog X.w H5 h':=by
    have:=I6.hok
    rw [ep,ew] at this
    exact this.but sb hCn
   have hos : s6.os = s2.os:=by have:=I6.os;rw [es0] at this;exact this
   obtain ⟨hh,gg,dd,tt,oo⟩:=s6
   obtain rfl : oo = s2.os:=hos
   have fin:=Inv.call (h':=h') (g':=gg) (d':=dd) (t':=tt) (ch:=fp) I2 u7 hok7 I6.bare fun b hb=>⟨(f2 b hb).2.2.2.1,(f2 b hb).2.1,(f2 b hb).2.2.2.2.1,(f2 b hb).2.2.2.2.2⟩
   exact fin
  ·have item:=T.item X' ep ew eK ecalm i [] s5 _ H5 (notedBy (model X.prog X.w) X.A X'.env fun e s'=>compPost (model X.prog X.w) X.A X.xe none (EP X pins σ Q) (.ref s2.heap.objs.size) (s2.heap.objs.size + 1) (.error e) s') I5 (fpok fr5) st5 go
   rw [eA] at item
   refine thn item fun r s6 ⟨u,hr,h6⟩=>?_
   subst hr
   refine thn h6 fun _ s7 ⟨x,H7,I7,r7,y7,st7,fr7⟩=>?_
   have I7':=I7.pinned (fpok fr7) (T.obj _ _ st7)
   have hg':=hg X' cc _ s7 _ H7 x u _ I7' r7 (step x H7 y7)
   rw [ep,ew,eA,exe] at hg'
   refine wpAny_mono hg' (fun _ s8 ⟨σ8,H8,I8,ext8,q8⟩=>?_) fun _ _ z=>False.elim z
   have back : ∀ {ys' : List V} {H9 : Hp} {s9 : Shared} {σ9 : St},Ext (σ ++ List.replicate own.length none) σ9->Inv X' ([] ++ pinsAt fp s7.heap) σ9 H9 s9->(∃ n',n' < n/\W (i + 1) n' ys' H9)->∃ m,m < n/\∃ i ys H',Inv X' [] (σ ++ List.replicate own.length none) H' s9/\tn i s9.heap/\(∀ b ∈ fp,H' b = none)/\W i m ys H':=by
    rintro ys' H9 s9 σ9 ex9 I9 ⟨n',hn',w9⟩
    refine ⟨n',hn',i + 1,ys',H9,(I9.weak ex9.1.symm ex9.2).unpinned,T.keep _ _ _ st7 fun b hb o e=>(I9.pin (b,o) (List.mem_append_right _ (List.mem_append_right _ (mem_pinsAt hb e)))).1,fun b hb=>?_,w9⟩
    obtain ⟨o,e,d⟩:=T.obj _ _ st7 b hb
    exact (I9.pin (b,o) (List.mem_append_right _ (List.mem_append_right _ (mem_pinsAt hb e)))).2.1
   simp only [if_true] at q8
   have he':=he X' cc _ s8 _ H8 _ I8 q8
   rw [ep,ew,eA,exe] at he'
   refine wpAny_mono he' (fun yv s10 ⟨y,H10,I10,r10,p10,q10⟩=>?_) fun _ _ z=>False.elim z
   have hm:=mt_append (X:=X') _ s10 σ8 H10 (.ref s2.heap.objs.size) [y] (.ref s2.heap.objs.size) [yv] (fun _ H11=>∃ n',n' < n/\W (i + 1) n' (ys ++ [y]) H11) I10 rfl (.cons r10 .nil) ⟨s2.heap.objs.size,ys,y,rfl,rfl,p10,hlen,q10⟩
   rw [ep,ew,eA,exe] at hm
   exact wpAny_mono hm (fun _ s11 ⟨_,H11,I11,_,q11⟩=>back ext8 I11 q11) fun _ _ z=>False.elim z
 have l4:=loop _ rfl
 rw [eenv] at l4
 exact codeAny_compStart_list l4 (T.self X.A 0 _ _ _ st4 l4)
end
end L2
end
section
set_option maxRecDepth 100000
namespace Mi
open PySem L2 PySem.SeqAt
variable [KFrag]
theorem fst_of {X : Cx} {pins : List (Addr × Obj)} {σ : St} {H : Hp} {s : Shared} {a : Addr} {xs : List V} (I : Inv X pins σ H s) (e : H a = some (.tup xs)) : ∃ its : List Value,Vals xs its/\s.heap.IsTuple a its.toArray:=by
 obtain ⟨_,its,r,p⟩ : xs.length<=sizeLine/\∃ its : List Value,Vals xs its/\IsTupN s.heap a its.toArray:=I.hok a _ e
 exact ⟨its,r,p.tup⟩
theorem lst_of {X : Cx} {pins : List (Addr × Obj)} {σ : St} {H : Hp} {s : Shared} {a : Addr} {xs : List V} (I : Inv X pins σ H s) (e : SqL X.K H a xs) : ∃ its : List Value,Vals xs its/\s.heap.IsList a its.toArray:=by
 obtain ⟨its,r,p,_⟩:=I.list e
 exact ⟨its,r,p.isList⟩
theorem Rep.lstAt {P : Addr->Prop} {H : Hp} {K : PySem.W.Frag} {v : V} {ds : List D} (r : Rep P H v (.lst ds)) : ∃ a xs,v = .ref a/\SqL K H a xs/\Reps P H xs ds:=by
 cases r with
 | lst e p r=>exact ⟨_,_,rfl,.inl (.inl e),r⟩
theorem Rep.tupAt {P : Addr->Prop} {H : Hp} {v : V} {ds : List D} (r : Rep P H v (.tup ds)) : ∃ a xs,v = .ref a/\H a = some (.tup xs)/\Reps P H xs ds:=by
 cases r with
 | tup e r=>exact ⟨_,_,rfl,e,r⟩
mutual
theorem eqD_refl : ∀ (n : Nat) (d : D),d.eqok n = true->eqD d d = true
 | _,.non,_=>rfl
 | _,.bl b,_=>by simp [eqD]
 | _,.int i,_=>by simp [eqD]
 | _,.str x,_=>by simp [eqD]
 | n + 1,.tup xs,h=>by rw [D.eqok] at h;rw [eqD];exact eqDs_refl n xs h
 | n + 1,.lst xs,h=>by rw [D.eqok] at h;rw [eqD];exact eqDs_refl n xs h
 | 0,.tup xs,h=>by simp [D.eqok] at h
 | 0,.lst xs,h=>by simp [D.eqok] at h
 | n,.dct _,h=>by cases n <;> simp [D.eqok] at h
 | n,.undef,h=>by cases n <;> simp [D.eqok] at h
 | n,.scr _,h=>by cases n <;> simp [D.eqok] at h
 | n,.fdc _,h=>by cases n <;> simp [D.eqok] at h
theorem eqDs_refl : ∀ (n : Nat) (ds : List D),D.eqoks n ds = true->eqDs ds ds = true
 | _,[],_=>rfl
 | n,d :: ds,h=>by
  rw [D.eqoks,Bool.and_eq_true] at h
  rw [eqDs,eqD_refl n d h.1,eqDs_refl n ds h.2]
  rfl
end
mutual
theorem Rep.inj {P P' : Addr->Prop} {H : Hp} : ∀ (n : Nat) {v : V} {d e : D},d.eqok n = true->e.eqok n = true->Rep P H v d->Rep P' H v e->d = e
 | _,_,_,_,_,_,.non,.non=>rfl
 | _,_,_,_,_,_,.bl _,.bl _=>rfl
 | _,_,_,_,_,_,.int _,.int _=>rfl
 | _,_,_,_,_,_,.str _,.str _=>rfl
 | n + 1,_,.tup ds,_,h,h',.tup e1 r1,q=>by
  cases q with
  | tup e2 r2=>
   rw [e1] at e2;cases e2
   rw [D.eqok] at h h'
   rw [Reps.inj n h h' r1 r2]
  | lst e2 _ _=>rw [e1] at e2;cases e2
  | frz e2 _=>simp [D.eqok] at h'
  | fdK e2 _ _=>simp [D.eqok] at h'
  | fdT e2 _ _=>simp [D.eqok] at h'
  | dK e2 _ _ _=>rw [e1] at e2;cases e2
  | dT e2 _ _ _=>rw [e1] at e2;cases e2
 | n + 1,_,.lst ds,_,h,h',.lst e1 p r1,q=>by
  cases q with
  | tup e2 r2=>rw [e1] at e2;cases e2
  | lst e2 _ r2=>
   rw [e1] at e2;cases e2
   rw [D.eqok] at h h'
   rw [Reps.inj n h h' r1 r2]
  | frz e2 _=>simp [D.eqok] at h'
  | fdK e2 _ _=>simp [D.eqok] at h'
  | fdT e2 _ _=>simp [D.eqok] at h'
  | dK e2 _ _ _=>rw [e1] at e2;cases e2
  | dT e2 _ _ _=>rw [e1] at e2;cases e2
 | 0,_,.tup ds,_,h,_,_,_=>by simp [D.eqok] at h
 | 0,_,.lst ds,_,h,_,_,_=>by simp [D.eqok] at h
 | n,_,.dct _,_,h,_,_,_=>by cases n <;> simp [D.eqok] at h
 | n,_,.scr _,_,h,_,_,_=>by cases n <;> simp [D.eqok] at h
 | n,_,.fdc _,_,h,_,_,_=>by cases n <;> simp [D.eqok] at h
theorem Reps.inj {P P' : Addr->Prop} {H : Hp} : ∀ (n : Nat) {v : List V} {d e : List D},D.eqoks n d = true->D.eqoks n e = true->Reps P H v d->Reps P' H v e->d = e
 | _,_,_,_,_,_,.nil,.nil=>rfl
 | n,_,_,_,h,h',.cons r t,.cons r' t'=>by
  rw [D.eqoks,Bool.and_eq_true] at h h'
  rw [Rep.inj n h.1 h'.1 r r',Reps.inj n h.2 h'.2 t t']
end
theorem eqDs_range : ∀ (xs ys : List D),eqDs xs ys = ((List.range (min xs.length ys.length)).all (fun j=>eqD (xs.getD j .non) (ys.getD j .non)) && xs.length == ys.length)
 | [],[]=>by simp [eqDs]
 | [],y :: ys=>by simp [eqDs]
 | x :: xs,[]=>by simp [eqDs]
 | x :: xs,y :: ys=>by
  have e : min (x :: xs).length (y :: ys).length = min xs.length ys.length + 1:=by simp only [List.length_cons];lia
  rw [eqDs,eqDs_range xs ys,e,List.range_succ_eq_map,List.all_cons,List.all_map,Bool.and_assoc]
  congr 1
  simp [Function.comp_def]
theorem eqoks_get {n : Nat} : ∀ {ds : List D} {j : Nat},D.eqoks n ds = true->j < ds.length->(ds.getD j .non).eqok n = true
 | [],j,_,h=>by simp at h
 | d :: ds,0,h,_=>by rw [D.eqoks,Bool.and_eq_true] at h;exact h.1
 | d :: ds,j + 1,h,hj=>by
  rw [D.eqoks,Bool.and_eq_true] at h
  simpa using eqoks_get (ds:=ds) (j:=j) h.2 (by simpa using hj)
theorem Reps.getD {P : Addr->Prop} {H : Hp} {vs : List V} {ds : List D} {j : Nat} (r : Reps P H vs ds) (hj : j < ds.length) : ∃ v,vs[j]? = some v/\Rep P H v (ds.getD j .non):=by
 obtain ⟨v,h1,h2⟩:=r.get (i:=j) (d:=ds.getD j .non) (by simp [hj])
 exact ⟨v,h1,h2⟩
section
variable {X : Cx} {pins : List (Addr × Obj)} {σ : St} {H : Hp} {s : Shared}
theorem rep_eq (I : Inv X pins σ H s) : ∀ (n : Nat) (A : Around) {x y : V} {a b : D} {u v : Value},A.units + n < cLine->a.eqok n = true->b.eqok n = true->Rep All H x a->Rep All H y b->RelV x u->RelV y v->
  RcAt A s u v (eqD a b)/\RcNeAt A s u v (!eqD a b)/\EqAt A s u v (eqD a b):=by
 intro n
 induction n with
 | zero=>
  intro A x y a b u v hu ha hb rx ry ru rv
  cases rx with
  | non=>
   cases ru
   cases ry with
   | non=>cases rv;exact ⟨RcAt.none_none,RcNeAt.none_none,EqAt.same _⟩
   | bl _=>cases rv;exact ⟨RcAt.none_bool _,RcNeAt.none_bool _,EqAt.none_bool _⟩
   | int _=>obtain ⟨t,rfl⟩:=rv;exact ⟨RcAt.none_int _ _,RcNeAt.none_int _ _,EqAt.none_int _ _⟩
   | str _=>obtain ⟨t,rfl⟩:=rv;exact ⟨RcAt.none_str _ _,RcNeAt.none_str _ _,EqAt.none_str _ _⟩
   | _=>simp [D.eqok] at hb
  | bl _=>
   cases ru
   cases ry with
   | non=>cases rv;exact ⟨RcAt.bool_none _,RcNeAt.bool_none _,EqAt.bool_none _⟩
   | bl _=>cases rv;exact ⟨RcAt.bool_bool _ _,RcNeAt.bool_bool _ _,EqAt.bool_bool _ _⟩
   | int _=>obtain ⟨t,rfl⟩:=rv;exact ⟨RcAt.bool_int _ _ _,RcNeAt.bool_int _ _ _,EqAt.bool_int _ _ _⟩
   | str _=>obtain ⟨t,rfl⟩:=rv;exact ⟨RcAt.bool_str _ _ _,RcNeAt.bool_str _ _ _,EqAt.bool_str _ _ _⟩
   | _=>simp [D.eqok] at hb
  | int _=>
   obtain ⟨t,rfl⟩:=ru
   cases ry with
   | non=>cases rv;exact ⟨RcAt.int_none _ _,RcNeAt.int_none _ _,EqAt.int_none _ _⟩
   | bl _=>cases rv;exact ⟨RcAt.int_bool _ _ _,RcNeAt.int_bool _ _ _,EqAt.int_bool _ _ _⟩
   | int _=>obtain ⟨t',rfl⟩:=rv;exact ⟨RcAt.int_int _ _ _ _,RcNeAt.int_int _ _ _ _,EqAt.int_int _ _ _ _⟩
   | str _=>obtain ⟨t',rfl⟩:=rv;exact ⟨RcAt.int_str _ _ _ _,RcNeAt.int_str _ _ _ _,EqAt.int_str _ _ _ _⟩
   | _=>simp [D.eqok] at hb
  | str _=>
   obtain ⟨t,rfl⟩:=ru
   cases ry with
   | non=>cases rv;exact ⟨RcAt.str_none _ _,RcNeAt.str_none _ _,EqAt.str_none _ _⟩
   | bl _=>cases rv;exact ⟨RcAt.str_bool _ _ _,RcNeAt.str_bool _ _ _,EqAt.str_bool _ _ _⟩
   | int _=>obtain ⟨t',rfl⟩:=rv;exact ⟨RcAt.str_int _ _ _ _,RcNeAt.str_int _ _ _ _,EqAt.str_int _ _ _ _⟩
   | str _=>obtain ⟨t',rfl⟩:=rv;exact ⟨RcAt.str_str _ _ _ _,RcNeAt.str_str _ _ _ _,EqAt.str_str _ _ _ _⟩
   | _=>simp [D.eqok] at hb
  | _=>simp [D.eqok] at ha
 | succ n ih=>
  intro A x y a b u v hu ha hb rx ry ru rv
  have hu0 : A.units < cLine:=by lia
  have hu1 : A.in1.units + n < cLine:=by show A.units + 1 + n < cLine;lia
  cases a with
  | undef=>exact absurd rx Rep.undef
  | dct _=>simp [D.eqok] at ha
  | scr _=>simp [D.eqok] at ha
  | fdc _=>simp [D.eqok] at ha
  | non=>
   cases rx;cases ru
   cases b with
   | undef=>exact absurd ry Rep.undef
   | dct _=>simp [D.eqok] at hb
   | scr _=>simp [D.eqok] at hb
   | fdc _=>simp [D.eqok] at hb
   | non=>cases ry;cases rv;exact ⟨RcAt.none_none,RcNeAt.none_none,EqAt.same _⟩
   | bl _=>cases ry;cases rv;exact ⟨RcAt.none_bool _,RcNeAt.none_bool _,EqAt.none_bool _⟩
   | int _=>cases ry;obtain ⟨t2,rfl⟩:=rv;exact ⟨RcAt.none_int _ _,RcNeAt.none_int _ _,EqAt.none_int _ _⟩
   | str _=>cases ry;obtain ⟨t2,rfl⟩:=rv;exact ⟨RcAt.none_str _ _,RcNeAt.none_str _ _,EqAt.none_str _ _⟩
   | tup es=>
    obtain ⟨q,ys,rfl,e2,r2⟩:=ry.tupAt
    cases rv
    obtain ⟨its2,vr2,h2⟩:=fst_of I e2
    exact ⟨RcAt.none_tuple h2 hu0,RcNeAt.none_tuple h2 hu0,EqAt.none_tuple h2 hu0⟩
   | lst es=>
    obtain ⟨q,ys,rfl,e2,r2⟩:=ry.lstAt (K:=X.K)
    cases rv
    obtain ⟨its2,vr2,h2⟩:=lst_of I e2
    exact ⟨RcAt.none_list h2 hu0,RcNeAt.none_list h2 hu0,EqAt.none_list h2 hu0⟩
  | bl _=>
   cases rx;cases ru
   cases b with
   | undef=>exact absurd ry Rep.undef
   | dct _=>simp [D.eqok] at hb
   | scr _=>simp [D.eqok] at hb
   | fdc _=>simp [D.eqok] at hb
   | non=>cases ry;cases rv;exact ⟨RcAt.bool_none _,RcNeAt.bool_none _,EqAt.bool_none _⟩
   | bl _=>cases ry;cases rv;exact ⟨RcAt.bool_bool _ _,RcNeAt.bool_bool _ _,EqAt.bool_bool _ _⟩
   | int _=>cases ry;obtain ⟨t2,rfl⟩:=rv;exact ⟨RcAt.bool_int _ _ _,RcNeAt.bool_int _ _ _,EqAt.bool_int _ _ _⟩
   | str _=>cases ry;obtain ⟨t2,rfl⟩:=rv;exact ⟨RcAt.bool_str _ _ _,RcNeAt.bool_str _ _ _,EqAt.bool_str _ _ _⟩
   | tup es=>
    obtain ⟨q,ys,rfl,e2,r2⟩:=ry.tupAt
    cases rv
    obtain ⟨its2,vr2,h2⟩:=fst_of I e2
    exact ⟨RcAt.bool_tuple _ h2 hu0,RcNeAt.bool_tuple _ h2 hu0,EqAt.bool_tuple _ h2 hu0⟩
   | lst es=>
    obtain ⟨q,ys,rfl,e2,r2⟩:=ry.lstAt (K:=X.K)
    cases rv
    obtain ⟨its2,vr2,h2⟩:=lst_of I e2
    exact ⟨RcAt.bool_list _ h2 hu0,RcNeAt.bool_list _ h2 hu0,EqAt.bool_list _ h2 hu0⟩
  | int _=>
   cases rx;obtain ⟨t1,rfl⟩:=ru
   cases b with
   | undef=>exact absurd ry Rep.undef
   | dct _=>simp [D.eqok] at hb
   | scr _=>simp [D.eqok] at hb
   | fdc _=>simp [D.eqok] at hb
   | non=>cases ry;cases rv;exact ⟨RcAt.int_none _ _,RcNeAt.int_none _ _,EqAt.int_none _ _⟩
   | bl _=>cases ry;cases rv;exact ⟨RcAt.int_bool _ _ _,RcNeAt.int_bool _ _ _,EqAt.int_bool _ _ _⟩
   | int _=>cases ry;obtain ⟨t2,rfl⟩:=rv;exact ⟨RcAt.int_int _ _ _ _,RcNeAt.int_int _ _ _ _,EqAt.int_int _ _ _ _⟩
   | str _=>cases ry;obtain ⟨t2,rfl⟩:=rv;exact ⟨RcAt.int_str _ _ _ _,RcNeAt.int_str _ _ _ _,EqAt.int_str _ _ _ _⟩
   | tup es=>
    obtain ⟨q,ys,rfl,e2,r2⟩:=ry.tupAt
    cases rv
    obtain ⟨its2,vr2,h2⟩:=fst_of I e2
    exact ⟨RcAt.int_tuple _ _ h2 hu0,RcNeAt.int_tuple _ _ h2 hu0,EqAt.int_tuple _ _ h2 hu0⟩
   | lst es=>
    obtain ⟨q,ys,rfl,e2,r2⟩:=ry.lstAt (K:=X.K)
    cases rv
    obtain ⟨its2,vr2,h2⟩:=lst_of I e2
    exact ⟨RcAt.int_list _ _ h2 hu0,RcNeAt.int_list _ _ h2 hu0,EqAt.int_list _ _ h2 hu0⟩
  | str _=>
   cases rx;obtain ⟨t1,rfl⟩:=ru
   cases b with
   | undef=>exact absurd ry Rep.undef
   | dct _=>simp [D.eqok] at hb
   | scr _=>simp [D.eqok] at hb
   | fdc _=>simp [D.eqok] at hb
   | non=>cases ry;cases rv;exact ⟨RcAt.str_none _ _,RcNeAt.str_none _ _,EqAt.str_none _ _⟩
   | bl _=>cases ry;cases rv;exact ⟨RcAt.str_bool _ _ _,RcNeAt.str_bool _ _ _,EqAt.str_bool _ _ _⟩
   | int _=>cases ry;obtain ⟨t2,rfl⟩:=rv;exact ⟨RcAt.str_int _ _ _ _,RcNeAt.str_int _ _ _ _,EqAt.str_int _ _ _ _⟩
   | str _=>cases ry;obtain ⟨t2,rfl⟩:=rv;exact ⟨RcAt.str_str _ _ _ _,RcNeAt.str_str _ _ _ _,EqAt.str_str _ _ _ _⟩
   | tup es=>
    obtain ⟨q,ys,rfl,e2,r2⟩:=ry.tupAt
    cases rv
    obtain ⟨its2,vr2,h2⟩:=fst_of I e2
    exact ⟨RcAt.str_tuple _ _ h2 hu0,RcNeAt.str_tuple _ _ h2 hu0,EqAt.str_tuple _ _ h2 hu0⟩
   | lst es=>
    obtain ⟨q,ys,rfl,e2,r2⟩:=ry.lstAt (K:=X.K)
    cases rv
    obtain ⟨its2,vr2,h2⟩:=lst_of I e2
    exact ⟨RcAt.str_list _ _ h2 hu0,RcNeAt.str_list _ _ h2 hu0,EqAt.str_list _ _ h2 hu0⟩
  | tup ds=>
   obtain ⟨p,xs,rfl,e1,r1⟩:=rx.tupAt
   cases ru
   obtain ⟨its1,vr1,h1⟩:=fst_of I e1
   rw [D.eqok] at ha
   cases b with
   | undef=>exact absurd ry Rep.undef
   | dct _=>simp [D.eqok] at hb
   | scr _=>simp [D.eqok] at hb
   | fdc _=>simp [D.eqok] at hb
   | non=>cases ry;cases rv;exact ⟨RcAt.tuple_none h1 hu0,RcNeAt.tuple_none h1 hu0,EqAt.tuple_none h1 hu0⟩
   | bl _=>cases ry;cases rv;exact ⟨RcAt.tuple_bool _ h1 hu0,RcNeAt.tuple_bool _ h1 hu0,EqAt.tuple_bool _ h1 hu0⟩
   | int _=>cases ry;obtain ⟨t2,rfl⟩:=rv;exact ⟨RcAt.tuple_int _ _ h1 hu0,RcNeAt.tuple_int _ _ h1 hu0,EqAt.tuple_int _ _ h1 hu0⟩
   | str _=>cases ry;obtain ⟨t2,rfl⟩:=rv;exact ⟨RcAt.tuple_str _ _ h1 hu0,RcNeAt.tuple_str _ _ h1 hu0,EqAt.tuple_str _ _ h1 hu0⟩
   | tup es=>
    obtain ⟨q,ys,rfl,e2,r2⟩:=ry.tupAt
    cases rv
    obtain ⟨its2,vr2,h2⟩:=fst_of I e2
    rw [D.eqok] at hb
    have z1 : its1.toArray.size = ds.length:=by rw [List.size_toArray,<- vr1.length,r1.length]
    have z2 : its2.toArray.size = es.length:=by rw [List.size_toArray,<- vr2.length,r2.length]
    have he : ∀ j (g1 : j < its1.toArray.size) (g2 : j < its2.toArray.size),EqAt A.in1 s its1.toArray[j] its2.toArray[j] (eqD (ds.getD j .non) (es.getD j .non)):=fun j g1 g2=>by
     obtain ⟨v1,w1,rr1⟩:=r1.getD (j:=j) (by lia)
     obtain ⟨v2,w2,rr2⟩:=r2.getD (j:=j) (by lia)
     obtain ⟨u1,k1,l1⟩:=vr1.get w1
     obtain ⟨u2,k2,l2⟩:=vr2.get w2
     have m1 : its1.toArray[j] = u1:=by
      rw [List.getElem?_eq_getElem (by simpa using g1)] at k1
      simpa using Option.some.inj k1
     have m2 : its2.toArray[j] = u2:=by
      rw [List.getElem?_eq_getElem (by simpa using g2)] at k2
      simpa using Option.some.inj k2
     rw [m1,m2]
     exact (ih A.in1 hu1 (eqoks_get ha (by lia)) (eqoks_get hb (by lia)) rr1 rr2 l1 l2).2.2
    have ee : eqD (.tup ds) (.tup es) = ((List.range (min its1.toArray.size its2.toArray.size)).all (fun j=>eqD (ds.getD j .non) (es.getD j .non)) && its1.toArray.size == its2.toArray.size):=by
     rw [eqD,eqDs_range,z1,z2]
    have r0:=RcAt.tuples h1 h2 hu0 he
    have r0':=RcNeAt.tuples h1 h2 hu0 he
    rw [<- ee] at r0 r0'
    refine ⟨r0,r0',?_⟩
    by_cases hpq : p = q
    ·subst hpq
     have hab : (D.tup ds) = (.tup es):=Rep.inj (n + 1) (by rw [D.eqok];exact ha) (by rw [D.eqok];exact hb) rx ry
     rw [<- hab,eqD_refl (n + 1) _ (by rw [D.eqok];exact ha)]
     exact EqAt.same _
    ·exact EqAt.of_refs hpq r0
   | lst es=>
    obtain ⟨q,ys,rfl,e2,r2⟩:=ry.lstAt (K:=X.K)
    cases rv
    obtain ⟨its2,vr2,h2⟩:=lst_of I e2
    exact ⟨RcAt.tuple_list h1 h2 hu0,RcNeAt.tuple_list h1 h2 hu0,EqAt.tuple_list h1 h2 hu0⟩
  | lst ds=>
   obtain ⟨p,xs,rfl,e1,r1⟩:=rx.lstAt (K:=X.K)
   cases ru
   obtain ⟨its1,vr1,h1⟩:=lst_of I e1
   rw [D.eqok] at ha
   cases b with
   | undef=>exact absurd ry Rep.undef
   | dct _=>simp [D.eqok] at hb
   | scr _=>simp [D.eqok] at hb
   | fdc _=>simp [D.eqok] at hb
   | non=>cases ry;cases rv;exact ⟨RcAt.list_none h1 hu0,RcNeAt.list_none h1 hu0,EqAt.list_none h1 hu0⟩
   | bl _=>cases ry;cases rv;exact ⟨RcAt.list_bool _ h1 hu0,RcNeAt.list_bool _ h1 hu0,EqAt.list_bool _ h1 hu0⟩
   | int _=>cases ry;obtain ⟨t2,rfl⟩:=rv;exact ⟨RcAt.list_int _ _ h1 hu0,RcNeAt.list_int _ _ h1 hu0,EqAt.list_int _ _ h1 hu0⟩
   | str _=>cases ry;obtain ⟨t2,rfl⟩:=rv;exact ⟨RcAt.list_str _ _ h1 hu0,RcNeAt.list_str _ _ h1 hu0,EqAt.list_str _ _ h1 hu0⟩
   | tup es=>
    obtain ⟨q,ys,rfl,e2,r2⟩:=ry.tupAt
    cases rv
    obtain ⟨its2,vr2,h2⟩:=fst_of I e2
    exact ⟨RcAt.list_tuple h1 h2 hu0,RcNeAt.list_tuple h1 h2 hu0,EqAt.list_tuple h1 h2 hu0⟩
   | lst es=>
    obtain ⟨q,ys,rfl,e2,r2⟩:=ry.lstAt (K:=X.K)
    cases rv
    obtain ⟨its2,vr2,h2⟩:=lst_of I e2
    rw [D.eqok] at hb
    have z1 : its1.toArray.size = ds.length:=by rw [List.size_toArray,<- vr1.length,r1.length]
    have z2 : its2.toArray.size = es.length:=by rw [List.size_toArray,<- vr2.length,r2.length]
    have he : ∀ j (g1 : j < its1.toArray.size) (g2 : j < its2.toArray.size),EqAt A.in1 s its1.toArray[j] its2.toArray[j] (eqD (ds.getD j .non) (es.getD j .non)):=fun j g1 g2=>by
     obtain ⟨v1,w1,rr1⟩:=r1.getD (j:=j) (by lia)
     obtain ⟨v2,w2,rr2⟩:=r2.getD (j:=j) (by lia)
     obtain ⟨u1,k1,l1⟩:=vr1.get w1
     obtain ⟨u2,k2,l2⟩:=vr2.get w2
     have m1 : its1.toArray[j] = u1:=by
      rw [List.getElem?_eq_getElem (by simpa using g1)] at k1
      simpa using Option.some.inj k1
     have m2 : its2.toArray[j] = u2:=by
      rw [List.getElem?_eq_getElem (by simpa using g2)] at k2
      simpa using Option.some.inj k2
     rw [m1,m2]
     exact (ih A.in1 hu1 (eqoks_get ha (by lia)) (eqoks_get hb (by lia)) rr1 rr2 l1 l2).2.2
    have r00 : RcAt A s (.ref p) (.ref q) (eqD (.lst ds) (.lst es))/\RcNeAt A s (.ref p) (.ref q) (!eqD (.lst ds) (.lst es)):=by
     rw [eqD,eqDs_range]
     by_cases hz : ds.length = es.length
     ·have r0:=RcAt.lists h1 h2 (by lia) hu0 he
      have r0':=RcNeAt.lists h1 h2 (by lia) hu0 he
      rw [z1] at r0 r0'
      rw [show min ds.length es.length = ds.length by lia,show (ds.length == es.length) = true by simpa using hz,Bool.and_true]
      exact ⟨r0,r0'⟩
     ·have hz' : (its1.toArray.size != its2.toArray.size) = true:=by rw [z1,z2];simpa using hz
      rw [show (ds.length == es.length) = false by simpa using hz,Bool.and_false]
      exact ⟨RcAt.lists_lengths h1 h2 hz' hu0,RcNeAt.lists_lengths h1 h2 hz' hu0⟩
    obtain ⟨r0,r0'⟩:=r00
    refine ⟨r0,r0',?_⟩
    by_cases hpq : p = q
    ·subst hpq
     have hab : (D.lst ds) = (.lst es):=Rep.inj (n + 1) (by rw [D.eqok];exact ha) (by rw [D.eqok];exact hb) rx ry
     rw [<- hab,eqD_refl (n + 1) _ (by rw [D.eqok];exact ha)]
     exact EqAt.same _
    ·exact EqAt.of_refs hpq r0
end
end Mi
end
section
set_option maxRecDepth 100000
set_option maxHeartbeats 1000000
namespace Mi
open PySem L2 PySem.SeqAt
open PySem.AutoSeq1 (wpAny_loadPart')
open PySem.MeetsSeq PySem.MeetsSeq2 PySem.MeetsSeq3
variable [KFrag]
noncomputable def Ordr.op : Ordr->CmpOp
 | .lt=>.Lt | .le=>.LtE | .gt=>.Gt | .ge=>.GtE
noncomputable def RoAt (op : CmpOp) (A : Around) (s : Shared) (u v : Value) (b : Bool) : Prop:=
 ∀ (prog : Program) (w : World) (E : Value->Shared->Prop) (Q : Value->Shared->Prop),Q (.bool b) s->wpAny (model prog w) A (richCompare op u v) Q E s
noncomputable def C2 (o : Ordr) (A : Around) (s : Shared) (vs ws : List Value) (xs ys : List D) : Prop:=
 vs.length = xs.length/\ws.length = ys.length/\∀ (j : Nat) (v w : Value) (x y : D),vs[j]? = some v->ws[j]? = some w->xs[j]? = some x->ys[j]? = some y->
  EqAt A s v w (eqD x y)/\(eqD x y = false->∀ k,ordD o x y = some k->RoAt o.op A s v w k)
theorem C2.tail {o : Ordr} {A : Around} {s : Shared} {v w : Value} {vs ws : List Value} {x y : D} {xs ys : List D} (h : C2 o A s (v :: vs) (w :: ws) (x :: xs) (y :: ys)) : C2 o A s vs ws xs ys:=
 ⟨by simpa using h.1,by simpa using h.2.1,fun j a b c d e1 e2 e3 e4=>h.2.2 (j + 1) a b c d (by simpa using e1) (by simpa using e2) (by simpa using e3) (by simpa using e4)⟩
theorem tuple_ltAt (l b : Addr) (items items2 : Array Value) (n n2 : Nat) (dd dd2 : Option Addr) (sl sl2 : Array (Option Value)) (xs ys : List D) (res : Bool) (hr : ordDs .lt xs ys = some res) :
  Meets (Builtin.«tuple.__lt__» ⟨[.ref l,.ref b],[]⟩)
   (fun A R s=>s.heap.get? l = some { cls:=.type "tuple",dict:=dd,data:=.seq items n,slots:=sl }/\s.heap.get? b = some { cls:=.type "tuple",dict:=dd2,data:=.seq items2 n2,slots:=sl2 }/\
    C2 .lt A.in1 s items.toList items2.toList xs ys/\R (.ok (.ret (.bool res))) s):=
 .of_wp fun prog w A R s h=>by
  obtain ⟨hp,g,d,tk,os⟩:=s;obtain ⟨hl,hb,hC,h⟩:=h
  have f2:=AutoSeq1.sub_tuple_tuple
  have z1 : items.size = xs.length:=by rw [<- hC.1];simp
  have z2 : items2.size = ys.length:=by rw [<- hC.2.1];simp
  wp_walk using wpAny_loadPart' hl,wpAny_loadPart' hb,wpAny_forIn_list _ (fun rest b s'=>b.1 = none/\s' = ⟨hp,g,d,tk,os⟩/\∃ (vs ws : List Value) (xs' ys' : List D),rest = vs.zip ws/\
   C2 .lt A.in1 ⟨hp,g,d,tk,os⟩ vs ws xs' ys'/\xs'.length + items2.size = ys'.length + items.size/\ordDs .lt xs' ys' = some res) _
  case turn=>
   rintro ⟨y,x⟩ rest b s' ⟨hb',rfl,vs,ws,xs',ys',hz,hC',hlen,hR⟩
   cases vs with
   | nil=>rw [List.zip_nil_left] at hz;cases hz
   | cons v vs=>
    cases ws with
    | nil=>rw [List.zip_nil_right] at hz;cases hz
    | cons w' ws=>
     rw [List.zip_cons_cons] at hz
     injection hz with hyx hrest
     injection hyx with hy hx
     subst hy hx
     cases xs' with
     | nil=>exact absurd hC'.1 (by simp)
     | cons x0 xs'=>
      cases ys' with
      | nil=>exact absurd hC'.2.1 (by simp)
      | cons y0 ys'=>
       rw [ordDs] at hR
       simp only [List.length_cons] at hlen
       obtain ⟨he,hlt⟩:=hC'.2.2 0 _ _ _ _ rfl rfl rfl rfl
       refine wpAny_bind (he prog w _ _ ?_)
       cases e : eqD x0 y0 with
       | true=>
        rw [e] at hR
        simp only [if_true] at hR
        wp_walk
        exact ⟨rfl,rfl,_,_,_,_,hrest,hC'.tail,by lia,hR⟩
       | false=>
        rw [e] at hR
        simp only [Bool.false_eq_true,if_false] at hR
        have hri : ∀ (E : Value->Shared->Prop) (Q : Value->Shared->Prop),Q (.bool res) ⟨hp,g,d,tk,os⟩->wpAny (model prog w) A.in1 (richCompare .Lt _ _) Q E ⟨hp,g,d,tk,os⟩:=fun E Q q=>hlt e res hR prog w E Q q
        wp_walk using hri
        exact ⟨_,rfl,by simpa using h⟩
  case fin=>
   rintro ⟨b1,b2⟩ s' ⟨hb',rfl,vs,ws,xs',ys',hz,hC',hlen,hR⟩
   simp only at hb'
   subst hb'
   have hv : res = decide (items.size < items2.size):=by
    cases xs' with
    | nil=>
     rw [ordDs] at hR
     have:=Option.some.inj hR
     rw [<- this]
     simp only [List.length_nil] at hlen
     simp only [Ordr.nat]
     congr 1
     simp only [eq_iff_iff]
     lia
    | cons x0 xs'=>
     cases ys' with
     | nil=>
      rw [ordDs] at hR
      have:=Option.some.inj hR
      rw [<- this]
      simp only [List.length_nil,List.length_cons] at hlen
      simp only [Ordr.nat,List.length_cons]
      congr 1
      simp only [eq_iff_iff]
      lia
     | cons y0 ys'=>
      exfalso
      cases vs with
      | nil=>exact absurd hC'.1 (by simp)
      | cons v vs=>
       cases ws with
       | nil=>exact absurd hC'.2.1 (by simp)
       | cons w' ws=>rw [List.zip_cons_cons] at hz;cases hz
   rw [hv] at h
   wp_walk
   exact ⟨_,rfl,by simpa [Builtin.Tuple.tupleCompareSizes] using h⟩
  case h=>
   exact ⟨rfl,rfl,items.toList,items2.toList,xs,ys,rfl,hC,by lia,hr⟩
theorem RoAt.lt_tup {A : Around} {s : Shared} {l b : Addr} {items items2 : Array Value} {xs ys : List D} {res : Bool} (hl : s.heap.IsTuple l items) (hb : s.heap.IsTuple b items2) (hC : C2 .lt A.in1 s items.toList items2.toList xs ys) (hr : ordDs .lt xs ys = some res) (hu : A.units < cLine) :
  RoAt .Lt A s (.ref l) (.ref b) res:=fun prog w E Q h=>by
 obtain ⟨⟨cls,dd,data,sl⟩,ho,hc,n,hd⟩:=id hl
 obtain ⟨⟨cls2,dd2,data2,sl2⟩,ho2,hc2,n2,hd2⟩:=id hb
 simp only at hc hd hc2 hd2
 subst hc hd hc2 hd2
 exact richCompare_meets_room (op:=.Lt) ⟨_,ho,rfl⟩ ⟨_,ho2,rfl⟩ PySem.F.slot_tuple_lt PySem.F.entry_tuple_lt (PySem.F.args_tuple_lt_2 _ _) (tuple_ltAt l b items items2 n n2 dd dd2 sl sl2 xs ys res hr)
  ⟨ho,ho2,hC,show Value.bool res ≠ Value.notImplemented/\Q (.bool res) s from ⟨(fun x=>nomatch x),h⟩⟩ hu
theorem tuple_leAt (l b : Addr) (items items2 : Array Value) (n n2 : Nat) (dd dd2 : Option Addr) (sl sl2 : Array (Option Value)) (xs ys : List D) (res : Bool) (hr : ordDs .le xs ys = some res) :
  Meets (Builtin.«tuple.__le__» ⟨[.ref l,.ref b],[]⟩)
   (fun A R s=>s.heap.get? l = some { cls:=.type "tuple",dict:=dd,data:=.seq items n,slots:=sl }/\s.heap.get? b = some { cls:=.type "tuple",dict:=dd2,data:=.seq items2 n2,slots:=sl2 }/\
    C2 .le A.in1 s items.toList items2.toList xs ys/\R (.ok (.ret (.bool res))) s):=
 .of_wp fun prog w A R s h=>by
  obtain ⟨hp,g,d,tk,os⟩:=s;obtain ⟨hl,hb,hC,h⟩:=h
  have f2:=AutoSeq1.sub_tuple_tuple
  have z1 : items.size = xs.length:=by rw [<- hC.1];simp
  have z2 : items2.size = ys.length:=by rw [<- hC.2.1];simp
  wp_walk using wpAny_loadPart' hl,wpAny_loadPart' hb,wpAny_forIn_list _ (fun rest b s'=>b.1 = none/\s' = ⟨hp,g,d,tk,os⟩/\∃ (vs ws : List Value) (xs' ys' : List D),rest = vs.zip ws/\
   C2 .le A.in1 ⟨hp,g,d,tk,os⟩ vs ws xs' ys'/\xs'.length + items2.size = ys'.length + items.size/\ordDs .le xs' ys' = some res) _
  case turn=>
   rintro ⟨y,x⟩ rest b s' ⟨hb',rfl,vs,ws,xs',ys',hz,hC',hlen,hR⟩
   cases vs with
   | nil=>rw [List.zip_nil_left] at hz;cases hz
   | cons v vs=>
    cases ws with
    | nil=>rw [List.zip_nil_right] at hz;cases hz
    | cons w' ws=>
     rw [List.zip_cons_cons] at hz
     injection hz with hyx hrest
     injection hyx with hy hx
     subst hy hx
     cases xs' with
     | nil=>exact absurd hC'.1 (by simp)
     | cons x0 xs'=>
      cases ys' with
      | nil=>exact absurd hC'.2.1 (by simp)
      | cons y0 ys'=>
       rw [ordDs] at hR
       simp only [List.length_cons] at hlen
       obtain ⟨he,hlt⟩:=hC'.2.2 0 _ _ _ _ rfl rfl rfl rfl
       refine wpAny_bind (he prog w _ _ ?_)
       cases e : eqD x0 y0 with
       | true=>
        rw [e] at hR
        simp only [if_true] at hR
        wp_walk
        exact ⟨rfl,rfl,_,_,_,_,hrest,hC'.tail,by lia,hR⟩
       | false=>
        rw [e] at hR
        simp only [Bool.false_eq_true,if_false] at hR
        have hri : ∀ (E : Value->Shared->Prop) (Q : Value->Shared->Prop),Q (.bool res) ⟨hp,g,d,tk,os⟩->wpAny (model prog w) A.in1 (richCompare .LtE _ _) Q E ⟨hp,g,d,tk,os⟩:=fun E Q q=>hlt e res hR prog w E Q q
        wp_walk using hri
        exact ⟨_,rfl,by simpa using h⟩
  case fin=>
   rintro ⟨b1,b2⟩ s' ⟨hb',rfl,vs,ws,xs',ys',hz,hC',hlen,hR⟩
   simp only at hb'
   subst hb'
   have hv : res = decide (items.size<=items2.size):=by
    cases xs' with
    | nil=>
     rw [ordDs] at hR
     have:=Option.some.inj hR
     rw [<- this]
     simp only [List.length_nil] at hlen
     simp only [Ordr.nat]
     congr 1
     simp only [eq_iff_iff]
     lia
    | cons x0 xs'=>
     cases ys' with
     | nil=>
      rw [ordDs] at hR
      have:=Option.some.inj hR
      rw [<- this]
      simp only [List.length_nil,List.length_cons] at hlen
      simp only [Ordr.nat,List.length_cons]
      congr 1
      simp only [eq_iff_iff]
      lia
     | cons y0 ys'=>
      exfalso
      cases vs with
      | nil=>exact absurd hC'.1 (by simp)
      | cons v vs=>
       cases ws with
       | nil=>exact absurd hC'.2.1 (by simp)
       | cons w' ws=>rw [List.zip_cons_cons] at hz;cases hz
   rw [hv] at h
   wp_walk
   exact ⟨_,rfl,by simpa [Builtin.Tuple.tupleCompareSizes] using h⟩
  case h=>
   exact ⟨rfl,rfl,items.toList,items2.toList,xs,ys,rfl,hC,by lia,hr⟩
theorem RoAt.le_tup {A : Around} {s : Shared} {l b : Addr} {items items2 : Array Value} {xs ys : List D} {res : Bool} (hl : s.heap.IsTuple l items) (hb : s.heap.IsTuple b items2) (hC : C2 .le A.in1 s items.toList items2.toList xs ys) (hr : ordDs .le xs ys = some res) (hu : A.units < cLine) :
  RoAt .LtE A s (.ref l) (.ref b) res:=fun prog w E Q h=>by
 obtain ⟨⟨cls,dd,data,sl⟩,ho,hc,n,hd⟩:=id hl
 obtain ⟨⟨cls2,dd2,data2,sl2⟩,ho2,hc2,n2,hd2⟩:=id hb
 simp only at hc hd hc2 hd2
 subst hc hd hc2 hd2
 exact richCompare_meets_room (op:=.LtE) ⟨_,ho,rfl⟩ ⟨_,ho2,rfl⟩ PySem.F.slot_tuple_le PySem.F.entry_tuple_le (PySem.F.args_tuple_le_2 _ _) (tuple_leAt l b items items2 n n2 dd dd2 sl sl2 xs ys res hr)
  ⟨ho,ho2,hC,show Value.bool res ≠ Value.notImplemented/\Q (.bool res) s from ⟨(fun x=>nomatch x),h⟩⟩ hu
theorem tuple_gtAt (l b : Addr) (items items2 : Array Value) (n n2 : Nat) (dd dd2 : Option Addr) (sl sl2 : Array (Option Value)) (xs ys : List D) (res : Bool) (hr : ordDs .gt xs ys = some res) :
  Meets (Builtin.«tuple.__gt__» ⟨[.ref l,.ref b],[]⟩)
   (fun A R s=>s.heap.get? l = some { cls:=.type "tuple",dict:=dd,data:=.seq items n,slots:=sl }/\s.heap.get? b = some { cls:=.type "tuple",dict:=dd2,data:=.seq items2 n2,slots:=sl2 }/\
    C2 .gt A.in1 s items.toList items2.toList xs ys/\R (.ok (.ret (.bool res))) s):=
 .of_wp fun prog w A R s h=>by
  obtain ⟨hp,g,d,tk,os⟩:=s;obtain ⟨hl,hb,hC,h⟩:=h
  have f2:=AutoSeq1.sub_tuple_tuple
  have z1 : items.size = xs.length:=by rw [<- hC.1];simp
  have z2 : items2.size = ys.length:=by rw [<- hC.2.1];simp
  wp_walk using wpAny_loadPart' hl,wpAny_loadPart' hb,wpAny_forIn_list _ (fun rest b s'=>b.1 = none/\s' = ⟨hp,g,d,tk,os⟩/\∃ (vs ws : List Value) (xs' ys' : List D),rest = vs.zip ws/\
   C2 .gt A.in1 ⟨hp,g,d,tk,os⟩ vs ws xs' ys'/\xs'.length + items2.size = ys'.length + items.size/\ordDs .gt xs' ys' = some res) _
  case turn=>
   rintro ⟨y,x⟩ rest b s' ⟨hb',rfl,vs,ws,xs',ys',hz,hC',hlen,hR⟩
   cases vs with
   | nil=>rw [List.zip_nil_left] at hz;cases hz
   | cons v vs=>
    cases ws with
    | nil=>rw [List.zip_nil_right] at hz;cases hz
    | cons w' ws=>
     rw [List.zip_cons_cons] at hz
     injection hz with hyx hrest
     injection hyx with hy hx
     subst hy hx
     cases xs' with
     | nil=>exact absurd hC'.1 (by simp)
     | cons x0 xs'=>
      cases ys' with
      | nil=>exact absurd hC'.2.1 (by simp)
      | cons y0 ys'=>
       rw [ordDs] at hR
       simp only [List.length_cons] at hlen
       obtain ⟨he,hlt⟩:=hC'.2.2 0 _ _ _ _ rfl rfl rfl rfl
       refine wpAny_bind (he prog w _ _ ?_)
       cases e : eqD x0 y0 with
       | true=>
        rw [e] at hR
        simp only [if_true] at hR
        wp_walk
        exact ⟨rfl,rfl,_,_,_,_,hrest,hC'.tail,by lia,hR⟩
       | false=>
        rw [e] at hR
        simp only [Bool.false_eq_true,if_false] at hR
        have hri : ∀ (E : Value->Shared->Prop) (Q : Value->Shared->Prop),Q (.bool res) ⟨hp,g,d,tk,os⟩->wpAny (model prog w) A.in1 (richCompare .Gt _ _) Q E ⟨hp,g,d,tk,os⟩:=fun E Q q=>hlt e res hR prog w E Q q
        wp_walk using hri
        exact ⟨_,rfl,by simpa using h⟩
  case fin=>
   rintro ⟨b1,b2⟩ s' ⟨hb',rfl,vs,ws,xs',ys',hz,hC',hlen,hR⟩
   simp only at hb'
   subst hb'
   have hv : res = decide (items2.size < items.size):=by
    cases xs' with
    | nil=>
     rw [ordDs] at hR
     have:=Option.some.inj hR
     rw [<- this]
     simp only [List.length_nil] at hlen
     simp only [Ordr.nat]
     congr 1
     simp only [eq_iff_iff]
     lia
    | cons x0 xs'=>
     cases ys' with
     | nil=>
      rw [ordDs] at hR
      have:=Option.some.inj hR
      rw [<- this]
      simp only [List.length_nil,List.length_cons] at hlen
      simp only [Ordr.nat,List.length_cons]
      congr 1
      simp only [eq_iff_iff]
      lia
     | cons y0 ys'=>
      exfalso
      cases vs with
      | nil=>exact absurd hC'.1 (by simp)
      | cons v vs=>
       cases ws with
       | nil=>exact absurd hC'.2.1 (by simp)
       | cons w' ws=>rw [List.zip_cons_cons] at hz;cases hz
   rw [hv] at h
   wp_walk
   exact ⟨_,rfl,by simpa [Builtin.Tuple.tupleCompareSizes] using h⟩
  case h=>
   exact ⟨rfl,rfl,items.toList,items2.toList,xs,ys,rfl,hC,by lia,hr⟩
theorem RoAt.gt_tup {A : Around} {s : Shared} {l b : Addr} {items items2 : Array Value} {xs ys : List D} {res : Bool} (hl : s.heap.IsTuple l items) (hb : s.heap.IsTuple b items2) (hC : C2 .gt A.in1 s items.toList items2.toList xs ys) (hr : ordDs .gt xs ys = some res) (hu : A.units < cLine) :
  RoAt .Gt A s (.ref l) (.ref b) res:=fun prog w E Q h=>by
 obtain ⟨⟨cls,dd,data,sl⟩,ho,hc,n,hd⟩:=id hl
 obtain ⟨⟨cls2,dd2,data2,sl2⟩,ho2,hc2,n2,hd2⟩:=id hb
 simp only at hc hd hc2 hd2
 subst hc hd hc2 hd2
 exact richCompare_meets_room (op:=.Gt) ⟨_,ho,rfl⟩ ⟨_,ho2,rfl⟩ PySem.F.slot_tuple_gt PySem.F.entry_tuple_gt (PySem.F.args_tuple_gt_2 _ _) (tuple_gtAt l b items items2 n n2 dd dd2 sl sl2 xs ys res hr)
  ⟨ho,ho2,hC,show Value.bool res ≠ Value.notImplemented/\Q (.bool res) s from ⟨(fun x=>nomatch x),h⟩⟩ hu
theorem tuple_geAt (l b : Addr) (items items2 : Array Value) (n n2 : Nat) (dd dd2 : Option Addr) (sl sl2 : Array (Option Value)) (xs ys : List D) (res : Bool) (hr : ordDs .ge xs ys = some res) :
  Meets (Builtin.«tuple.__ge__» ⟨[.ref l,.ref b],[]⟩)
   (fun A R s=>s.heap.get? l = some { cls:=.type "tuple",dict:=dd,data:=.seq items n,slots:=sl }/\s.heap.get? b = some { cls:=.type "tuple",dict:=dd2,data:=.seq items2 n2,slots:=sl2 }/\
    C2 .ge A.in1 s items.toList items2.toList xs ys/\R (.ok (.ret (.bool res))) s):=
 .of_wp fun prog w A R s h=>by
  obtain ⟨hp,g,d,tk,os⟩:=s;obtain ⟨hl,hb,hC,h⟩:=h
  have f2:=AutoSeq1.sub_tuple_tuple
  have z1 : items.size = xs.length:=by rw [<- hC.1];simp
  have z2 : items2.size = ys.length:=by rw [<- hC.2.1];simp
  wp_walk using wpAny_loadPart' hl,wpAny_loadPart' hb,wpAny_forIn_list _ (fun rest b s'=>b.1 = none/\s' = ⟨hp,g,d,tk,os⟩/\∃ (vs ws : List Value) (xs' ys' : List D),rest = vs.zip ws/\
   C2 .ge A.in1 ⟨hp,g,d,tk,os⟩ vs ws xs' ys'/\xs'.length + items2.size = ys'.length + items.size/\ordDs .ge xs' ys' = some res) _
  case turn=>
   rintro ⟨y,x⟩ rest b s' ⟨hb',rfl,vs,ws,xs',ys',hz,hC',hlen,hR⟩
   cases vs with
   | nil=>rw [List.zip_nil_left] at hz;cases hz
   | cons v vs=>
    cases ws with
    | nil=>rw [List.zip_nil_right] at hz;cases hz
    | cons w' ws=>
     rw [List.zip_cons_cons] at hz
     injection hz with hyx hrest
     injection hyx with hy hx
     subst hy hx
     cases xs' with
     | nil=>exact absurd hC'.1 (by simp)
     | cons x0 xs'=>
      cases ys' with
      | nil=>exact absurd hC'.2.1 (by simp)
      | cons y0 ys'=>
       rw [ordDs] at hR
       simp only [List.length_cons] at hlen
       obtain ⟨he,hlt⟩:=hC'.2.2 0 _ _ _ _ rfl rfl rfl rfl
       refine wpAny_bind (he prog w _ _ ?_)
       cases e : eqD x0 y0 with
       | true=>
        rw [e] at hR
        simp only [if_true] at hR
        wp_walk
        exact ⟨rfl,rfl,_,_,_,_,hrest,hC'.tail,by lia,hR⟩
       | false=>
        rw [e] at hR
        simp only [Bool.false_eq_true,if_false] at hR
        have hri : ∀ (E : Value->Shared->Prop) (Q : Value->Shared->Prop),Q (.bool res) ⟨hp,g,d,tk,os⟩->wpAny (model prog w) A.in1 (richCompare .GtE _ _) Q E ⟨hp,g,d,tk,os⟩:=fun E Q q=>hlt e res hR prog w E Q q
        wp_walk using hri
        exact ⟨_,rfl,by simpa using h⟩
  case fin=>
   rintro ⟨b1,b2⟩ s' ⟨hb',rfl,vs,ws,xs',ys',hz,hC',hlen,hR⟩
   simp only at hb'
   subst hb'
   have hv : res = decide (items2.size<=items.size):=by
    cases xs' with
    | nil=>
     rw [ordDs] at hR
     have:=Option.some.inj hR
     rw [<- this]
     simp only [List.length_nil] at hlen
     simp only [Ordr.nat]
     congr 1
     simp only [eq_iff_iff]
     lia
    | cons x0 xs'=>
     cases ys' with
     | nil=>
      rw [ordDs] at hR
      have:=Option.some.inj hR
      rw [<- this]
      simp only [List.length_nil,List.length_cons] at hlen
      simp only [Ordr.nat,List.length_cons]
      congr 1
      simp only [eq_iff_iff]
      lia
     | cons y0 ys'=>
      exfalso
      cases vs with
      | nil=>exact absurd hC'.1 (by simp)
      | cons v vs=>
       cases ws with
       | nil=>exact absurd hC'.2.1 (by simp)
       | cons w' ws=>rw [List.zip_cons_cons] at hz;cases hz
   rw [hv] at h
   wp_walk
   exact ⟨_,rfl,by simpa [Builtin.Tuple.tupleCompareSizes] using h⟩
  case h=>
   exact ⟨rfl,rfl,items.toList,items2.toList,xs,ys,rfl,hC,by lia,hr⟩
theorem RoAt.ge_tup {A : Around} {s : Shared} {l b : Addr} {items items2 : Array Value} {xs ys : List D} {res : Bool} (hl : s.heap.IsTuple l items) (hb : s.heap.IsTuple b items2) (hC : C2 .ge A.in1 s items.toList items2.toList xs ys) (hr : ordDs .ge xs ys = some res) (hu : A.units < cLine) :
  RoAt .GtE A s (.ref l) (.ref b) res:=fun prog w E Q h=>by
 obtain ⟨⟨cls,dd,data,sl⟩,ho,hc,n,hd⟩:=id hl
 obtain ⟨⟨cls2,dd2,data2,sl2⟩,ho2,hc2,n2,hd2⟩:=id hb
 simp only at hc hd hc2 hd2
 subst hc hd hc2 hd2
 exact richCompare_meets_room (op:=.GtE) ⟨_,ho,rfl⟩ ⟨_,ho2,rfl⟩ PySem.F.slot_tuple_ge PySem.F.entry_tuple_ge (PySem.F.args_tuple_ge_2 _ _) (tuple_geAt l b items items2 n n2 dd dd2 sl sl2 xs ys res hr)
  ⟨ho,ho2,hC,show Value.bool res ≠ Value.notImplemented/\Q (.bool res) s from ⟨(fun x=>nomatch x),h⟩⟩ hu
section
variable {X : Cx} {pins : List (Addr × Obj)} {σ : St} {H : Hp} {s : Shared}
theorem rep_ord (I : Inv X pins σ H s) (o : Ordr) : ∀ (n : Nat) (A : Around) {x y : V} {a b : D} {u v : Value} {k : Bool},A.units + n < cLine->a.eqok n = true->b.eqok n = true->Rep All H x a->Rep All H y b->RelV x u->RelV y v->
  ordD o a b = some k->RoAt o.op A s u v k:=by
 intro n
 induction n with
 | zero=>
  intro A x y a b u v k hu ha hb rx ry ru rv hk
  cases a with
  | int i=>
   cases b with
   | int j=>
    cases rx;cases ry
    obtain ⟨t,rfl⟩:=ru
    obtain ⟨t',rfl⟩:=rv
    rw [ordD] at hk
    have:=Option.some.inj hk
    subst this
    cases o with
    | lt=>exact fun prog w E Q h=>(PyProof.Rows.lt_int h : wpAny (model prog w) A (compareOp .Lt (.int i t) (.int j t')) Q E s)
    | le=>exact fun prog w E Q h=>(PyProof.Rows.le_int h : wpAny (model prog w) A (compareOp .LtE (.int i t) (.int j t')) Q E s)
    | gt=>exact fun prog w E Q h=>(PyProof.Rows.gt_int h : wpAny (model prog w) A (compareOp .Gt (.int i t) (.int j t')) Q E s)
    | ge=>exact fun prog w E Q h=>(PyProof.Rows.ge_int h : wpAny (model prog w) A (compareOp .GtE (.int i t) (.int j t')) Q E s)
   | _=>simp [ordD] at hk
  | str i=>
   cases b with
   | str j=>
    cases rx;cases ry
    obtain ⟨t,rfl⟩:=ru
    obtain ⟨t',rfl⟩:=rv
    rw [ordD] at hk
    have:=Option.some.inj hk
    subst this
    cases o with
    | lt=>exact fun prog w E Q h=>(PyProof.Rows.lt_str h : wpAny (model prog w) A (compareOp .Lt (.str i t) (.str j t')) Q E s)
    | le=>exact fun prog w E Q h=>(PySem.P.le_str h : wpAny (model prog w) A (compareOp .LtE (.str i t) (.str j t')) Q E s)
    | gt=>exact fun prog w E Q h=>(PySem.P.gt_str h : wpAny (model prog w) A (compareOp .Gt (.str i t) (.str j t')) Q E s)
    | ge=>exact fun prog w E Q h=>(PySem.P.ge_str h : wpAny (model prog w) A (compareOp .GtE (.str i t) (.str j t')) Q E s)
   | _=>simp [ordD] at hk
  | tup _=>simp [D.eqok] at ha
  | _=>cases b <;> simp [ordD] at hk
 | succ n ih=>
  intro A x y a b u v k hu ha hb rx ry ru rv hk
  have hu0 : A.units < cLine:=by lia
  have hu1 : A.in1.units + n < cLine:=by show A.units + 1 + n < cLine;lia
  cases a with
  | int i=>
   cases b with
   | int j=>
    cases rx;cases ry
    obtain ⟨t,rfl⟩:=ru
    obtain ⟨t',rfl⟩:=rv
    rw [ordD] at hk
    have:=Option.some.inj hk
    subst this
    cases o with
    | lt=>exact fun prog w E Q h=>(PyProof.Rows.lt_int h : wpAny (model prog w) A (compareOp .Lt (.int i t) (.int j t')) Q E s)
    | le=>exact fun prog w E Q h=>(PyProof.Rows.le_int h : wpAny (model prog w) A (compareOp .LtE (.int i t) (.int j t')) Q E s)
    | gt=>exact fun prog w E Q h=>(PyProof.Rows.gt_int h : wpAny (model prog w) A (compareOp .Gt (.int i t) (.int j t')) Q E s)
    | ge=>exact fun prog w E Q h=>(PyProof.Rows.ge_int h : wpAny (model prog w) A (compareOp .GtE (.int i t) (.int j t')) Q E s)
   | _=>simp [ordD] at hk
  | str i=>
   cases b with
   | str j=>
    cases rx;cases ry
    obtain ⟨t,rfl⟩:=ru
    obtain ⟨t',rfl⟩:=rv
    rw [ordD] at hk
    have:=Option.some.inj hk
    subst this
    cases o with
    | lt=>exact fun prog w E Q h=>(PyProof.Rows.lt_str h : wpAny (model prog w) A (compareOp .Lt (.str i t) (.str j t')) Q E s)
    | le=>exact fun prog w E Q h=>(PySem.P.le_str h : wpAny (model prog w) A (compareOp .LtE (.str i t) (.str j t')) Q E s)
    | gt=>exact fun prog w E Q h=>(PySem.P.gt_str h : wpAny (model prog w) A (compareOp .Gt (.str i t) (.str j t')) Q E s)
    | ge=>exact fun prog w E Q h=>(PySem.P.ge_str h : wpAny (model prog w) A (compareOp .GtE (.str i t) (.str j t')) Q E s)
   | _=>simp [ordD] at hk
  | tup ds=>
   cases b with
   | tup es=>
    obtain ⟨p,xs,rfl,e1,r1⟩:=rx.tupAt
    cases ru
    obtain ⟨its1,vr1,h1⟩:=fst_of I e1
    obtain ⟨q,ys,rfl,e2,r2⟩:=ry.tupAt
    cases rv
    obtain ⟨its2,vr2,h2⟩:=fst_of I e2
    rw [D.eqok] at ha hb
    rw [ordD] at hk
    have hC : ∀ o',o' = o->C2 o' A.in1 s its1.toArray.toList its2.toArray.toList ds es:=by
     rintro o' rfl
     refine ⟨by rw [List.toList_toArray,<- vr1.length,r1.length],by rw [List.toList_toArray,<- vr2.length,r2.length],fun j v w x y a1 a2 a3 a4=>?_⟩
     rw [List.toList_toArray] at a1 a2
     obtain ⟨v1,w1,rr1⟩:=r1.get a3
     obtain ⟨v2,w2,rr2⟩:=r2.get a4
     obtain ⟨u1,k1,l1⟩:=vr1.get w1
     obtain ⟨u2,k2,l2⟩:=vr2.get w2
     rw [a1] at k1;cases k1
     rw [a2] at k2;cases k2
     have g1 : x.eqok n = true:=by
      have:=eqoks_get (j:=j) ha (List.getElem?_eq_some_iff.mp a3).1
      rwa [List.getD_eq_getElem?_getD,a3] at this
     have g2 : y.eqok n = true:=by
      have:=eqoks_get (j:=j) hb (List.getElem?_eq_some_iff.mp a4).1
      rwa [List.getD_eq_getElem?_getD,a4] at this
     exact ⟨(rep_eq I n A.in1 hu1 g1 g2 rr1 rr2 l1 l2).2.2,fun _ k hk=>ih A.in1 hu1 g1 g2 rr1 rr2 l1 l2 hk⟩
    cases o with
    | lt=>exact RoAt.lt_tup h1 h2 (hC .lt rfl) hk hu0
    | le=>exact RoAt.le_tup h1 h2 (hC .le rfl) hk hu0
    | gt=>exact RoAt.gt_tup h1 h2 (hC .gt rfl) hk hu0
    | ge=>exact RoAt.ge_tup h1 h2 (hC .ge rfl) hk hu0
   | _=>simp [ordD] at hk
  | _=>cases b <;> simp [ordD] at hk
end
end Mi
end
section
set_option maxRecDepth 100000
set_option maxHeartbeats 1000000
namespace TS
open PySem PyProof.Rows
theorem list_sort_any {prog : Program} {w : World} {A : Around} {E : Value->Shared->Prop} {s : Shared} {a : Addr} {vs : List Value} {n : Nat} {P : Fin->Shared->Prop} (ho : s.heap.get? a = some (seqObj "list" vs.toArray n)) (hn : vs.length<=sizeLine)
  (hk : 2<=vs.length->∃ κ U blt,Ord U blt/\AllU U (pairsOf vs)/\
   (∀ Q : SortKind->Shared->Prop,Q κ { s with heap:=((s.heap.update a (Obj.mapSeq fun _=>(#[] : Array Value))).push (seqObj "tuple" vs.toArray 0)).push (seqObj "list" #[] 0) }->wpAny (model prog w) A (keyKind' vs.toArray) Q E { s with heap:=((s.heap.update a (Obj.mapSeq fun _=>(#[] : Array Value))).push (seqObj "tuple" vs.toArray 0)).push (seqObj "list" #[] 0) })/\
   LtOk prog w A E { s with heap:=((s.heap.update a (Obj.mapSeq fun _=>(#[] : Array Value))).push (seqObj "tuple" vs.toArray 0)).push (seqObj "list" #[] 0) } κ U blt/\
   ∀ arr : Array Keyed,arr.Perm (pairsOf vs)->Srt blt arr 0 (pairsOf vs).size->P (.done (.ret .none)) { s with heap:=sortedHeap s.heap a vs (arr.map (·.2)) })
  (h1 : vs.length < 2->P (.done (.ret .none)) { s with heap:=sortedHeap s.heap a vs ((pairsOf vs).map (·.2)) }) :
  wpAny (model prog w) A (Builtin.«list.sort» ⟨[.ref a],[]⟩) P E s:=by
 rw [list_sort_plain]
 have ha : a < s.heap.objs.size:=Heap.lt_size ho
 refine wpAny_bind (listItems_at ho rfl ?_)
 refine wpAny_bind (listUpdate_at ho rfl ?_ (by rw [List.size_toArray];exact hn) (Nat.zero_le _))
 obtain ⟨e1,ho1⟩ : ∃ e1,(s.heap.update a (Obj.mapSeq fun _=>(#[] : Array Value))).get? a = some (seqObj "list" #[] e1):=⟨_,get?_update_seq ho (fun _=>#[])⟩
 refine wpAny_bind (seqEpoch_at ho1 rfl ?_)
 refine wpAny_bind (wpAny_newTuple ?_ (by show vs.length<=_;exact hn))
 refine wpAny_bind (wpAny_newList ?_ (Nat.zero_le _))
 refine wpAny_holding ?_
 have ho6 : (((s.heap.update a (Obj.mapSeq fun _=>(#[] : Array Value))).push (seqObj "tuple" vs.toArray 0)).push (seqObj "list" #[] 0)).get? a = some (seqObj "list" #[] e1):=by
  rw [Heap.get?_push_ne _ _ _ (by rw [size_push',Heap.size_update];exact Nat.ne_of_lt (Nat.lt_succ_of_lt ha)),Heap.get?_push_ne _ _ _ (by rw [Heap.size_update];exact Nat.ne_of_lt ha)]
  exact ho1
 show wpAny (model prog w) A _ P E { s with heap:=((s.heap.update a (Obj.mapSeq fun _=>(#[] : Array Value))).push (seqObj "tuple" vs.toArray 0)).push (seqObj "list" #[] 0) }
 dsimp only
 have hsz : vs.toArray.size = vs.length:=by simp
 by_cases h2 : vs.toArray.size < 2
 ·rw [if_pos h2,if_pos h2]
  refine wpAny_bind (wpAny_pure ?_)
  rw [StateT.run_pure]
  refine wpAny_bind (wpAny_pure ?_)
  dsimp only
  refine wpAny_bind (seqEpoch_at ho6 rfl ?_)
  refine wpAny_bind (listUpdate_at ho6 rfl ?_ (Nat.zero_le _) (hsz2:=by rw [Array.size_map];show (pairsOf vs).size<=_;rw [pairsOf_size];exact Nat.le_succ_of_le hn))
  simp only [bne_self_eq_false,Bool.false_eq_true,if_false]
  exact wpAny_pure (h1 (by lia))
 ·rw [if_neg h2,if_neg h2]
  obtain ⟨κ,U,blt,O,hU,hkk,hL,fin⟩:=hk (by lia)
  refine wpAny_bind (hkk _ ?_)
  refine wpAny_bind (wpAny_mono (wpS_sortRuns (a₀:=pairsOf vs) (st:=SortSt.mk' κ (vs.toArray.zip vs.toArray) #[] 7 none)
   (Q:=fun _ st'=>(arrOf st').Perm (pairsOf vs)/\failedOf st' = none/\Srt blt (arrOf st') 0 (pairsOf vs).size) O hL hU ⟨rfl,rfl,Array.Perm.refl _⟩ rfl (by rw [pairsOf_size];lia) fun st' b z=>⟨b.pm,b.fl,z⟩) ?_ fun _ _ e=>e)
  rintro ⟨⟨⟩,st'⟩ s' ⟨rfl,hp,hf,hs⟩
  dsimp only
  refine wpAny_bind (seqEpoch_at ho6 rfl ?_)
  refine wpAny_bind (listUpdate_at ho6 rfl ?_ (Nat.zero_le _) (hsz2:=by refine Nat.le_trans (Nat.le_of_eq ((Array.size_map ..).trans (hp.size_eq.trans (pairsOf_size _)))) ?_;exact Nat.le_succ_of_le hn))
  rw [hf]
  simp only [bne_self_eq_false,Bool.false_eq_true,if_false]
  exact wpAny_pure (fin (arrOf st') hp hs)
noncomputable def midH (h : Heap) (vs : List Value) : Heap:=
 (((h.push (seqObj "list" vs.toArray 0)).update h.objs.size (Obj.mapSeq fun _=>(#[] : Array Value))).push (seqObj "tuple" vs.toArray 0)).push (seqObj "list" #[] 0)
theorem midH_old {h : Heap} {vs : List Value} {b : Addr} {o : Obj} (hb : h.get? b = some o) : (midH h vs).get? b = some o:=by
 have hlt : b < h.objs.size:=Heap.lt_size hb
 unfold midH
 refine Heap.get?_push_of_some _ (Heap.get?_push_of_some _ ?_)
 rw [Heap.get?_update_ne _ _ _ _ (Nat.ne_of_lt hlt)]
 exact Heap.get?_push_of_some _ hb
noncomputable def outH (h : Heap) (vs : List Value) (out : Array Value) : Heap:=sortedHeap (h.push (seqObj "list" vs.toArray 0)) h.objs.size vs out
theorem outH_old {h : Heap} {vs : List Value} {out : Array Value} {b : Addr} {o : Obj} (hb : h.get? b = some o) : (outH h vs out).get? b = some o:=by
 have hlt : b < h.objs.size:=Heap.lt_size hb
 unfold outH
 rw [sortedHeap_old (Nat.ne_of_lt hlt) (by rw [size_push'];exact Nat.lt_succ_of_lt hlt)]
 exact Heap.get?_push_of_some _ hb
theorem outH_at (h : Heap) (vs : List Value) (out : Array Value) : ∃ e,(outH h vs out).get? h.objs.size = some (seqObj "list" out e):=sortedHeap_at (n:=0) (Heap.get?_push_size _ rfl)
theorem sorted_gen {prog : Program} {w : World} {A : Around} {E : Value->Shared->Prop} {s : Shared} {v : Value} {vs : List Value} {Q : Value->Shared->Prop} (hn : vs.length<=sizeLine)
  (hcol : ∀ (Q' : List Value->Shared->Prop) (E' : Value->Shared->Prop),(∀ h1 tk,(∀ b o,s.heap.get? b = some o->h1.get? b = some o)->s.heap.objs.size<=h1.objs.size->Q' vs { s with heap:=h1,toks:=tk })->wpAny (model prog w) A.in1 (collect v) Q' E' s)
  (hk : ∀ h1 tk,(∀ b o,s.heap.get? b = some o->h1.get? b = some o)->s.heap.objs.size<=h1.objs.size->2<=vs.length->∃ κ U blt,Ord U blt/\AllU U (pairsOf vs)/\
   (∀ Q : SortKind->Shared->Prop,Q κ { s with heap:=midH h1 vs,toks:=tk }->wpAny (model prog w) A.in1.in1 (keyKind' vs.toArray) Q (fun _ _=>False) { s with heap:=midH h1 vs,toks:=tk })/\
   LtOk prog w A.in1.in1 (fun _ _=>False) { s with heap:=midH h1 vs,toks:=tk } κ U blt/\
   ∀ arr : Array Keyed,arr.Perm (pairsOf vs)->Srt blt arr 0 (pairsOf vs).size->Q (.ref h1.objs.size) { s with heap:=outH h1 vs (arr.map (·.2)),toks:=tk })
  (h1 : ∀ h1 tk,(∀ b o,s.heap.get? b = some o->h1.get? b = some o)->s.heap.objs.size<=h1.objs.size->vs.length < 2->Q (.ref h1.objs.size) { s with heap:=outH h1 vs ((pairsOf vs).map (·.2)),toks:=tk }) :
  wpAny (model prog w) A (call (.builtin "sorted") [v]) Q E s:=by
 refine Calls.call_function_entry kind_sorted plain_sorted entry_sorted (args_sorted1 _) ?_
 unfold Builtin.«sorted»
 refine wpAny_bind (m:=checkCount "sorted" 1 1 _) (wpAny_pure ?_)
 refine wpAny_bind (hcol _ _ fun hh tk kp hle=>?_)
 refine wpAny_bind (wpAny_newList ?_ hn)
 have hoL : (hh.push (seqObj "list" vs.toArray 0)).get? hh.objs.size = some (seqObj "list" vs.toArray 0):=Heap.get?_push_size _ rfl
 show wpAny _ _ _ _ _ { s with heap:=hh.push (seqObj "list" vs.toArray 0),toks:=tk }
 refine wpAny_bind (wpAny_holding (wpAny_call_entry slot_list_sort ⟨_,hoL,rfl⟩ entry_list_sort ?body (args_list_sort _)))
 case body=>
  refine wpAny_mono (list_sort_any (s:={ s with heap:=hh.push (seqObj "list" vs.toArray 0),toks:=tk }) (E:=fun _ _=>False) (P:=fun f s'=>∃ v,f = .done (.ret v)/\v = Value.none/\Q (.ref hh.objs.size) s') hoL hn (fun h2=>?_) (fun h2=>⟨_,rfl,rfl,h1 hh tk kp hle h2⟩)) (fun f s' h=>?_) fun _ _ z=>False.elim z
  ·obtain ⟨κ,U,blt,O,hU,hkk,hL,fin⟩:=hk hh tk kp hle h2
   exact ⟨κ,U,blt,O,hU,hkk,hL,fun arr p z=>⟨_,rfl,rfl,fin arr p z⟩⟩
  ·obtain ⟨v,rfl,rfl,q⟩:=h
   exact ⟨_,rfl,wpAny_pure ⟨_,rfl,q⟩⟩
end TS
end
section
set_option maxRecDepth 100000
set_option maxHeartbeats 1000000
namespace Mi
open PySem L2 PySem.SeqAt
open PyProof.Rows (Keyed lt' keyLt' oneLt' SortKind SortSt kindOf tuples' oneType' pairsOf wpS wpS_bind wpS_pure wpS_get wpS_lift keyKind')
variable [KFrag]
noncomputable def datOf (H : Hp) (u : Value) : D:=by
 classical
 exact if h : ∃ d,d.plain = true/\d.eqok eqdepth = true/\∃ v,RelV v u/\Rep All H v d then Classical.choose h else .non
theorem datOf_eq {H : Hp} {u : Value} {v : V} {d : D} (hp : d.plain = true) (hq : d.eqok eqdepth = true) (rv : RelV v u) (r : Rep All H v d) : datOf H u = d:=by
 unfold datOf
 have h : ∃ d,d.plain = true/\d.eqok eqdepth = true/\∃ v,RelV v u/\Rep All H v d:=⟨d,hp,hq,v,rv,r⟩
 rw [dif_pos h]
 obtain ⟨h1,h2,v',rv',r'⟩:=Classical.choose_spec h
 have:=rv'.inj rv
 subst this
 exact Rep.inj eqdepth h2 hq r' r
theorem cmp_all {ds : List D} (h : comparable ds = true) {a : D} (ha : a ∈ ds) : a.plain = true/\a.eqok eqdepth = true/\kindD a ≠ 0/\kindD a = kindD (ds.headD .non)/\∀ b ∈ ds,∃ k,ordD .lt a b = some k:=by
 unfold comparable at h
 have:=List.all_eq_true.mp h a ha
 simp only [Bool.and_eq_true,bne_iff_ne,beq_iff_eq] at this
 obtain ⟨⟨⟨⟨h1,h2⟩,h3⟩,h4⟩,h5⟩:=this
 refine ⟨h1,h2,h3,h4,fun b hb=>Option.isSome_iff_exists.mp (List.all_eq_true.mp h5 b hb)⟩
theorem cmp_lt {ds : List D} (h : comparable ds = true) {a b : D} (ha : a ∈ ds) (hb : b ∈ ds) : ordD .lt a b = some (decide (enc a < enc b)):=by
 obtain ⟨p1,_,_,_,q⟩:=cmp_all h ha
 obtain ⟨p2,_⟩:=cmp_all h hb
 obtain ⟨k,hk⟩:=q b hb
 rw [hk,ord_enc a b k p1 p2 hk]
noncomputable def sU (H : Hp) (ds : List D) (k : Keyed) : Prop:=∃ v d,RelV v k.1/\Rep All H v d/\d ∈ ds
noncomputable def sLt (H : Hp) (x y : Keyed) : Bool:=decide (enc (datOf H x.1) < enc (datOf H y.1))
theorem sOrd (H : Hp) (ds : List D) : TS.Ord (sU H ds) (sLt H):=by
 refine ⟨fun x _=>?_,fun x y z _ _ _ h1 h2=>?_,fun x y z _ _ _ h=>?_⟩
 ·simp [sLt,List.lt_irrefl]
 ·simp only [sLt,decide_eq_true_eq] at *
  exact List.lt_trans h1 h2
 ·simp only [sLt,decide_eq_true_eq] at *
  by_cases q : enc (datOf H x.1) < enc (datOf H y.1)
  ·exact .inl q
  ·exact .inr (List.lt_of_le_of_lt (List.not_lt.mp q) h)
section
variable {X : Cx} {pins : List (Addr × Obj)} {σ : L2.St} {H : Hp} {s : Shared}
open PySem.W in
theorem lex_rest {prog : Program} {w : World} {A : Around} {b k : Bool} {n1 n2 : Nat} {Q : Bool->Shared->Prop} : ∀ (vs ws : List Value) (xs ys : List D) (i : Nat),(b && i == 0) = false->C2 .lt A s vs ws xs ys->ordDs .lt xs ys = some k->xs.length + n2 = ys.length + n1->Q k s->
  KatLex prog w A b (decide (n1 < n2)) Q (vs.zip ws) i s
 | [],ws,xs,ys,i,_,hC,hk,hf,q=>by
  have : xs = []:=List.eq_nil_of_length_eq_zero hC.1.symm
  subst this
  rw [List.zip_nil_left]
  rw [ordDs] at hk
  have e : k = decide (n1 < n2):=by
   rw [<- Option.some.inj hk]
   simp only [Ordr.nat,List.length_nil] at hf ⊢
   congr 1
   simp only [eq_iff_iff]
   lia
  rw [<- e]
  exact q
 | v :: vs,[],xs,ys,i,_,hC,hk,hf,q=>by
  have : ys = []:=List.eq_nil_of_length_eq_zero hC.2.1.symm
  subst this
  rw [List.zip_nil_right]
  cases xs with
  | nil=>exact absurd hC.1 (by simp)
  | cons x xs=>
   rw [ordDs] at hk
   have e : k = decide (n1 < n2):=by
    rw [<- Option.some.inj hk]
    simp only [Ordr.nat,List.length_nil,List.length_cons] at hf ⊢
    congr 1
    simp only [eq_iff_iff]
    lia
   rw [<- e]
   exact q
 | v :: vs,w' :: ws,[],ys,i,_,hC,hk,hf,q=>absurd hC.1 (by simp)
 | v :: vs,w' :: ws,x :: xs,[],i,_,hC,hk,hf,q=>absurd hC.2.1 (by simp)
 | v :: vs,w' :: ws,x :: xs,y :: ys,i,hi,hC,hk,hf,q=>by
  rw [List.zip_cons_cons]
  obtain ⟨he,hlt⟩:=hC.2.2 0 _ _ _ _ rfl rfl rfl rfl
  rw [ordDs] at hk
  refine kat_cons (he prog w _ _ ?_)
  cases e : eqD x y with
  | true=>
   rw [e,if_pos rfl] at hk
   exact kat_yes (lex_rest vs ws xs ys (i + 1) (by simp) hC.tail hk (by simp only [List.length_cons] at hf;lia) q)
  | false=>
   rw [e,if_neg (by simp)] at hk
   refine kat_no ?_
   rw [hi]
   exact kat_one _ _ (hlt e k hk prog w _ _ q)
theorem c2_of (I : Inv X pins σ H s) {A : Around} {n : Nat} (hu : A.units + n < cLine) {xs ys : List V} {ds es : List D} {its1 its2 : List Value} (ha : D.eqoks n ds = true) (hb : D.eqoks n es = true) (r1 : Reps All H xs ds) (r2 : Reps All H ys es) (vr1 : Vals xs its1) (vr2 : Vals ys its2) :
  C2 .lt A s its1 its2 ds es:=by
 refine ⟨by rw [<- vr1.length,r1.length],by rw [<- vr2.length,r2.length],fun j v w x y a1 a2 a3 a4=>?_⟩
 obtain ⟨v1,w1,rr1⟩:=r1.get a3
 obtain ⟨v2,w2,rr2⟩:=r2.get a4
 obtain ⟨u1,k1,l1⟩:=vr1.get w1
 obtain ⟨u2,k2,l2⟩:=vr2.get w2
 rw [a1] at k1;cases k1
 rw [a2] at k2;cases k2
 have g1 : x.eqok n = true:=by
  have:=eqoks_get (j:=j) ha (List.getElem?_eq_some_iff.mp a3).1
  rwa [List.getD_eq_getElem?_getD,a3] at this
 have g2 : y.eqok n = true:=by
  have:=eqoks_get (j:=j) hb (List.getElem?_eq_some_iff.mp a4).1
  rwa [List.getD_eq_getElem?_getD,a4] at this
 exact ⟨(rep_eq I n A hu g1 g2 rr1 rr2 l1 l2).2.2,fun _ k hk=>rep_ord I .lt n A hu g1 g2 rr1 rr2 l1 l2 hk⟩
theorem kind_le (d : D) : kindD d<=5:=by
 unfold kindD
 split <;> lia
theorem kind1 {d : D} (h : kindD d = 1) : ∃ i,d = .int i:=by
 unfold kindD at h
 split at h <;> first | lia | exact ⟨_,rfl⟩
theorem kind2 {d : D} (h : kindD d = 2) : ∃ i,d = .str i:=by
 unfold kindD at h
 split at h <;> first | lia | exact ⟨_,rfl⟩
theorem kind3 {d : D} (h : kindD d = 3) : ∃ i r,d = .tup (.int i :: r):=by
 unfold kindD at h
 split at h <;> first | lia | exact ⟨_,_,rfl⟩
theorem kind4 {d : D} (h : kindD d = 4) : ∃ i r,d = .tup (.str i :: r):=by
 unfold kindD at h
 split at h <;> first | lia | exact ⟨_,_,rfl⟩
theorem kind5 {d : D} (h : kindD d = 5) : ∃ i r,d = .tup (.tup i :: r):=by
 unfold kindD at h
 split at h <;> first | lia | exact ⟨_,_,rfl⟩
theorem at_mem {xs : List V} {ds : List D} {its : List Value} (r : Reps All H xs ds) (vr : Vals xs its) {u : Value} (hu : u ∈ its) : ∃ v d,RelV v u/\Rep All H v d/\d ∈ ds:=by
 obtain ⟨j,hj,e⟩:=List.getElem_of_mem hu
 have hj' : j < ds.length:=by rw [<- r.length,vr.length];exact hj
 obtain ⟨v,h1,h2⟩:=r.get (i:=j) (d:=ds[j]) (by simp [hj'])
 obtain ⟨u',h3,h4⟩:=vr.get h1
 rw [List.getElem?_eq_getElem hj,e] at h3
 cases h3
 exact ⟨v,_,h4,h2,List.getElem_mem _⟩
open PySem.W in
theorem tups_of (I : Inv X pins σ H s) {T : Value} {F : D->Prop} (hF : ∀ (d : D) (v : V) (u : Value),F d->RelV v u->Rep All H v d->Looks (model X.prog X.w) s.heap (typeOf u) T) :
  ∀ {xs : List V} {ds : List D} {its : List Value},Reps All H xs ds->Vals xs its->(∀ d ∈ ds,∃ f r,d = .tup (f :: r)/\F f)->∃ fs,KatTups s.heap its fs/\fs.length = its.length/\∀ f ∈ fs,Looks (model X.prog X.w) s.heap (typeOf f) T
 | _,_,_,.nil,.nil,_=>⟨[],.nil,rfl,fun _ h=>by simp at h⟩
 | _,_,_,.cons r t,.cons v vt,h=>by
  obtain ⟨fs,h1,h2,h3⟩:=tups_of I hF t vt fun d hd=>h d (List.mem_cons_of_mem _ hd)
  obtain ⟨f,rr,rfl,hf⟩:=h _ (List.mem_cons_self ..)
  obtain ⟨a,ys,rfl,e,rs⟩:=r.tupAt
  cases v
  obtain ⟨its2,vr2,o,ho,hc,n,hd⟩:=fst_of I e
  cases rs with
  | cons r0 rs=>
   cases vr2 with
   | cons v0 vr2=>
    refine ⟨_ :: fs,.cons ho hc hd rfl h1,by simp [h2],fun g hg=>?_⟩
    rcases List.mem_cons.mp hg with rfl | hg
    ·exact hF _ _ _ hf v0 r0
    ·exact h3 g hg
open PySem.W in
theorem sort_rule (I : Inv X pins σ H s) {A : Around} (hu : A.units + eqdepth < cLine) {xs : List V} {ds : List D} {its : List Value} (hc : comparable ds = true) (r : Reps All H xs ds) (vr : Vals xs its) (h2 : 2<=its.length) :
  ∃ κ : SortKind,(∀ Q : SortKind->Shared->Prop,Q κ s->wpAny (model X.prog X.w) A (keyKind' its.toArray) Q (fun _ _=>False) s)/\
   ∀ (x y : Keyed) (Q : Bool->Shared->Prop),sU H ds x->sU H ds y->Q (sLt H x y) s->wpAny (model X.prog X.w) A (keyLt' κ x.1 y.1) Q (fun _ _=>False) s:=by
 have hlen : ds.length = its.length:=by rw [<- r.length,vr.length]
 have hkind : ∀ d ∈ ds,kindD d = kindD (ds.headD .non):=fun d hd=>(cmp_all hc hd).2.2.2.1
 have hne : kindD (ds.headD .non) ≠ 0:=by
  have hd : ds.headD .non ∈ ds:=by
   cases ds with
   | nil=>simp at hlen;lia
   | cons d ds=>simp
  exact (cmp_all hc hd).2.2.1
 have lty : ∀ {x y : Keyed} {v v' : V} {d d' : D},RelV v x.1->Rep All H v d->d ∈ ds->RelV v' y.1->Rep All H v' d'->d' ∈ ds->ordD .lt d d' = some (sLt H x y):=fun {x y v v' d d'} rv rp hd rv' rp' hd'=>by
  have e1:=datOf_eq (cmp_all hc hd).1 (cmp_all hc hd).2.1 rv rp
  have e2:=datOf_eq (cmp_all hc hd').1 (cmp_all hc hd').2.1 rv' rp'
  rw [cmp_lt hc hd hd']
  unfold sLt
  rw [e1,e2]
 -- two tuples whose first items are told by a rule of their own,or by the common one
 have tupl : ∀ (b : Bool) (x y : Keyed) (Q : Bool->Shared->Prop),sU H ds x->sU H ds y->(∀ d ∈ ds,∃ f r,d = .tup (f :: r))->
   (b = true->∀ (f g : D) (v v' : V) (u u' : Value) (k : Bool) (Q : Bool->Shared->Prop),(∃ r,D.tup (f :: r) ∈ ds)->(∃ r,D.tup (g :: r) ∈ ds)->RelV v u->Rep All H v f->RelV v' u'->Rep All H v' g->ordD .lt f g = some k->Q k s->wpAny (model X.prog X.w) A (oneLt' true u u') Q (fun _ _=>False) s)->
   Q (sLt H x y) s->wpAny (model X.prog X.w) A (keyLt' (tuples' b) x.1 y.1) Q (fun _ _=>False) s:=by
  rintro b ⟨x1,x2⟩ ⟨y1,y2⟩ Q ⟨v,d,rv,rp,hd⟩ ⟨v',d',rv',rp',hd'⟩ htup hone q
  have hk:=lty rv rp hd rv' rp' hd'
  have q1:=(cmp_all hc hd).2.1
  have q2:=(cmp_all hc hd').2.1
  obtain ⟨f,rr,rfl⟩:=htup d hd
  obtain ⟨g,rr',rfl⟩:=htup d' hd'
  obtain ⟨a,ys,rfl,e,rs⟩:=rp.tupAt
  obtain ⟨a',ys',rfl,e',rs'⟩:=rp'.tupAt
  cases rv
  cases rv'
  obtain ⟨i1,vr1,o1,ho1,hc1,n1,hd1⟩:=fst_of I e
  obtain ⟨i2,vr2,o2,ho2,hc2,n2,hd2⟩:=fst_of I e'
  rw [ordD] at hk
  have q1' : D.eqoks 11 (f :: rr) = true:=by rw [show eqdepth = 11 + 1 from rfl,D.eqok] at q1;exact q1
  have q2' : D.eqoks 11 (g :: rr') = true:=by rw [show eqdepth = 11 + 1 from rfl,D.eqok] at q2;exact q2
  have hu' : A.units + 11 < cLine:=by have : A.units + 12 < cLine:=hu;lia
  have C:=c2_of I hu' q1' q2' rs rs' vr1 vr2
  refine kat_lt ho1 hd1 ho2 hd2 ?_
  have z1 : i1.toArray.size = (f :: rr).length:=by rw [List.size_toArray,<- vr1.length,rs.length]
  have z2 : i2.toArray.size = (g :: rr').length:=by rw [List.size_toArray,<- vr2.length,rs'.length]
  rw [List.toList_toArray,List.toList_toArray,z1,z2]
  cases b with
  | false=>exact lex_rest i1 i2 (f :: rr) (g :: rr') 0 rfl C hk (by lia) q
  | true=>
   cases rs with
   | cons r0 rs=>
    cases rs' with
    | cons r0' rs'=>
     cases vr1 with
     | cons v0 vr1=>
      cases vr2 with
      | cons v0' vr2=>
       rw [List.zip_cons_cons]
       obtain ⟨he,_⟩:=C.2.2 0 _ _ _ _ rfl rfl rfl rfl
       rw [ordDs] at hk
       refine kat_cons (he X.prog X.w _ _ ?_)
       cases e0 : eqD f g with
       | true=>
        rw [e0,if_pos rfl] at hk
        exact kat_yes (lex_rest _ _ rr rr' 1 (by simp) C.tail hk (by simp only [List.length_cons];lia) q)
       | false=>
        rw [e0,if_neg (by simp)] at hk
        refine kat_no ?_
        exact hone rfl f g _ _ _ _ _ Q ⟨_,hd⟩ ⟨_,hd'⟩ v0 r0 v0' r0' hk q
 have h5:=kind_le (ds.headD .non)
 have cases5 : kindD (ds.headD .non) = 1\/kindD (ds.headD .non) = 2\/kindD (ds.headD .non) = 3\/kindD (ds.headD .non) = 4\/kindD (ds.headD .non) = 5:=by lia
 rcases cases5 with c | c | c | c | c
 ·refine ⟨oneType',fun Q q=>kas_kind (T:=.type "int") h2 (fun u hm=>?_) (by decide) (by decide) q,fun x y Q hx hy q=>?_⟩
  ·obtain ⟨v,d,rv,rp,hd⟩:=at_mem r vr hm
   obtain ⟨i,rfl⟩:=kind1 ((hkind d hd).trans c)
   cases rp
   obtain ⟨t,rfl⟩:=rv
   exact Looks.of_pure rfl
  ·obtain ⟨v,d,rv,rp,hd⟩:=hx
   obtain ⟨v',d',rv',rp',hd'⟩:=hy
   have hk:=lty rv rp hd rv' rp' hd'
   obtain ⟨i,rfl⟩:=kind1 ((hkind d hd).trans c)
   obtain ⟨j,rfl⟩:=kind1 ((hkind d' hd').trans c)
   cases rp;cases rp'
   obtain ⟨t,e1⟩:=rv
   obtain ⟨t',e2⟩:=rv'
   rw [ordD] at hk
   rw [<- Option.some.inj hk] at q
   rw [e1,e2,PyProof.Rows.keyLt'_oneType]
   exact PyProof.Rows.oneLt_int q
 ·refine ⟨oneType',fun Q q=>kas_kind (T:=.type "str") h2 (fun u hm=>?_) (by decide) (by decide) q,fun x y Q hx hy q=>?_⟩
  ·obtain ⟨v,d,rv,rp,hd⟩:=at_mem r vr hm
   obtain ⟨i,rfl⟩:=kind2 ((hkind d hd).trans c)
   cases rp
   obtain ⟨t,rfl⟩:=rv
   exact Looks.of_pure rfl
  ·obtain ⟨v,d,rv,rp,hd⟩:=hx
   obtain ⟨v',d',rv',rp',hd'⟩:=hy
   have hk:=lty rv rp hd rv' rp' hd'
   obtain ⟨i,rfl⟩:=kind2 ((hkind d hd).trans c)
   obtain ⟨j,rfl⟩:=kind2 ((hkind d' hd').trans c)
   cases rp;cases rp'
   obtain ⟨t,e1⟩:=rv
   obtain ⟨t',e2⟩:=rv'
   rw [ordD] at hk
   rw [<- Option.some.inj hk] at q
   rw [e1,e2,PyProof.Rows.keyLt'_oneType]
   exact PyProof.Rows.oneLt_str q
 ·obtain ⟨fs,t1,t2,t3⟩:=tups_of I (T:=.type "int") (F:=fun f=>∃ i,f = .int i) (fun d v u hf rv rp=>by
   obtain ⟨i,rfl⟩:=hf
   cases rp
   obtain ⟨t,rfl⟩:=rv
   exact Looks.of_pure rfl) r vr (fun d hd=>by
   obtain ⟨i,rr,rfl⟩:=kind3 ((hkind d hd).trans c)
   exact ⟨_,_,rfl,i,rfl⟩)
  refine ⟨tuples' true,fun Q q=>kat_kind (T:=.type "int") t1 (by lia) t3 (by decide) q,fun x y Q hx hy q=>tupl true x y Q hx hy (fun d hd=>?_) (fun _ f g v v' u u' k Q hf hg rv rp rv' rp' hk q=>?_) q⟩
  ·obtain ⟨i,rr,rfl⟩:=kind3 ((hkind d hd).trans c)
   exact ⟨_,_,rfl⟩
  ·obtain ⟨r1,hf⟩:=hf
   obtain ⟨r2,hg⟩:=hg
   obtain ⟨i,rr,e1⟩:=kind3 ((hkind _ hf).trans c)
   obtain ⟨j,rr',e2⟩:=kind3 ((hkind _ hg).trans c)
   cases e1;cases e2
   cases rp;cases rp'
   obtain ⟨t,rfl⟩:=rv
   obtain ⟨t',rfl⟩:=rv'
   rw [ordD] at hk
   rw [<- Option.some.inj hk] at q
   exact PyProof.Rows.oneLt_int q
 ·obtain ⟨fs,t1,t2,t3⟩:=tups_of I (T:=.type "str") (F:=fun f=>∃ i,f = .str i) (fun d v u hf rv rp=>by
   obtain ⟨i,rfl⟩:=hf
   cases rp
   obtain ⟨t,rfl⟩:=rv
   exact Looks.of_pure rfl) r vr (fun d hd=>by
   obtain ⟨i,rr,rfl⟩:=kind4 ((hkind d hd).trans c)
   exact ⟨_,_,rfl,i,rfl⟩)
  refine ⟨tuples' true,fun Q q=>kat_kind (T:=.type "str") t1 (by lia) t3 (by decide) q,fun x y Q hx hy q=>tupl true x y Q hx hy (fun d hd=>?_) (fun _ f g v v' u u' k Q hf hg rv rp rv' rp' hk q=>?_) q⟩
  ·obtain ⟨i,rr,rfl⟩:=kind4 ((hkind d hd).trans c)
   exact ⟨_,_,rfl⟩
  ·obtain ⟨r1,hf⟩:=hf
   obtain ⟨r2,hg⟩:=hg
   obtain ⟨i,rr,e1⟩:=kind4 ((hkind _ hf).trans c)
   obtain ⟨j,rr',e2⟩:=kind4 ((hkind _ hg).trans c)
   cases e1;cases e2
   cases rp;cases rp'
   obtain ⟨t,rfl⟩:=rv
   obtain ⟨t',rfl⟩:=rv'
   rw [ordD] at hk
   rw [<- Option.some.inj hk] at q
   exact PyProof.Rows.oneLt_str q
 ·obtain ⟨fs,t1,t2,t3⟩:=tups_of I (T:=.type "tuple") (F:=fun f=>∃ i,f = .tup i) (fun d v u hf rv rp=>by
   obtain ⟨i,rfl⟩:=hf
   obtain ⟨a,ys,rfl,e,rs⟩:=rp.tupAt
   cases rv
   obtain ⟨i1,vr1,o1,ho1,hc1,n1,hd1⟩:=fst_of I e
   have:=(show Looks (model X.prog X.w) s.heap (typeOf (.ref a)) o1.cls from (Looks.ld ho1).andThen .now)
   rwa [hc1] at this) r vr (fun d hd=>by
   obtain ⟨i,rr,rfl⟩:=kind5 ((hkind d hd).trans c)
   exact ⟨_,_,rfl,i,rfl⟩)
  refine ⟨tuples' false,fun Q q=>kat_kind (T:=.type "tuple") t1 (by lia) t3 (by decide) q,fun x y Q hx hy q=>tupl false x y Q hx hy (fun d hd=>?_) (fun h=>by cases h) q⟩
  obtain ⟨i,rr,rfl⟩:=kind5 ((hkind d hd).trans c)
  exact ⟨_,_,rfl⟩
theorem sort_lt (I : Inv X pins σ H s) {A : Around} {ds : List D} {κ : SortKind} (h : ∀ (x y : Keyed) (Q : Bool->Shared->Prop),sU H ds x->sU H ds y->Q (sLt H x y) s->wpAny (model X.prog X.w) A (keyLt' κ x.1 y.1) Q (fun _ _=>False) s) :
  TS.LtOk X.prog X.w A (fun _ _=>False) s κ (sU H ds) (sLt H):=by
 intro x y st Q hx hy hk q
 rw [PyProof.Rows.lt'_eq]
 refine wpS_bind (wpS_get ?_)
 rw [hk]
 refine wpS_bind (wpS_lift (wpAny_attempt (wpAny_mono (h x y (fun b s'=>s' = s/\b = sLt H x y) hx hy ⟨rfl,rfl⟩) (fun b s' ⟨e1,e2⟩=>⟨e1,?_⟩) fun _ _ z=>False.elim z)))
 subst e2
 exact wpS_pure q
theorem sorted_repG {Q : VK} {v : Value} {its : List Value} {xs : List V} {ds : List D} (I : Inv X pins σ H s) (hu : X.A.units + 20 < cLine) (vr : Vals xs its) (hn : its.length<=sizeLine) (r : Reps All H xs ds) (hc : comparable ds = true)
  (hcol : ∀ (Q' : List Value->Shared->Prop) (E' : Value->Shared->Prop),(∀ h1 tk,(∀ b o,s.heap.get? b = some o->h1.get? b = some o)->s.heap.objs.size<=h1.objs.size->Q' its { s with heap:=h1,toks:=tk })->wpAny (model X.prog X.w) X.A.in1 (collect v) Q' E' s)
  (q : ∀ p xs',H p = none->Reps All H xs' (sortD ds)->Q (.ref p) (upd H p (.lst xs'))) : wpAny (model X.prog X.w) X.A (call (.builtin "sorted") [v]) (EP X pins σ Q) X.xe s:=by
 have hz : xs.length<=sizeLine:=by rw [vr.length];exact hn
 -- what comes,told by its data
 have fin : ∀ (h1 : Heap) (tk : Nat),(∀ b o,s.heap.get? b = some o->h1.get? b = some o)->s.heap.objs.size<=h1.objs.size->∀ arr : Array Keyed,arr.Perm (pairsOf its)->(∀ i j,i<=j->j < arr.size->leE (datOf H (TS.gt arr i).1) (datOf H (TS.gt arr j).1) = true)->EP X pins σ Q (.ref h1.objs.size) { s with heap:=TS.outH h1 its (arr.map (·.2)),toks:=tk }:=by
  intro h1' tk kp hle arr hp hs
  have hpl : arr.toList.Perm (its.zip its):=by rw [<- PyProof.Rows.pairsOf_toList];exact Array.perm_iff_toList_perm.mp hp
  have hmem : ∀ p ∈ arr.toList,p.1 = p.2/\p.1 ∈ its:=fun p hp'=>PyProof.Rows.mem_zip_self (hpl.mem_iff.mp hp')
  have e1 : (arr.map (·.2)).toList = arr.toList.map (·.1):=by
   rw [Array.toList_map];exact List.map_congr_left fun p hp'=>(hmem p hp').1.symm
  -- the values and their data
  have all : ∀ l : List Keyed,(∀ p ∈ l,p ∈ arr.toList)->∃ ys,Vals ys (l.map (·.1))/\Reps All H ys (l.map fun p=>datOf H p.1):=by
   intro l
   induction l with
   | nil=>intro _;exact ⟨[],.nil,.nil⟩
   | cons p l ih=>
    intro h
    obtain ⟨ys,h1,h2⟩:=ih fun p hp'=>h p (List.mem_cons_of_mem _ hp')
    obtain ⟨v,d,rv,rp,hd⟩:=at_mem r vr (hmem p (h p (List.mem_cons_self ..))).2
    refine ⟨v :: ys,.cons rv h1,?_⟩
    rw [List.map_cons,datOf_eq (cmp_all hc hd).1 (cmp_all hc hd).2.1 rv rp]
    exact .cons rp h2
  obtain ⟨ys,h1,h2⟩:=all arr.toList fun _ h=>h
  have dats : its.map (datOf H) = ds:=by
   clear all h1 h2 hp hs hpl hmem e1
   have : ∀ {xs : List V} {es : List D} {us : List Value},Reps All H xs es->Vals xs us->(∀ d ∈ es,d ∈ ds)->us.map (datOf H) = es:=by
    intro xs es us r
    induction us generalizing xs es with
    | nil=>intro v _;cases v;cases r;rfl
    | cons u us ih=>
     intro v hsub
     cases v with
     | cons v0 vt=>
      cases r with
      | cons r0 rt=>
       have hd:=hsub _ (List.mem_cons_self ..)
       rw [List.map_cons,ih rt vt fun d hd=>hsub d (List.mem_cons_of_mem _ hd),datOf_eq (cmp_all hc hd).1 (cmp_all hc hd).2.1 v0 r0]
   exact this r vr fun _ h=>h
  have hperm : (arr.toList.map fun p=>datOf H p.1).Perm ds:=by
   have:=hpl.map fun p=>datOf H p.1
   have e2 : (its.zip its).map (fun p=>datOf H p.1) = ds:=by
    have : (its.zip its).map (fun p=>datOf H p.1) = ((its.zip its).map Prod.fst).map (datOf H):=by rw [List.map_map];rfl
    rw [this,List.map_fst_zip (Nat.le_refl _),dats]
   rwa [e2] at this
  have hsorted : (arr.toList.map fun p=>datOf H p.1).Pairwise fun a b=>leE a b = true:=by
   rw [List.pairwise_map,List.pairwise_iff_getElem]
   intro i j hi hj hij
   have:=hs i j (Nat.le_of_lt hij) (by simpa using hj)
   have g : ∀ k (hk : k < arr.toList.length),TS.gt arr k = arr.toList[k]:=fun k hk=>by
    unfold TS.gt
    have hk' : k < arr.size:=by simpa using hk
    simp [Array.getD,hk']
   rwa [g i hi,g j hj] at this
  have eq : (arr.toList.map fun p=>datOf H p.1) = sortD ds:=by
   refine sorted_eq (fun d hd=>?_) (hperm.trans (sortD_perm ds).symm) hsorted (sortD_sorted ds)
   exact (cmp_all hc (hperm.mem_iff.mp hd)).1
  rw [eq] at h2
  rw [<- e1] at h1
  have hfr : H h1'.objs.size = none:=I.hok.fresh hle
  obtain ⟨ee,he⟩:=TS.outH_at h1' its (arr.map (·.2))
  refine ⟨.ref h1'.objs.size,_,I.laid (t':=tk) (fun b o e=>TS.outH_old (kp b o e)) hle ?_,rfl,q _ ys hfr h2⟩
  refine ⟨?_,(arr.map (·.2)).toList,ee,h1,by rw [he]⟩
  rw [h2.length,(sortD_perm ds).length_eq,<- r.length]
  exact hz
 refine TS.sorted_gen hn hcol (fun hh tk kp hle h2=>?_) (fun hh tk kp hle h2=>?_)
 ·have I' : Inv X pins σ H { s with heap:=TS.midH hh its,toks:=tk }:=I.kept (t':=tk) fun b o e=>TS.midH_old (kp b o e)
  have hu2 : X.A.in1.in1.units + eqdepth < cLine:=by show X.A.units + 1 + 1 + 12 < cLine;lia
  obtain ⟨κ,k1,k2⟩:=sort_rule I' hu2 hc r vr h2
  refine ⟨κ,sU H ds,sLt H,sOrd H ds,fun i hi=>?_,k1,sort_lt I' k2,fun arr p z=>fin hh tk kp hle arr p fun i j a1 a2=>?_⟩
  ·rw [PyProof.Rows.pairsOf_size] at hi
   have e : TS.gt (pairsOf its) i = (its[i],its[i]):=by
    unfold TS.gt pairsOf
    simp [Array.getD,hi]
   rw [e]
   exact at_mem r vr (List.getElem_mem hi)
  ·have:=z i j (Nat.zero_le _) a1 (by rw [<- p.size_eq];exact a2)
   unfold leE
   unfold sLt at this
   rw [this];rfl
 ·refine fin hh tk kp hle _ (Array.Perm.refl _) fun i j a1 a2=>?_
  rw [PyProof.Rows.pairsOf_size] at a2
  rw [show i = j by lia]
  simp [leE,List.lt_irrefl]
theorem sorted_rep {Q : VK} {l : Addr} {xs : List V} {ds : List D} (I : Inv X pins σ H s) (hu : X.A.units + 20 < cLine) (hl : SqL X.K H l xs) (r : Reps All H xs ds) (hc : comparable ds = true)
  (q : ∀ p xs',H p = none->Reps All H xs' (sortD ds)->Q (.ref p) (upd H p (.lst xs'))) : wpAny (model X.prog X.w) X.A (call (.builtin "sorted") [.ref l]) (EP X pins σ Q) X.xe s:=by
 obtain ⟨its,vr,pl,hz⟩:=I.list hl
 have hn : its.length<=sizeLine:=by rw [<- vr.length];exact hz
 refine sorted_repG I hu vr hn r hc (fun Q' E' h=>PyProof.Rows.collect_list pl.isList (h _ s.toks (fun b o e=>?_) ?_) hn) q
 ·rw [Heap.get?_update_ne _ _ _ _ (Nat.ne_of_lt (Heap.lt_size e))]
  exact Heap.get?_push_of_some _ e
 ·rw [Heap.size_update,PyProof.Rows.size_push']
  exact Nat.le_succ _
end
end Mi
end
section
set_option maxRecDepth 100000
namespace Mi
open PySem L2 PySem.SeqAt PySem.Spec PyProof.Rows
variable [KFrag]
noncomputable def kR (H : Hp) (d : D) (fr : Bool) (Q : VK) : Prop:=∀ v H',Same H H'->Rep All H' v d->(fr = true->Rep (New H) H' v d)->Q v H'
noncomputable def gE (f : FE) (fr : Bool) : TE:=fun σ H Q=>∃ ρ d,ER H σ ρ/\f ρ = .ok d/\kR H d fr Q
noncomputable def gT (f : FT) : TT:=fun σ H Q=>∃ ρ b,ER H σ ρ/\f ρ = .ok b/\∀ H',Same H H'->Q b H'
noncomputable def gA (f : FA) (fr : Bool) : TA:=fun σ H Q=>∃ ρ ds,ER H σ ρ/\f ρ = .ok ds/\∀ vs H',Same H H'->Reps All H' vs ds->(fr = true->Reps (New H) H' vs ds)->Q vs H'
theorem kR.self {H : Hp} {d : D} {fr : Bool} {Q : VK} {v : V} (q : kR H d fr Q) (r : Rep All H v d) (r2 : fr = true->Rep (New H) H v d) : Q v H:=q v H (Same.refl H) r r2
theorem kR.imp {H H' : Hp} {d : D} {fr fr' : Bool} {Q : VK} (q : kR H d fr Q) (s : Same H H') (h : fr = true->fr' = true) : kR H' d fr' Q:=fun v H2 s2 r n=>q v H2 (s.trans s2) r fun hf=>(n (h hf)).mono (Same.new s)
theorem kR.int {H : Hp} {i : Int} {fr : Bool} {Q : VK} (q : kR H (.int i) fr Q) : Q (.int i) H:=q.self (.int i) fun _=>.int i
theorem kR.bl {H : Hp} {i : Bool} {fr : Bool} {Q : VK} (q : kR H (.bl i) fr Q) : Q (.bl i) H:=q.self (.bl i) fun _=>.bl i
theorem kR.str {H : Hp} {i : Str} {fr : Bool} {Q : VK} (q : kR H (.str i) fr Q) : Q (.str i) H:=q.self (.str i) fun _=>.str i
noncomputable def r2 (f : D->D->Res D) (fr : Bool) : R2:=fun x y H Q=>∃ a b d,Rep All H x a/\Rep All H y b/\f a b = .ok d/\kR H d fr Q
noncomputable def r1 (f : D->Res D) (fr : Bool) : V->Hp->VK->Prop:=fun x H Q=>∃ a d,Rep All H x a/\f a = .ok d/\kR H d fr Q
noncomputable def rs (f : List D->Res D) (fr : Bool) : List V->Hp->VK->Prop:=fun xs H Q=>∃ ds d,Reps All H xs ds/\f ds = .ok d/\kR H d fr Q
theorem bindE {α β : Type} {m : Res α} {f : α->Res β} {b : β} (h : (do let x <- m;f x) = .ok b) : ∃ a,m = .ok a/\f a = .ok b:=Res.bind_ok h
section
variable {X : Cx} {a b c e : Expr} {pos : Pos} {fa fb fc fe : FE} {ra rb rc re : Bool} {ga gb gc : FT}
theorem ER.var {H : Hp} {σ : L2.St} {ρ : List D} {i : Nat} {d : D} (E : ER H σ ρ) (h : bVar i ρ = .ok d) : ∃ v,σ[i]? = some (some v)/\Rep All H v d/\ρ.getD i .undef = d:=by
 have : ρ.getD i .undef = d/\d ≠ .undef:=by
  unfold bVar at h
  split at h
  ·cases h
  ·cases h
   refine ⟨rfl,fun z=>?_⟩
   rename_i q
   exact q z
 obtain ⟨e1,e2⟩:=this
 obtain ⟨v,h1,h2⟩:=E i (by rw [e1];exact e2)
 exact ⟨v,h1,by rw [e1] at h2;exact h2,e1⟩
theorem me_var {i : Nat} {x : Str} (hN : X.N[i]? = some x) (hv : Vis X.env.scope x) (hd : (x == ("__debug__" : Str)) = false:=by decide) (hcd : (x == ("__classdict__" : Str)) = false:=by decide) : PE X (.Name x pos) (gE (bVar i) false):=
 PE.imp (pe_var hN hv hd hcd) fun σ H Q ⟨ρ,d,E,h,q⟩=>by
  obtain ⟨v,h1,h2,_⟩:=E.var h
  exact ⟨v,h1,q.self h2 (fun z=>by cases z)⟩
theorem me_int {i j} : PE X (.Constant (.int i) j pos) (gE (bC (.int i)) true):=PE.imp pe_int fun σ H Q ⟨ρ,d,E,h,q⟩=>by cases h;exact q.int
theorem me_bl {i j} : PE X (.Constant (.bool i) j pos) (gE (bC (.bl i)) true):=PE.imp pe_bl fun σ H Q ⟨ρ,d,E,h,q⟩=>by cases h;exact q.bl
theorem me_str {i j} : PE X (.Constant (.str i) j pos) (gE (bC (.str i)) true):=PE.imp pe_str fun σ H Q ⟨ρ,d,E,h,q⟩=>by cases h;exact q.str
theorem two {f : D->D->Res D} {fr : Bool} {σ : L2.St} {H : Hp} {Q : VK} (h : gE (b2 f fa fb) fr σ H Q) : tOp (r2 f fr) (gE fa ra) (gE fb rb) σ H Q:=by
 obtain ⟨ρ,d,E,h,q⟩:=h
 obtain ⟨x,h1,h⟩:=bindE h
 obtain ⟨y,h2,h⟩:=bindE h
 refine ⟨ρ,x,E,h1,fun v H1 s1 rp1 _=>⟨ρ,y,E.same s1,h2,fun u H2 s2 rp2 _=>⟨x,y,d,rp1.same s2,rp2,h,q.imp (s1.trans s2) id⟩⟩⟩
theorem me_op {o : Operator} {f : D->D->Res D} {fr : Bool} (ho : OpR X (binaryOp o) (r2 f fr)) (ha : PE X a (gE fa ra)) (hb : PE X b (gE fb rb)) : PE X (.BinOp a o b pos) (gE (b2 f fa fb) fr):=PE.imp (pe_op ho ha hb) fun _ _ _=>two
theorem me_cmp {o : CmpOp} {f : D->D->Res D} {fr : Bool} (ho : OpR X (compareOp o) (r2 f fr)) (ha : PE X a (gE fa ra)) (hb : PE X b (gE fb rb)) (hm : behindInMarks o b = false) : PE X (.Compare a [o] [b] pos) (gE (b2 f fa fb) fr):=PE.imp (pe_cmpR ho ha hb hm) fun _ _ _=>two
theorem mt_cmp {o : CmpOp} {f : D->D->Res D} {fr : Bool} (ho : OpR X (compareOp o) (r2 f fr)) (ha : PE X a (gE fa ra)) (hb : PE X b (gE fb rb)) (hm : behindInMarks o b = false) : PT X (.Compare a [o] [b] pos) (gT (bTB (b2 f fa fb))):=
 PT.imp (pt_cmpR ho ha hb hm) fun σ H Q ⟨ρ,k,E,h,q⟩=>by
  obtain ⟨d,h1,h2⟩:=bindE h
  refine two ⟨ρ,d,E,h1,fun v H' s r _=>?_⟩
  cases d <;> simp only [asB] at h2 <;> cases h2
  cases r
  exact ⟨_,rfl,q H' s⟩
theorem me_un {o : UnaryOp} {f : D->Res D} {fr : Bool} (ho : UnR X (unaryOp o) (r1 f fr)) (ha : PE X a (gE fa ra)) : PE X (.UnaryOp o a pos) (gE (b1 f fa) fr):=
 PE.imp (pe_un ho ha) fun σ H Q ⟨ρ,d,E,h,q⟩=>by
  obtain ⟨x,h1,h⟩:=bindE h
  exact ⟨ρ,x,E,h1,fun v H1 s1 rp1 _=>⟨x,d,rp1,h,q.imp s1 id⟩⟩
theorem me_ix {f : D->D->Res D} {fr : Bool} (ho : IxR X (r2 f fr)) (ha : PE X a (gE fa ra)) (hb : PE X b (gE fb rb)) (hs : PlainIx b) : PE X (.Subscript a b pos) (gE (b2 f fa fb) fr):=PE.imp (pe_ix ho ha hb hs) fun _ _ _=>two
theorem truV {H : Hp} {v : V} {d : D} {k : Bool} (r : Rep All H v d) (h : truD d = .ok k) (hd : ∀ kvs,d ≠ .dct kvs) (hs : ∀ xs,d ≠ .scr xs) : TruV X.K v H k:=by
 cases r with
 | non=>cases h;rfl
 | bl b=>cases h;rfl
 | int i=>cases h;rfl
 | str x=>
  simp only [truD] at h
  split at h
  ·rename_i hl
   cases h
   exact ⟨Nat.le_trans (of_decide_eq_true hl) (by rw [sizeLine_eq];decide),rfl⟩
  ·cases h
 | tup e rr=>cases h;exact .inr (.inl ⟨_,.of e,by cases rr <;> rfl⟩)
 | lst e p rr=>cases h;exact .inl ⟨_,.of e,by cases rr <;> rfl⟩
 | frz e rr=>exact absurd rfl (hs _)
 | dK e p rr n=>exact absurd rfl (hd _)
 | dT e p rr n=>exact absurd rfl (hd _)
 | fdK e rr n=>cases h
 | fdT e rr n=>cases h
theorem mt_val (ha : PE X a (gE fa ra)) (he : ∀ whole,isTrue a X.env whole = (do let v <- whole;standAt a.pos;holding [v] (truthy v)):=by intro _;rfl) : PT X a (gT (bTr fa)):=
 PT.imp (pt_truth ha he) fun σ H Q ⟨ρ,k,E,h,q⟩=>by
  obtain ⟨d,h1,h2⟩:=bindE h
  refine ⟨ρ,d,E,h1,fun v H' s r _=>⟨k,truV r ?_ ?_ ?_,q H' s⟩⟩
  ·cases d <;> first | exact h2 | cases h2
  ·rintro kvs rfl;cases h2
  ·rintro kvs rfl;cases h2
theorem mt_not (ha : PT X a (gT ga)) : PT X (.UnaryOp .Not a pos) (gT (bNot ga)):=PT.imp (pt_not ha) fun σ H Q ⟨ρ,k,E,h,q⟩=>by
  obtain ⟨d,h1,h2⟩:=bindE h
  cases h2
  exact ⟨ρ,d,E,h1,fun H' s=>q H' s⟩
theorem me_one {op} (ha : PE X a (gE fa ra)) : PE X (.BoolOp op [a] pos) (gE fa ra):=pe_one ha
theorem asB_ok {d : D} {k : Bool} (h : asB d = .ok k) : d = .bl k:=by cases d <;> simp only [asB] at h <;> cases h;rfl
theorem asI_ok {d : D} {k : Int} (h : asI d = .ok k) : d = .int k:=by cases d <;> simp only [asI] at h <;> cases h;rfl
theorem me_not (ha : PE X a (gE fa ra)) : PE X (.UnaryOp .Not a pos) (gE (bNotV fa) true):=PE.imp (pe_not ha) fun σ H Q ⟨ρ,k,E,h,q⟩=>by
  obtain ⟨d,h1,h⟩:=bindE h
  obtain ⟨z,h2,h⟩:=bindE h
  cases h
  cases asB_ok h2
  exact ⟨ρ,_,E,h1,fun v H' s r _=>by cases r;exact ⟨_,rfl,(q.imp s id).bl⟩⟩
theorem me_and {rest : List Expr} (ha : PE X a (gE fa ra)) (hb : PE X (.BoolOp .And (b :: rest) pos) (gE fb rb)) : PE X (.BoolOp .And (a :: b :: rest) pos) (gE (bAndV fa fb) rb):=PE.imp (pe_and ha hb) fun σ H Q ⟨ρ,k,E,h,q⟩=>by
  obtain ⟨d,h1,h⟩:=bindE h
  obtain ⟨z,h2,h3⟩:=bindE h
  cases asB_ok h2
  refine ⟨ρ,_,E,h1,fun v H' s r _=>?_⟩
  cases r
  refine ⟨_,rfl,?_⟩
  cases z with
  | true=>rw [if_pos rfl];rw [if_pos rfl] at h3;exact ⟨ρ,k,E.same s,h3,q.imp s id⟩
  | false=>rw [if_neg (by simp)];rw [if_neg (by simp)] at h3;cases h3;exact (q.imp s id).bl
theorem ma_nil : PA X [] (gA bNil true):=PA.imp pa_nil fun σ H Q ⟨ρ,ds,E,h,q⟩=>by cases h;exact q [] H (Same.refl H) .nil fun _=>.nil
theorem ma_cons {es : List Expr} {f : FA} {r : Bool} (he : PE X e (gE fe re)) (hes : PA X es (gA f r)) (hs : starEach (e :: es) X.env = (false,eval e X.env) :: starEach es X.env:=by rfl) : PA X (e :: es) (gA (bCons fe f) (re && r)):=PA.imp (pa_cons he hes hs) fun σ H Q ⟨ρ,ds,E,h,q⟩=>by
  obtain ⟨x,h1,h⟩:=bindE h
  obtain ⟨xs,h2,h⟩:=bindE h
  cases h
  refine ⟨ρ,x,E,h1,fun v H1 s1 r1 n1=>⟨ρ,xs,E.same s1,h2,fun vs H2 s2 r2 n2=>q _ _ (s1.trans s2) (.cons (r1.same s2) r2) fun hf=>?_⟩⟩
  obtain ⟨f1,f2⟩:=(Bool.and_eq_true _ _ ▸ hf : re = true/\r = true)
  exact .cons ((n1 f1).same s2) ((n2 f2).mono (Same.new s1))
theorem me_tup {es : List Expr} {f : FA} {r : Bool} {x1} (h : PA X es (gA f r)) : PE X (.Tuple es x1 pos) (gE (bTup f) r):=PE.imp (pe_tup h) fun σ H Q ⟨ρ,d,E,h,q⟩=>by
  obtain ⟨xs,h1,h⟩:=bindE h
  split at h
  ·rename_i hl
   cases h
   refine ⟨ρ,xs,E,h1,fun vs H1 s1 r1 n1=>⟨?_,fun p hp=>?_⟩⟩
   ·rw [r1.length];exact Nat.le_trans (of_decide_eq_true hl) (by rw [sizeLine_eq];decide)
   ·have sp : Same H1 (upd H1 p (.tup vs)):=Same.upd hp
    exact q _ _ (s1.trans sp) (.tup upd_same (r1.same sp)) fun hf=>.tup upd_same ((n1 hf).same sp)
  ·cases h
theorem me_lst {es : List Expr} {f : FA} {r : Bool} (h : PA X es (gA f r)) : PE X (.List es pos) (gE (bLst f) r):=PE.imp (pe_lst h) fun σ H Q ⟨ρ,d,E,h,q⟩=>by
  obtain ⟨xs,h1,h⟩:=bindE h
  split at h
  ·rename_i hl
   cases h
   refine ⟨ρ,xs,E,h1,fun vs H1 s1 r1 n1=>⟨?_,fun p hp=>?_⟩⟩
   ·rw [r1.length];exact Nat.le_trans (of_decide_eq_true hl) (by rw [sizeLine_eq];decide)
   ·have sp : Same H1 (upd H1 p (.lst vs)):=Same.upd hp
    exact q _ _ (s1.trans sp) (.lst upd_same trivial (r1.same sp)) fun hf=>.lst upd_same (s1.free hp) ((n1 hf).same sp)
  ·cases h
theorem me_dnewK : PE X (.Dict [] [] pos) (gE (bC (.dct [])) true):=PE.imp pe_dnewK fun σ H Q ⟨ρ,d,E,h,q⟩=>by
  cases h
  exact fun p hp=>q _ _ (Same.upd hp) (.dK upd_same trivial .nil List.nodup_nil) fun _=>.dK upd_same hp .nil List.nodup_nil
end
end Mi
end
section
set_option maxRecDepth 100000
namespace Mi
open PySem L2 PySem.SeqAt PySem.Spec PyProof.Rows
variable [KFrag]
section
variable {X : Cx} {a b c e : Expr} {pos : Pos} {fa fb fc fe : FE} {ra rb rc re : Bool} {ga gb gc : FT}
theorem lim_line {n : Nat} (h : decide (n<=lim) = true) : n<=sizeLine:=Nat.le_trans (of_decide_eq_true h) (by rw [sizeLine_eq];decide)
theorem lim_lt {n : Nat} (h : decide (n < lim) = true) : n < sizeLine:=Nat.lt_of_lt_of_le (of_decide_eq_true h) (by rw [sizeLine_eq];decide)
theorem Rep.lstRd {P : Addr->Prop} {H : Hp} {v : V} {ds : List D} (r : Rep P H v (.lst ds)) : ∃ a xs,v = .ref a/\Rd H a (.lst xs)/\Reps P H xs ds:=by
 cases r with
 | lst e p rr=>exact ⟨_,_,rfl,.inl e,rr⟩
theorem PW.imp {X : Cx} {e : PySem.Expr} {t t' : TT} (h : PW X e t) (i : ∀ σ H Q,t' σ H Q->t σ H Q) : PW X e t':=fun wh pins s σ H Q I q=>h wh pins s σ H Q I (i σ H Q q)
theorem mw_and1 (ha : PT X a (gT ga)) : PW X (.BoolOp .And [a] pos) (gT ga):=pw_and1 ha
theorem mw_or1 (ha : PT X a (gT ga)) : PW X (.BoolOp .Or [a] pos) (gT ga):=pw_or1 ha
theorem mw_and {rest : List Expr} (ha : PT X a (gT ga)) (hb : PW X (.BoolOp .And (b :: rest) pos) (gT gb)) : PW X (.BoolOp .And (a :: b :: rest) pos) (gT (bAnd ga gb)):=PW.imp (pw_and ha hb) fun σ H Q ⟨ρ,k,E,h,q⟩=>by
 obtain ⟨z,h1,h3⟩:=bindE h
 refine ⟨ρ,z,E,h1,fun H' s=>?_⟩
 cases z with
 | true=>rw [if_pos rfl];rw [if_pos rfl] at h3;exact ⟨ρ,k,E.same s,h3,fun H2 s2=>q H2 (s.trans s2)⟩
 | false=>rw [if_neg (by simp)];rw [if_neg (by simp)] at h3;cases h3;exact q H' s
theorem mw_or {rest : List Expr} (ha : PT X a (gT ga)) (hb : PW X (.BoolOp .Or (b :: rest) pos) (gT gb)) : PW X (.BoolOp .Or (a :: b :: rest) pos) (gT (bOr ga gb)):=PW.imp (pw_or ha hb) fun σ H Q ⟨ρ,k,E,h,q⟩=>by
 obtain ⟨z,h1,h3⟩:=bindE h
 refine ⟨ρ,z,E,h1,fun H' s=>?_⟩
 cases z with
 | true=>rw [if_pos rfl];rw [if_pos rfl] at h3;cases h3;exact q H' s
 | false=>rw [if_neg (by simp)];rw [if_neg (by simp)] at h3;exact ⟨ρ,k,E.same s,h3,fun H2 s2=>q H2 (s.trans s2)⟩
theorem chain3 {f g : D->D->Res D} {r r' : Bool} {σ : L2.St} {H : Hp} {Q : VK} (h : gE (bCh f g fa fb fc) r' σ H Q) : tChain (r2 f r) (r2 g r') (gE fa ra) (gE fb rb) (gE fc rc) σ H Q:=by
 obtain ⟨ρ,d,E,h,q⟩:=h
 obtain ⟨x,h1,h⟩:=bindE h
 obtain ⟨y,h2,h⟩:=bindE h
 obtain ⟨z,h3,h⟩:=bindE h
 obtain ⟨k,h4,h7⟩:=bindE h
 refine ⟨ρ,x,E,h1,fun v H1 s1 rp1 _=>⟨ρ,y,E.same s1,h2,fun u H2 s2 rp2 _=>⟨x,y,z,rp1.same s2,rp2,h3,fun t H3 s3 rp3 _=>?_⟩⟩⟩
 have e:=asB_ok h4
 subst e
 cases rp3
 refine ⟨k,rfl,?_⟩
 have s13:=(s1.trans s2).trans s3
 cases k with
 | true=>
  rw [if_pos rfl]
  rw [if_pos rfl] at h7
  obtain ⟨w,h5,h6⟩:=bindE h7
  exact ⟨ρ,w,E.same s13,h5,fun t H4 s4 rp4 _=>⟨y,w,d,(rp2.same s3).same s4,rp4,h6,q.imp (s13.trans s4) id⟩⟩
 | false=>
  rw [if_neg (by simp)]
  rw [if_neg (by simp)] at h7
  cases h7
  exact (q.imp s13 id).bl
theorem mt_chain {o o' : CmpOp} {f g : D->D->Res D} {r r' : Bool} (ho : OpR X (compareOp o) (r2 f r)) (ho' : OpR X (compareOp o') (r2 g r')) (ha : PE X a (gE fa ra)) (hb : PE X b (gE fb rb)) (hc : PE X c (gE fc rc))
  (hm : lastMarks [o,o'] [b,c] = false:=by with_unfolding_all rfl) : PT X (.Compare a [o,o'] [b,c] pos) (gT (bTB (bCh f g fa fb fc))):=PT.imp (pt_chain ho ho' ha hb hc hm) fun σ H Q ⟨ρ,k,E,h,q⟩=>by
  obtain ⟨d,h1,h2⟩:=bindE h
  refine chain3 ⟨ρ,d,E,h1,fun v H' s r _=>?_⟩
  have e:=asB_ok h2
  subst e
  cases r
  exact ⟨_,rfl,q H' s⟩
theorem om_add : OpR X (binaryOp .Add) (r2 (binD .add) true):=by
 intro pins s σ H x y v u Q I rx ry h
 obtain ⟨a,b,d,p,q,e,k⟩:=h
 cases p with
 | int i=>
  cases q with
  | int j=>cases e;exact op_add pins s σ H _ _ v u Q I rx ry ⟨i,j,rfl,rfl,k.int⟩
  | _=>simp [binD] at e
 | str i=>
  cases q with
  | str j=>
   simp only [binD] at e
   split at e
   ·rename_i hl;cases e;exact op_add_str pins s σ H _ _ v u Q I rx ry ⟨i,j,rfl,rfl,lim_line hl,k.str⟩
   ·cases e
  | _=>simp [binD] at e
 | non=>simp [binD] at e
 | bl _=>simp [binD] at e
 | tup _ _=>simp [binD] at e
 | dK _ _ _ _=>simp [binD] at e
 | dT _ _ _ _=>simp [binD] at e
 | fdK _ _ _=>simp [binD] at e
 | fdT _ _ _=>simp [binD] at e
 | @lst a1 xs ds e1 p1 r1=>
  have hR : Rep All H (.ref a1) (.lst ds):=.lst e1 p1 r1
  cases b with
  | lst es=>
   simp only [binD] at e
   split at e
   ·rename_i hl
    cases e
    rw [Bool.and_eq_true,Bool.and_eq_true] at hl
    obtain ⟨⟨hl,hp1⟩,hp2⟩:=hl
    obtain ⟨l1,xs1,e1',rd1,rr1⟩:=hR.lstRd
    obtain ⟨l2,xs2,rfl,rd2,rr2⟩:=q.lstRd
    cases e1'
    cases rx
    cases ry
    obtain ⟨z,its,n,vr1,ee1⟩:=rd1.ok I.hok
    obtain ⟨z2,its2,n2,vr2,ee2⟩:=rd2.ok I.hok
    have hz : xs1.length + xs2.length<=sizeLine:=by rw [rr1.length,rr2.length];exact lim_line hl
    have t1:=vr1.length
    have t2:=vr2.length
    refine PySem.P.add_list ee1 ee2 ?_ (by rw [List.size_toArray,List.size_toArray];lia)
    have ea : its.toArray ++ its2.toArray = (its ++ its2).toArray:=by simp
    rw [ea]
    refine ⟨.ref _,_,I.lnew (t':=s.toks) (vr1.append vr2) (by rw [List.length_append];lia),rfl,?_⟩
    have sp : Same H (upd H s.heap.objs.size (.lst (xs1 ++ xs2))):=Same.upd I.fresh
    exact k _ _ sp (.lst upd_same trivial ((rr1.append rr2).same sp)) fun _=>.lst upd_same I.fresh (((rr1.ofPure hp1).append (rr2.ofPure hp2)).same sp)
   ·cases e
  | _=>simp [binD] at e
 | frz _ _=>simp [binD] at e
theorem om_ints {f : Value->Value->Sem Value} {C : Int->Int->Prop} {g : Int->Int->V} {op : D->D->Res D} (h : OpR X f (rI C g))
  (hi : ∀ i j d,op (.int i) (.int j) = .ok d->C i j/\∃ k,d = .int k/\g i j = .int k) (hn : ∀ a b d,op a b = .ok d->(∃ i,a = .int i)/\∃ j,b = .int j) : OpR X f (r2 op true):=by
 intro pins s σ H x y v u Q I rx ry ⟨a,b,d,p,q,e,k⟩
 obtain ⟨⟨i,rfl⟩,⟨j,rfl⟩⟩:=hn a b d e
 cases p
 cases q
 obtain ⟨hc,m,rfl,hm⟩:=hi i j d e
 exact h pins s σ H _ _ v u Q I rx ry ⟨i,j,rfl,rfl,hc,by rw [hm];exact k.int⟩
theorem om_mul : OpR X (binaryOp .Mult) (r2 (binD .mul) true):=by
 refine om_ints op_mul (fun i j d e=>?_) fun a b d e=>?_
 ·simp only [binD] at e
  split at e
  ·rename_i hl
   cases e
   refine ⟨?_,_,rfl,rfl⟩
   simp only [smallB,Bool.or_eq_true,Bool.and_eq_true,decide_eq_true_eq] at hl
   exact hl
  ·cases e
 ·cases a <;> cases b <;> first | exact ⟨⟨_,rfl⟩,_,rfl⟩ | simp [binD] at e
theorem om_fdiv : OpR X (binaryOp .FloorDiv) (r2 (binD .fdiv) true):=by
 refine om_ints op_fdiv (fun i j d e=>?_) fun a b d e=>?_
 ·simp only [binD] at e
  split at e
  ·rename_i hl
   cases e
   refine ⟨?_,_,rfl,rfl⟩
   simp only [Bool.and_eq_true,decide_eq_true_eq] at hl
   exact hl
  ·cases e
 ·cases a <;> cases b <;> first | exact ⟨⟨_,rfl⟩,_,rfl⟩ | simp [binD] at e
theorem om_mod : OpR X (binaryOp .Mod) (r2 (binD .mod) true):=by
 refine om_ints op_mod (fun i j d e=>?_) fun a b d e=>?_
 ·simp only [binD] at e
  split at e
  ·rename_i hl
   cases e
   refine ⟨?_,_,rfl,rfl⟩
   simp only [Bool.and_eq_true,decide_eq_true_eq] at hl
   exact hl
  ·cases e
 ·cases a <;> cases b <;> first | exact ⟨⟨_,rfl⟩,_,rfl⟩ | simp [binD] at e
theorem om_pow : OpR X (binaryOp .Pow) (r2 (binD .pow) true):=by
 refine om_ints op_pow (fun i j d e=>?_) fun a b d e=>?_
 ·simp only [binD] at e
  split at e
  ·rename_i hl
   cases e
   refine ⟨?_,_,rfl,rfl⟩
   simp only [Bool.and_eq_true,decide_eq_true_eq] at hl
   exact ⟨hl.1.1,hl.1.2,hl.2⟩
  ·cases e
 ·cases a <;> cases b <;> first | exact ⟨⟨_,rfl⟩,_,rfl⟩ | simp [binD] at e
theorem om_neg : UnR X (unaryOp .USub) (r1 negD true):=by
 intro pins s σ H x v Q I rx ⟨a,d,p,e,k⟩
 cases a <;> simp [negD] at e
 subst e
 cases p
 exact un_neg pins s σ H _ v Q I rx ⟨_,rfl,k.int⟩
theorem om_eq (hu : X.A.units + 20 < cLine) : OpR X (compareOp .Eq) (r2 (cmpD .eq) true):=by
 intro pins s σ H x y v u Q I rx ry ⟨a,b,d,p,q,e,k⟩
 simp only [cmpD] at e
 split at e
 ·rename_i hl
  cases e
  rw [Bool.and_eq_true] at hl
  exact (rep_eq I eqdepth X.A (by have : eqdepth = 12:=rfl;lia) hl.1 hl.2 p q rx ry).1 X.prog X.w X.xe _ ⟨.bl _,H,I,rfl,k.bl⟩
 ·cases e
theorem om_ne (hu : X.A.units + 20 < cLine) : OpR X (compareOp .NotEq) (r2 (cmpD .ne) true):=by
 intro pins s σ H x y v u Q I rx ry ⟨a,b,d,p,q,e,k⟩
 simp only [cmpD] at e
 split at e
 ·rename_i hl
  cases e
  rw [Bool.and_eq_true] at hl
  exact (rep_eq I eqdepth X.A (by have : eqdepth = 12:=rfl;lia) hl.1 hl.2 p q rx ry).2.1 X.prog X.w X.xe _ ⟨.bl _,H,I,rfl,k.bl⟩
 ·cases e
theorem om_ord (o : Ordr) (hu : X.A.units + 20 < cLine) : OpR X (compareOp o.op) (r2 (cmpD (.ord o)) true):=by
 intro pins s σ H x y v u Q I rx ry ⟨a,b,d,p,q,e,k⟩
 simp only [cmpD] at e
 split at e
 ·rename_i hl
  rw [Bool.and_eq_true] at hl
  split at e
  ·rename_i m hm
   cases e
   have:=rep_ord I o eqdepth X.A (by have : eqdepth = 12:=rfl;lia) hl.1 hl.2 p q rx ry hm X.prog X.w X.xe _ (show EP X pins σ Q (.bool m) s from ⟨.bl _,H,I,rfl,k.bl⟩)
   cases o <;> exact this
  ·cases e
 ·cases e
theorem om_lt (hu : X.A.units + 20 < cLine) : OpR X (compareOp .Lt) (r2 (cmpD (.ord .lt)) true):=om_ord .lt hu
theorem om_le (hu : X.A.units + 20 < cLine) : OpR X (compareOp .LtE) (r2 (cmpD (.ord .le)) true):=om_ord .le hu
theorem om_gt (hu : X.A.units + 20 < cLine) : OpR X (compareOp .Gt) (r2 (cmpD (.ord .gt)) true):=om_ord .gt hu
end
end Mi
end
section
set_option maxRecDepth 100000
namespace Mi
open PySem L2 PySem.SeqAt PySem.Spec PyProof.Rows
variable [KFrag]
theorem kD_eq (k q : Key) : eqD (kD k) (kD q) = decide (k = q):=by
 cases k <;> cases q <;> simp [kD,eqD,Bool.beq_eq_decide_eq]
theorem kDs_eq : ∀ (k q : List Key),eqDs (k.map kD) (q.map kD) = decide (k = q)
 | [],[]=>by simp [eqDs]
 | [],_ :: _=>by simp [eqDs]
 | _ :: _,[]=>by simp [eqDs]
 | a :: k,b :: q=>by
  rw [List.map_cons,List.map_cons,eqDs,kD_eq,kDs_eq k q]
  by_cases h : a = b <;> by_cases h' : k = q <;> simp [h,h']
theorem kT_eq (k q : List Key) : eqD (.tup (k.map kD)) (.tup (q.map kD)) = decide (k = q):=by rw [eqD,kDs_eq]
theorem lookK {P : Addr->Prop} {H : Hp} {k : Key} : ∀ {kvs : List (Key × V)} {ds : List (D × D)},RepK P H kvs ds->(∃ v d,valV kvs k = some v/\lookD ds (kD k) = some d/\Rep P H v d)\/(valV kvs k = none/\lookD ds (kD k) = none)
 | _,_,.nil=>.inr ⟨rfl,rfl⟩
 | _,_,.cons (k:=k') r t=>by
  by_cases h : k' = k
  ·subst h
   exact .inl ⟨_,_,valV_pos rfl,by rw [lookD,kD_eq,if_pos (by simp)],r⟩
  ·rw [lookD,kD_eq,if_neg (by simpa using h),valV_neg (p:=(k',_)) h]
   exact lookK t
theorem lookT {P : Addr->Prop} {H : Hp} {k : List Key} : ∀ {kvs : List (List Key × V)} {ds : List (D × D)},RepT P H kvs ds->(∃ v d,valV kvs k = some v/\lookD ds (.tup (k.map kD)) = some d/\Rep P H v d)\/(valV kvs k = none/\lookD ds (.tup (k.map kD)) = none)
 | _,_,.nil=>.inr ⟨rfl,rfl⟩
 | _,_,.cons (k:=k') r t=>by
  by_cases h : k' = k
  ·subst h
   exact .inl ⟨_,_,valV_pos rfl,by rw [lookD,kT_eq,if_pos (by simp)],r⟩
  ·rw [lookD,kT_eq,if_neg (by simpa using h),valV_neg (p:=(k',_)) h]
   exact lookT t
theorem flat_key {H : Hp} {v : V} {d : D} (h : flatKey d = true) (r : Rep All H v d) : ∃ k,v = kV k/\d = kD k:=by
 cases r <;> simp [flatKey] at h
 ·exact ⟨.inl _,rfl,rfl⟩
 ·exact ⟨.inr _,rfl,rfl⟩
theorem flat_keys {H : Hp} : ∀ {vs : List V} {ds : List D},ds.all flatKey = true->Reps All H vs ds->∃ ks : List Key,vs = ks.map kV/\ds = ks.map kD
 | _,_,_,.nil=>⟨[],rfl,rfl⟩
 | _,_,h,.cons r t=>by
  rw [List.all_cons,Bool.and_eq_true] at h
  obtain ⟨k,rfl,rfl⟩:=flat_key h.1 r
  obtain ⟨ks,rfl,rfl⟩:=flat_keys h.2 t
  exact ⟨k :: ks,rfl,rfl⟩
theorem key_cases {H : Hp} {y : V} {k : D} (h : keyOk k = true) (r : Rep All H y k) : (∃ q,y = kV q/\k = kD q)\/∃ (b : Addr) (ks : List Key),y = .ref b/\H b = some (.tup (ks.map kV))/\k = .tup (ks.map kD):=by
 cases k <;> simp [keyOk] at h
 ·exact .inl (flat_key rfl r)
 ·exact .inl (flat_key rfl r)
 ·obtain ⟨a,xs,rfl,e,rr⟩:=r.tupAt
  obtain ⟨ks,rfl,rfl⟩:=flat_keys (List.all_eq_true.mpr h) rr
  exact .inr ⟨a,ks,rfl,e,rfl⟩
theorem isTup_kD (k : Key) : isTup (kD k) = false:=by cases k <;> rfl
section
variable {X : Cx} {pins : List (Addr × Obj)} {σ : L2.St} {H : Hp} {s : Shared} {a : Addr}
theorem upd_back {o o' : HO} (e : H a = some o) : upd (upd H a o') a o = H:=by
 rw [upd_upd]
 funext b
 by_cases h : b = a
 ·subst h;rw [upd_same,e]
 ·rw [upd_ne h]
theorem Inv_emptyT (I : Inv X pins σ H s) (e : H a = some (.dK [])) : Inv X pins σ (upd H a (.dT [])) s:=by
 obtain ⟨z,hd,vs,rel,o,es,ep,h1,h2,h3,h4,h5,h6⟩:=dk_of I.hok e
 cases rel
 refine I.write (t':=s.toks) (x:=a) (e:=a) (h':=s.heap) (by rw [e];trivial) (.inl rfl) (fun _ _ _ q=>q) ⟨o,h1⟩ ?_
 refine ⟨Nat.zero_le _,hd,[],.nil,o,es,ep,h1,h2,h3,?_,List.nodup_nil⟩
 cases h5' : es.toList with
 | nil=>rfl
 | cons _ _=>rw [h5'] at h5;cases h5
theorem Inv_emptyK (I : Inv X pins σ H s) (e : H a = some (.dT [])) : Inv X pins σ (upd H a (.dK [])) s:=by
 obtain ⟨z,hd,vs,rel,o,es,ep,h1,h2,h3,h4,h5,h6⟩:=dt_of I.hok e
 cases rel
 refine I.write (t':=s.toks) (x:=a) (e:=a) (h':=s.heap) (by rw [e];trivial) (.inl rfl) (fun _ _ _ q=>q) ⟨o,h1⟩ ?_
 have h0 : es.toList = []:=h4
 refine ⟨Nat.zero_le _,hd,[],.nil,o,es,ep,h1,h2,h3,?_,?_,List.nodup_nil⟩
 ·intro x hx
  have : x ∈ es.toList:=by simpa using hx
  rw [h0] at this
  cases this
 ·rw [h0];exact .nil
theorem all_kD {P : Addr->Prop} : ∀ {kvs : List (Key × V)} {ds : List (D × D)},RepK P H kvs ds->∀ p ∈ ds,isTup p.1 = false
 | _,_,.nil,_,h=>by cases h
 | _,_,.cons r t,p,h=>by
  rcases List.mem_cons.mp h with rfl | h
  ·exact isTup_kD _
  ·exact all_kD t p h
theorem all_kT {P : Addr->Prop} : ∀ {kvs : List (List Key × V)} {ds : List (D × D)},RepT P H kvs ds->∀ p ∈ ds,isTup p.1 = true
 | _,_,.nil,_,h=>by cases h
 | _,_,.cons r t,p,h=>by
  rcases List.mem_cons.mp h with rfl | h
  ·rfl
  ·exact all_kT t p h
theorem dgetD {x y : V} {ds : List (D × D)} {k : D} (I : Inv X pins σ H s) (rd : Rep All H x (.dct ds)) (rk : Rep All H y k) (hk : fitK ds k = true) :
  ∃ H1 a o,x = .ref a/\Inv X pins σ H1 s/\(∀ s',Inv X pins σ H1 s'->Inv X pins σ H s')/\DGet H1 a y o/\((o = none/\lookD ds k = none)\/∃ v d,o = some v/\lookD ds k = some d/\Rep All H v d):=by
 unfold fitK at hk
 rw [Bool.and_eq_true] at hk
 obtain ⟨h1,h2⟩:=hk
 cases rd with
 | @dK a kvs ds e _ r n=>
  rcases key_cases h1 rk with ⟨q,rfl,rfl⟩ | ⟨b,ks,rfl,eb,rfl⟩
  ·refine ⟨H,a,_,rfl,I,fun _ h=>h,.k e,?_⟩
   rcases lookK (k:=q) r with ⟨v,d,g1,g2,g3⟩ | ⟨g1,g2⟩
   ·exact .inr ⟨v,d,g1,g2,g3⟩
   ·exact .inl ⟨g1,g2⟩
  ·cases r with
   | nil=>
    have e2:=upd_back (o':=.dT []) e
    refine ⟨upd H a (.dT []),a,none,rfl,Inv_emptyT I e,fun s' I'=>?_,.t (k:=ks) upd_same (by rw [upd_ne (ne_of eb e (by intro z;cases z))];exact eb),.inl ⟨rfl,rfl⟩⟩
    have:=Inv_emptyK I' upd_same
    rwa [e2] at this
   | cons r t=>
    rw [List.all_cons,isTup_kD] at h2
    simp [isTup] at h2
 | @dT a kvs ds e _ r n=>
  rcases key_cases h1 rk with ⟨q,rfl,rfl⟩ | ⟨b,ks,rfl,eb,rfl⟩
  ·cases r with
   | nil=>
    have e2:=upd_back (o':=.dK []) e
    refine ⟨upd H a (.dK []),a,none,rfl,Inv_emptyK I e,fun s' I'=>?_,.k (k:=q) upd_same,.inl ⟨rfl,rfl⟩⟩
    have:=Inv_emptyT I' upd_same
    rwa [e2] at this
   | cons r t=>
    rw [List.all_cons,isTup_kD] at h2
    simp [isTup] at h2
  ·refine ⟨H,a,_,rfl,I,fun _ h=>h,.t e eb,?_⟩
   rcases lookT (k:=ks) r with ⟨v,d,g1,g2,g3⟩ | ⟨g1,g2⟩
   ·exact .inr ⟨v,d,g1,g2,g3⟩
   ·exact .inl ⟨g1,g2⟩
theorem look_fit {x : V} {ds : List (D × D)} {k d : D} (rd : Rep All H x (.dct ds)) (hk : keyOk k = true) (h : lookD ds k = some d) : fitK ds k = true:=by
 have one : ∀ {ds : List (D × D)},lookD ds k = some d->∃ p ∈ ds,eqD p.1 k = true:=by
  intro ds
  induction ds with
  | nil=>intro h;cases h
  | cons p ds ih=>
   intro h
   obtain ⟨p1,p2⟩:=p
   rw [lookD] at h
   by_cases hq : eqD p1 k = true
   ·exact ⟨_,List.mem_cons_self ..,hq⟩
   ·rw [if_neg hq] at h
    obtain ⟨p,hp,e⟩:=ih h
    exact ⟨p,List.mem_cons_of_mem _ hp,e⟩
 obtain ⟨p,hp,he⟩:=one h
 unfold fitK
 rw [hk,Bool.true_and,List.all_eq_true]
 intro q hq
 have same : isTup p.1 = isTup k:=by
  obtain ⟨p1,p2⟩:=p
  cases p1 <;> cases k <;> simp [eqD,keyOk,isTup] at he hk ⊢
 cases rd with
 | dK e _ r n=>rw [all_kD r q hq,<- same,all_kD r p hp];rfl
 | dT e _ r n=>rw [all_kT r q hq,<- same,all_kT r p hp];rfl
end
section
variable {X : Cx} {a b c e : Expr} {pos : Pos} {fa fb fc fe : FE} {ra rb rc re : Bool} {ga gb gc : FT}
noncomputable def datQ (H : Hp) (u : Value) : D:=by
 classical
 exact if h : ∃ d,d.eqok eqdepth = true/\∃ v,RelV v u/\Rep All H v d then Classical.choose h else .non
theorem datQ_eq {H : Hp} {u : Value} {v : V} {d : D} (hq : d.eqok eqdepth = true) (rv : RelV v u) (r : Rep All H v d) : datQ H u = d:=by
 unfold datQ
 have h : ∃ d,d.eqok eqdepth = true/\∃ v,RelV v u/\Rep All H v d:=⟨d,hq,v,rv,r⟩
 rw [dif_pos h]
 obtain ⟨h2,v',rv',r'⟩:=Classical.choose_spec h
 have:=rv'.inj rv
 subst this
 exact Rep.inj eqdepth h2 hq r' r
theorem any_dat {H : Hp} {a : D} : ∀ {xs : List V} {ds : List D} {its : List Value},D.eqoks eqdepth ds = true->Reps All H xs ds->Vals xs its->(its.any fun u=>eqD (datQ H u) a) = ds.any fun y=>eqD y a
 | _,_,_,_,.nil,.nil=>rfl
 | _,_,_,h,.cons r t,.cons v vt=>by
  rw [D.eqoks,Bool.and_eq_true] at h
  rw [List.any_cons,List.any_cons,datQ_eq h.1 v r,any_dat h.2 t vt]
theorem mem_dat {pins : List (Addr × Obj)} {σ : L2.St} {H : Hp} {s : Shared} (I : Inv X pins σ H s) (hu : X.A.units + 20 < cLine) {a : D} {x : V} {v : Value} (ha : a.eqok eqdepth = true) (rx : Rep All H x a) (rv : RelV x v)
  {xs : List V} {ds : List D} {its : List Value} (h : D.eqoks eqdepth ds = true) (r : Reps All H xs ds) (vr : Vals xs its) (u : Value) (hm : u ∈ its) : EqAt X.A.in1 s u v (eqD (datQ H u) a):=by
 obtain ⟨j,hj,e⟩:=List.getElem_of_mem hm
 have hj' : j < ds.length:=by rw [<- r.length,vr.length];exact hj
 obtain ⟨w,h1,h2⟩:=r.get (i:=j) (d:=ds[j]) (by simp [hj'])
 obtain ⟨u',h3,h4⟩:=vr.get h1
 rw [List.getElem?_eq_getElem hj,e] at h3
 cases h3
 have hd : ds[j].eqok eqdepth = true:=by
  have:=eqoks_get (j:=j) h hj'
  rwa [List.getD_eq_getElem?_getD,List.getElem?_eq_getElem hj'] at this
 rw [datQ_eq hd h4 h2]
 exact (rep_eq I eqdepth X.A.in1 (by show X.A.units + 1 + 12 < cLine;lia) hd ha h2 rx h4 rv).2.2
theorem om_notin (hu : X.A.units + 20 < cLine) : OpR X (compareOp .NotIn) (r2 (cmpD .notin) true):=by
 intro pins s σ H x y v u Q I rx ry ⟨a,b,d,p,q,e,k⟩
 cases b with
 | tup ys=>
  simp only [cmpD] at e
  split at e
  ·rename_i hl
   cases e
   rw [Bool.and_eq_true] at hl
   obtain ⟨l,xs,rfl,ee,rr⟩:=q.tupAt
   cases ry
   obtain ⟨its,vr,pl⟩:=fst_of I ee
   refine notIn_tupleAt (fun u=>eqD (datQ H u) a) pl (fun w hw=>mem_dat I hu hl.1 p rx hl.2 rr vr w (by simpa using hw)) ⟨.bl _,H,I,rfl,?_⟩
   rw [show its.toArray.any (fun u=>eqD (datQ H u) a) = its.any (fun u=>eqD (datQ H u) a) by simp,any_dat hl.2 rr vr]
   exact k.bl
  ·cases e
 | lst ys=>
  simp only [cmpD] at e
  split at e
  ·rename_i hl
   cases e
   rw [Bool.and_eq_true] at hl
   obtain ⟨l,xs,rfl,ee,rr⟩:=q.lstAt (K:=X.K)
   cases ry
   obtain ⟨its,vr,pl⟩:=lst_of I ee
   refine notIn_listAt (fun u=>eqD (datQ H u) a) pl (fun w hw=>mem_dat I hu hl.1 p rx hl.2 rr vr w (by simpa using hw)) ⟨.bl _,H,I,rfl,?_⟩
   rw [show its.toArray.any (fun u=>eqD (datQ H u) a) = its.any (fun u=>eqD (datQ H u) a) by simp,any_dat hl.2 rr vr]
   exact k.bl
  ·cases e
 | dct kvs=>
  simp only [cmpD] at e
  split at e
  ·rename_i hl
   cases e
   obtain ⟨H1,a1,o,rfl,I1,bk,g,hc⟩:=dgetD I q p hl
   cases ry
   refine d_notIn (by lia) I1 g rx fun s' I'=>⟨.bl _,H,bk s' I',rfl,?_⟩
   rcases hc with ⟨rfl,h2⟩ | ⟨w,dd,rfl,h2,_⟩
   ·rw [h2] at k;exact k.bl
   ·rw [h2] at k;exact k.bl
  ·cases e
 | _=>simp [cmpD] at e
theorem atI_of {α : Type} (xs : List α) (i : Int) : L2.atI xs i = (ixD xs.length i).bind fun j=>xs[j]?:=rfl
theorem Reps.atI {P : Addr->Prop} {H : Hp} {xs : List V} {ds : List D} {i : Int} {d : D} (r : Reps P H xs ds) (h : ((ixD ds.length i).bind fun j=>ds[j]?) = some d) : ∃ v,L2.atI xs i = some v/\Rep P H v d:=by
 rw [atI_of,r.length]
 cases hi : ixD ds.length i with
 | none=>rw [hi] at h;cases h
 | some j=>
  rw [hi] at h
  obtain ⟨v,h1,h2⟩:=r.get h
  exact ⟨v,h1,h2⟩
theorem tail_dict {X : Cx} {value slice : Expr} {pins : List (Addr × Obj)} {s : Shared} {σ : L2.St} {H : Hp} {a : Addr} {y v' : V} {u : Value} {Q : VK} (hu : X.A.units + 20 < cLine) (I : Inv X pins σ H s) (g : DGet H a y (some v')) (ry : RelV y u) {H' : Hp}
  (hs : subscripted slice false (.ref a) u = operate [.ref a,u] (getItem (.ref a) u)) (bk : ∀ s',Inv X pins σ H s'->Inv X pins σ H' s') (q : Q v' H') :
  wpAny (model X.prog X.w) X.A (subscriptTail value slice (.ref a) u) (EP X pins σ Q) X.xe s:=by
 have hT:=dict_typeIs I g
 unfold subscriptTail
 refine wpAny_bind ?_
 rw [getitemInPython_of_ne hT.not_modules]
 refine wpAny_bind (wpAny_specialOf hT PySem.F.slot_dict_getitem.lookup ?_)
 have fin : wpAny (model X.prog X.w) X.A (subscripted slice false (.ref a) u) (fun r s₃=>wpAny (model X.prog X.w) X.A (letTemporaryGo value (.ref a) r >>= fun _=>pure r) (EP X pins σ Q) X.xe s₃) X.xe s:=by
  rw [hs]
  exact wpAny_operating (d_getItem (by lia) I g ry fun w' s3 I3 rw'=>wpAny_bind (wpAny_letTemporaryGo (wpAny_pure ⟨v',H',bk s3 I3,rw',q⟩)))
 first
  | exact wpAny_pure (wpAny_bind fin)
  | exact wpAny_bind (wpAny_pure (wpAny_bind fin))
  | exact wpAny_bind fin
theorem look_tup {k d : D} : ∀ {ds : List (D × D)},keyOk k = true->lookD ds k = some d->∃ p ∈ ds,isTup p.1 = isTup k
 | [],_,h=>by cases h
 | (p1,p2) :: ds,hk,h=>by
  rw [lookD] at h
  by_cases hq : eqD p1 k = true
  ·refine ⟨_,List.mem_cons_self ..,?_⟩
   cases p1 <;> cases k <;> simp [eqD,keyOk,isTup] at hq hk ⊢
  ·rw [if_neg hq] at h
   obtain ⟨p,hp,e⟩:=look_tup hk h
   exact ⟨p,List.mem_cons_of_mem _ hp,e⟩
theorem dgetF {H : Hp} {x y : V} {ds : List (D × D)} {k d : D} (rd : Rep All H x (.fdc ds)) (rk : Rep All H y k) (hk : keyOk k = true) (h : lookD ds k = some d) : ∃ a v,x = .ref a/\DGet H a y (some v)/\Rep All H v d:=by
 obtain ⟨p,hp,et⟩:=look_tup hk h
 cases rd with
 | @fdK a o kvs ds e r n=>
  rcases key_cases hk rk with ⟨q,rfl,rfl⟩ | ⟨b,ks,rfl,eb,rfl⟩
  ·rcases lookK (k:=q) r with ⟨v,d',g1,g2,g3⟩ | ⟨g1,g2⟩
   ·rw [g2] at h
    cases h
    exact ⟨a,v,rfl,.inl ⟨kvs,q,.inr ⟨o,e⟩,rfl,g1.symm⟩,g3⟩
   ·rw [g2] at h;cases h
  ·rw [all_kD r p hp] at et
   cases et
 | @fdT a o kvs ds e r n=>
  rcases key_cases hk rk with ⟨q,rfl,rfl⟩ | ⟨b,ks,rfl,eb,rfl⟩
  ·rw [all_kT r p hp,isTup_kD] at et
   cases et
  ·rcases lookT (k:=ks) r with ⟨v,d',g1,g2,g3⟩ | ⟨g1,g2⟩
   ·rw [g2] at h
    cases h
    exact ⟨a,v,rfl,.inr ⟨kvs,ks,b,.inr ⟨o,e⟩,rfl,eb,g1.symm⟩,g3⟩
   ·rw [g2] at h;cases h
theorem om_ix (hK : KFrag.K = X.K) (hu : X.A.units + 20 < cLine) : IxR X (r2 getD false):=by
 intro value slice pins s σ H x y v u Q I rx ry ⟨a,b,d,p,q,e,k⟩ hs
 cases a with
 | tup ys=>
  cases b <;> simp only [getD] at e <;> (try (cases e;done))
  have e':=Res.ofOpt_ok e
  obtain ⟨l,xs,rfl,ee,rr⟩:=p.tupAt
  cases q
  obtain ⟨w,h1,h2⟩:=rr.atI e'
  exact ix_tup value slice pins s σ H _ _ v u Q I rx ry ⟨l,xs,_,w,rfl,rfl,.of ee,h1,k.self h2 fun z=>by cases z⟩ hs
 | lst ys=>
  cases b <;> simp only [getD] at e <;> (try (cases e;done))
  have e':=Res.ofOpt_ok e
  obtain ⟨l,xs,rfl,ee,rr⟩:=p.lstAt (K:=X.K)
  cases q
  obtain ⟨w,h1,h2⟩:=rr.atI e'
  exact ix_list value slice pins s σ H _ _ v u Q I rx ry ⟨l,xs,_,w,rfl,rfl,ee,h1,k.self h2 fun z=>by cases z⟩ hs
 | scr ys=>
  cases b <;> simp only [getD] at e <;> (try (cases e;done))
  have e':=Res.ofOpt_ok e
  cases p with
  | frz ee rr=>
   cases q
   obtain ⟨w,h1,h2⟩:=rr.atI e'
   exact ix_list value slice pins s σ H _ _ v u Q I rx ry ⟨_,_,_,w,rfl,rfl,ee.sq hK,h1,k.self h2 fun z=>by cases z⟩ hs
 | str z=>
  cases b <;> simp only [getD] at e <;> (try (cases e;done))
  split at e
  ·rename_i hl
   have e':=Res.ofOpt_ok e
   obtain ⟨cc,h1,h2⟩:=Option.map_eq_some_iff.mp e'
   subst h2
   cases p
   cases q
   exact ix_str value slice pins s σ H _ _ v u Q I rx ry ⟨z,_,cc,rfl,rfl,lim_line hl,h1,k.str⟩ hs
  ·cases e
 | dct kvs=>
  have e' : keyOk b = true/\lookD kvs b = some d:=by
   cases b <;> simp only [getD] at e <;> (split at e <;> first | (rename_i hl;exact ⟨hl,Res.ofOpt_ok e⟩) | cases e)
  obtain ⟨H1,a1,o,rfl,I1,bk,g,hc⟩:=dgetD I p q (look_fit p e'.1 e'.2)
  cases rx
  rcases hc with ⟨rfl,h2⟩ | ⟨w,dd,rfl,h2,h3⟩
  ·rw [h2] at e';cases e'.2
  ·rw [h2] at e'
   cases e'.2
   exact tail_dict hu I1 g ry hs bk (k.self h3 fun z=>by cases z)
 | fdc kvs=>
  have e' : keyOk b = true/\lookD kvs b = some d:=by
   cases b <;> simp only [getD] at e <;> (split at e <;> first | (rename_i hl;exact ⟨hl,Res.ofOpt_ok e⟩) | cases e)
  obtain ⟨a1,w,rfl,g,h3⟩:=dgetF p q e'.1 e'.2
  cases rx
  exact tail_dict hu I g ry hs (fun _ h=>h) (k.self h3 fun z=>by cases z)
 | _=>cases b <;> simp [getD] at e
noncomputable def gO (f : List D->Res (Option Int)) : TO:=fun σ H Q=>∃ ρ i,ER H σ ρ/\f ρ = .ok i/\∀ H',Same H H'->Q i H'
theorem PO.imp {X : Cx} {e : Option PySem.Expr} {t t' : TO} (h : PO X e t) (i : ∀ σ H Q,t' σ H Q->t σ H Q) : PO X e t':=fun pins s σ H Q I q=>h pins s σ H Q I (i σ H Q q)
theorem mo_some (ha : PE X a (gE fa ra)) : PO X (some a) (gO (bSome fa)):=PO.imp (po_some ha) fun σ H Q ⟨ρ,i,E,h,q⟩=>by
 obtain ⟨x,h1,h⟩:=bindE h
 obtain ⟨j,h2,h⟩:=bindE h
 cases h
 have e:=asI_ok h2
 subst e
 exact ⟨ρ,_,E,h1,fun v H' s r _=>by cases r;exact ⟨j,rfl,q H' s⟩⟩
theorem sIx_eq (n d : Nat) (o : Option Int) : HT.sIx n d o = sIxD n d o:=by
 cases o with
 | none=>rfl
 | some v=>
  show (if v < 0 then (v + (n : Int)).toNat else min v.toNat n) = (if v < 0 then (max (v + (n : Int)) 0).toNat else (min v (n : Int)).toNat)
  split <;> lia
theorem Reps.cut {P : Addr->Prop} {H : Hp} {xs : List V} {ds : List D} (r : Reps P H xs ds) (lo hi : Option Int) : Reps P H (cutV xs lo hi) (cutD ds lo hi):=by
 unfold cutV cutD
 rw [r.length]
 simp only [sIx_eq]
 exact (r.drop _).take _
theorem pures_mem {ds : List D} : D.pures ds = true ↔ ∀ d ∈ ds,d.pure = true:=by
 induction ds with
 | nil=>simp [D.pures]
 | cons d ds ih=>rw [D.pures,Bool.and_eq_true,ih];simp
noncomputable def rSl : V->Option Int->Option Int->Hp->VK->Prop:=fun x lo hi H Q=>∃ a d,Rep All H x a/\slcD a lo hi = .ok d/\kR H d true Q
theorem om_sl (hK : KFrag.K = X.K) : SlR X rSl:=by
 intro pins s σ H x v vl vu lo hi sl Q I rx hs pl pu ⟨a,d,p,e,k⟩
 cases a <;> simp only [slcD] at e <;> (try (cases e;done))
 ·split at e
  ·cases e
  ·rename_i hw
   cases e
   obtain ⟨l,xs,rfl,ee,rr⟩:=p.tupAt
   refine sl_tup pins s σ H _ v vl vu lo hi sl Q I rx hs pl pu ⟨l,xs,rfl,.of ee,?_,fun p hp=>?_⟩
   ·simp only [sIx_eq,rr.length]
    simp only [Bool.not_eq_true',Bool.or_eq_true,not_or,Bool.not_eq_false',decide_eq_true_eq] at hw
    exact hw.2
   ·have sp : Same H (upd H p (.tup (cutV xs lo hi))):=Same.upd hp
    have hp2 : D.pures ‹List D› = true:=by
     simp only [Bool.or_eq_true,not_or,Bool.not_eq_true'] at hw
     simpa using hw.1
    exact k _ _ sp (.tup upd_same ((rr.cut lo hi).same sp)) fun z=>.tup upd_same (((rr.ofPure hp2).cut lo hi).same sp)
 ·split at e
  ·rename_i hl
   cases e
   obtain ⟨l,xs,rfl,ee,rr⟩:=p.lstAt (K:=X.K)
   refine sl_list pins s σ H _ v vl vu lo hi sl Q I rx hs pl pu ⟨l,xs,rfl,ee,fun p hp=>?_⟩
   have sp : Same H (upd H p (.lst (cutV xs lo hi))):=Same.upd hp
   exact k _ _ sp (.lst upd_same trivial ((rr.cut lo hi).same sp)) fun z=>.lst upd_same hp (((rr.ofPure hl).cut lo hi).same sp)
  ·cases e
 ·split at e
  ·rename_i hl
   cases e
   cases p with
   | @frz l xs ds ee rr=>
    refine sl_list pins s σ H _ v vl vu lo hi sl Q I rx hs pl pu ⟨l,xs,rfl,ee.sq hK,fun p hp=>?_⟩
    have sp : Same H (upd H p (.lst (cutV xs lo hi))):=Same.upd hp
    exact k _ _ sp (.lst upd_same trivial ((rr.cut lo hi).same sp)) fun z=>.lst upd_same hp (((rr.ofPure hl).cut lo hi).same sp)
  ·cases e
theorem me_sl {lo hi : Option Expr} {p2 : Pos} {fl fh : List D->Res (Option Int)} (hK : KFrag.K = X.K) (he : PE X e (gE fe re)) (hl : PO X lo (gO fl)) (hh : PO X hi (gO fh)) : PE X (.Subscript e (.Slice lo hi none p2) pos) (gE (bSlc fe fl fh) true):=
 PE.imp (pe_slice (om_sl hK) he hl hh) fun σ H Q ⟨ρ,d,E,h,q⟩=>by
  obtain ⟨x,h1,h⟩:=bindE h
  obtain ⟨l,h2,h⟩:=bindE h
  obtain ⟨u,h3,h⟩:=bindE h
  exact ⟨ρ,x,E,h1,fun v H1 s1 r1 _=>⟨ρ,l,E.same s1,h2,fun H2 s2=>⟨ρ,u,E.same (s1.trans s2),h3,fun H3 s3=>⟨x,d,r1.same (s2.trans s3),h,q.imp ((s1.trans s2).trans s3) id⟩⟩⟩⟩
end
end Mi
end
section
set_option maxRecDepth 100000
namespace PySem.Mm
open PySem
noncomputable def wdL : Bool->String
 | false => "min.loop"
 | true => "max.loop"
noncomputable def wdO : Bool->CmpOp
 | false=>.Lt
 | true=>.Gt
section
variable {prog : Program} {w : World} {A : Around} {R : Result->Shared->Prop} {I S : Addr} {fp wr : List Addr} {n : Nat} {P : Nat->Value->Prop} {St : Nat->Heap->Prop} {bt : Nat->Nat->Bool} {Gd : Shared->Prop} {op : CmpOp}
structure Judge (prog : Program) (w : World) (A : Around) (op : CmpOp) (P : Nat->Value->Prop) (bt : Nat->Nat->Bool) (wr : List Addr) (top : Nat) (Gd : Shared->Prop) : Prop where
 keep : ∀ s h' tk,Gd s->(∀ b o,b ∉ wr->b < top->s.heap.get? b = some o->h'.get? b = some o)->Gd { s with heap:=h',toks:=tk }
 says : ∀ i j vi vj s Q E,Gd s->P i vi->P j vj->Q (.bool (bt i j)) s->wpAny (model prog w) A (richCompare op vi vj) Q E s
noncomputable def Best (P : Nat->Value->Prop) (bt : Nat->Nat->Bool) (n : Nat) : Nat->Array Value->Prop
 | 0,a=>a = #[]/\0 < n
 | j + 1,a=>∃ v,a = #[v,v]/\P (argBest bt j) v
theorem touched (J : Judge prog w A op P bt wr S Gd) {s : Shared} {f : Array Value->Array Value} (g : Gd s) : Gd { s with heap:=s.heap.update S (Obj.mapSeq f) }:=
 J.keep s _ s.toks g fun b o _ hb e=>(Heap.get?_update_other _ _ (Nat.ne_of_gt hb)).trans e
theorem turn (m : Bool) (W : Walks prog w A.in1 I fp wr n P St) (hS : S ∉ fp) (J : Judge prog w A.in1 (wdO m) P bt wr S Gd) : ∀ (k j : Nat) (s : Shared) (a : Array Value) (c : Nat),j + k = n->St j s.heap->Gd s->Best P bt n j a->
  s.heap.get? S = some { cls:=.type "list",dict:=none,data:=.seq a c,slots:=#[] }->
  (∀ v h' tk,P (argBest bt (n - 1)) v->(∀ b o,b ∉ wr->b ≠ S->s.heap.get? b = some o->h'.get? b = some o)->R (.ok (.ret v)) { s with heap:=h',toks:=tk })->
  codeAny (model prog w) A (.builtin (wdL m) ⟨[.ref I,.none,.ref S],[]⟩) R s:=by
 have off : S ∉ wr:=fun h=>hS (W.sub _ h)
 have still : ∀ {j : Nat} {h : Heap} {f : Array Value->Array Value},St j h->St j (h.update S (Obj.mapSeq f)):=fun st=>
  W.frame _ _ _ st fun b hb o e=>(Heap.get?_update_other _ _ fun z : S = b=>hS (z ▸ hb)).trans e
 intro k
 induction k with
 | zero=>
  intro j s a c hj st g hb hs fin
  have hjn : j = n:=hj
  subst hjn
  cases j with
  | zero=>exact absurd hb.2 (Nat.lt_irrefl 0)
  | succ j=>
   obtain ⟨v,rfl,hv⟩:=hb
   have last : ∀ (h' : Heap) (tk : Nat),(∀ b o,b ∉ wr->s.heap.get? b = some o->h'.get? b = some o)->R (.ok (.ret v)) { s with heap:=h'.update S (Obj.mapSeq fun _=>#[]),toks:=tk }:=fun h' tk kp=>
    fin v _ tk hv fun b o h1 h2 e=>(Heap.get?_update_other _ _ (Ne.symm h2)).trans (kp b o h1 e)
   cases m
   ·show codeAny (model prog w) A (.builtin "min.loop" ⟨[.ref I,.none,.ref S],[]⟩) R s
    refine codeAny_builtin F.entry_min_loop ?_
    rw [Around.under_plainId F.plain_min_loop]
    refine wpAny_bind (m:=seqItems? (.ref S)) (wpAny_seqItems hs rfl ?_)
    refine wpAny_bind (wpAny_tryCatch (m:=pyNext (.ref I)) (W.done s _ _ st fun h' tk kp=>?_))
    exact wpAny_bind (m:=updateSeq S _) (wpAny_updateSeq (kp S _ off hs) rfl (wpAny_bind (wpAny_letGo (wpAny_pure (last h' tk kp)))))
   ·show codeAny (model prog w) A (.builtin "max.loop" ⟨[.ref I,.none,.ref S],[]⟩) R s
    refine codeAny_builtin F.entry_max_loop ?_
    rw [Around.under_plainId F.plain_max_loop]
    refine wpAny_bind (m:=seqItems? (.ref S)) (wpAny_seqItems hs rfl ?_)
    refine wpAny_bind (wpAny_tryCatch (m:=pyNext (.ref I)) (W.done s _ _ st fun h' tk kp=>?_))
    exact wpAny_bind (m:=updateSeq S _) (wpAny_updateSeq (kp S _ off hs) rfl (wpAny_bind (wpAny_letGo (wpAny_pure (last h' tk kp)))))
 | succ k ih=>
  intro j s a c hj st g hb hs fin
  have hjn : j < n:=by lia
  /- what is left to do behind the list's change,or without one -/
  have on : ∀ (v : Value) (h' : Heap) (tk : Nat),P j v->St (j + 1) h'->(∀ b o,b ∉ wr->s.heap.get? b = some o->h'.get? b = some o)->(∀ (a' : Array Value) (c' : Nat) (h2 : Heap),Best P bt n (j + 1) a'->h2.get? S = some { cls:=.type "list",dict:=none,data:=.seq a' c',slots:=#[] }->(h2 = h'\/∃ f : Array Value->Array Value,h2 = h'.update S (Obj.mapSeq f))->
    codeAny (model prog w) A (.builtin (wdL m) ⟨[.ref I,.none,.ref S],[]⟩) R { s with heap:=h2,toks:=tk }):=by
   intro v h' tk _ st' kp a' c' h2 hb' hs' hh
   have g' : Gd { s with heap:=h',toks:=tk }:=J.keep s h' tk g fun b o h1 _ e=>kp b o h1 e
   rcases hh with rfl | ⟨f,rfl⟩
   ·exact ih (j + 1) _ a' c' (by lia) st' g' hb' hs' fun u h3 t3 hu k3=>fin u h3 t3 hu fun b o h1 h2 e=>k3 b o h1 h2 (kp b o h1 e)
   ·exact ih (j + 1) _ a' c' (by lia) (still st') (touched J g') hb' hs' fun u h3 t3 hu k3=>fin u h3 t3 hu fun b o h1 h2 e=>k3 b o h1 h2 ((Heap.get?_update_other _ _ (Ne.symm h2)).trans (kp b o h1 e))
  have nmn : (toString "min" ++ toString ".loop" : String) = "min.loop":=by decide
  have nmx : (toString "max" ++ toString ".loop" : String) = "max.loop":=by decide
  cases j with
  | zero=>
   obtain ⟨rfl,_⟩:=hb
   cases m
   ·show codeAny (model prog w) A (.builtin "min.loop" ⟨[.ref I,.none,.ref S],[]⟩) R s
    refine codeAny_builtin F.entry_min_loop ?_
    rw [Around.under_plainId F.plain_min_loop]
    refine wpAny_bind (m:=seqItems? (.ref S)) (wpAny_seqItems hs rfl ?_)
    refine wpAny_bind (wpAny_tryCatch (m:=pyNext (.ref I)) (W.item 0 s _ _ hjn st fun v h' tk pv st' kp=>?_))
    have hs':=kp S _ off hs
    refine wpAny_bind (m:=updateSeq S _) (wpAny_updateSeq hs' rfl ?_)
    rw [nmn]
    exact wpAny_pure ⟨plainId_quiet F.plain_min_loop _,on v h' tk pv st' kp #[v,v] _ _ ⟨v,rfl,pv⟩ (Heap.get?_update_self _ hs' rfl) (.inr ⟨_,rfl⟩)⟩
   ·show codeAny (model prog w) A (.builtin "max.loop" ⟨[.ref I,.none,.ref S],[]⟩) R s
    refine codeAny_builtin F.entry_max_loop ?_
    rw [Around.under_plainId F.plain_max_loop]
    refine wpAny_bind (m:=seqItems? (.ref S)) (wpAny_seqItems hs rfl ?_)
    refine wpAny_bind (wpAny_tryCatch (m:=pyNext (.ref I)) (W.item 0 s _ _ hjn st fun v h' tk pv st' kp=>?_))
    have hs':=kp S _ off hs
    refine wpAny_bind (m:=updateSeq S _) (wpAny_updateSeq hs' rfl ?_)
    rw [nmx]
    exact wpAny_pure ⟨plainId_quiet F.plain_max_loop _,on v h' tk pv st' kp #[v,v] _ _ ⟨v,rfl,pv⟩ (Heap.get?_update_self _ hs' rfl) (.inr ⟨_,rfl⟩)⟩
  | succ j=>
   obtain ⟨u,rfl,hu⟩:=hb
   cases m
   ·show codeAny (model prog w) A (.builtin "min.loop" ⟨[.ref I,.none,.ref S],[]⟩) R s
    refine codeAny_builtin F.entry_min_loop ?_
    rw [Around.under_plainId F.plain_min_loop]
    refine wpAny_bind (m:=seqItems? (.ref S)) (wpAny_seqItems hs rfl ?_)
    refine wpAny_bind (wpAny_tryCatch (m:=pyNext (.ref I)) (W.item (j + 1) s _ _ hjn st fun v h' tk pv st' kp=>?_))
    have hs':=kp S _ off hs
    refine wpAny_bind (wpAny_pure ?_)
    refine wpAny_bind (wpAny_tryCatch (wpAny_holding (wpAny_bind (m:=richCompare .Lt v u) (J.says (j + 1) (argBest bt j) v u _ _ _ (J.keep s h' tk g fun b o h1 _ e=>kp b o h1 e) pv hu ?_))))
    refine wpAny_bind (wpAny_holding (wpAny_truthy_bool (wpAny_bind (wpAny_letGo (wpAny_pure ?_)))))
    cases hx : bt (j + 1) (argBest bt j)
    ·rw [if_neg Bool.false_ne_true]
     refine wpAny_bind (wpAny_letGo ?_)
     rw [nmn]
     exact wpAny_pure ⟨plainId_quiet F.plain_min_loop _,on v h' tk pv st' kp _ _ _ ⟨u,rfl,by rw [argBest,hx];exact hu⟩ hs' (.inl rfl)⟩
    ·rw [if_pos rfl]
     refine wpAny_bind (m:=updateSeq S _) (wpAny_updateSeq hs' rfl (wpAny_bind (wpAny_letGo ?_)))
     rw [nmn]
     exact wpAny_pure ⟨plainId_quiet F.plain_min_loop _,on v h' tk pv st' kp #[v,v] _ _ ⟨v,rfl,by rw [argBest,hx];exact pv⟩ (Heap.get?_update_self _ hs' rfl) (.inr ⟨_,rfl⟩)⟩
   ·show codeAny (model prog w) A (.builtin "max.loop" ⟨[.ref I,.none,.ref S],[]⟩) R s
    refine codeAny_builtin F.entry_max_loop ?_
    rw [Around.under_plainId F.plain_max_loop]
    refine wpAny_bind (m:=seqItems? (.ref S)) (wpAny_seqItems hs rfl ?_)
    refine wpAny_bind (wpAny_tryCatch (m:=pyNext (.ref I)) (W.item (j + 1) s _ _ hjn st fun v h' tk pv st' kp=>?_))
    have hs':=kp S _ off hs
    refine wpAny_bind (wpAny_pure ?_)
    refine wpAny_bind (wpAny_tryCatch (wpAny_holding (wpAny_bind (m:=richCompare .Gt v u) (J.says (j + 1) (argBest bt j) v u _ _ _ (J.keep s h' tk g fun b o h1 _ e=>kp b o h1 e) pv hu ?_))))
    refine wpAny_bind (wpAny_holding (wpAny_truthy_bool (wpAny_bind (wpAny_letGo (wpAny_pure ?_)))))
    cases hx : bt (j + 1) (argBest bt j)
    ·rw [if_neg Bool.false_ne_true]
     refine wpAny_bind (wpAny_letGo ?_)
     rw [nmx]
     exact wpAny_pure ⟨plainId_quiet F.plain_max_loop _,on v h' tk pv st' kp _ _ _ ⟨u,rfl,by rw [argBest,hx];exact hu⟩ hs' (.inl rfl)⟩
    ·rw [if_pos rfl]
     refine wpAny_bind (m:=updateSeq S _) (wpAny_updateSeq hs' rfl (wpAny_bind (wpAny_letGo ?_)))
     rw [nmx]
     exact wpAny_pure ⟨plainId_quiet F.plain_max_loop _,on v h' tk pv st' kp #[v,v] _ _ ⟨v,rfl,by rw [argBest,hx];exact pv⟩ (Heap.get?_update_self _ hs' rfl) (.inr ⟨_,rfl⟩)⟩
end
section
variable {prog : Program} {w : World} {A : Around} {E : Value->Shared->Prop} {s : Shared} {Q : Value->Shared->Prop}
noncomputable abbrev Seen (prog : Program) (w : World) (A : Around) (op : CmpOp) (Q : Value->Shared->Prop) (it : Value) (t : Shared) : Prop:=
 ∃ (I : Addr) (fp wr : List Addr) (n : Nat) (P : Nat->Value->Prop) (St : Nat->Heap->Prop) (bt : Nat->Nat->Bool),it = .ref I/\Walks prog w A I fp wr n P St/\St 0 t.heap/\(∀ b ∈ fp,b < t.heap.objs.size)/\0 < n/\
  (∃ Gd : Shared->Prop,Gd t/\(∀ s h' tk,Gd s->(∀ b o,b ∉ wr->b < t.heap.objs.size->s.heap.get? b = some o->h'.get? b = some o)->Gd { s with heap:=h',toks:=tk })/\
   ∀ i j vi vj s Q E,Gd s->P i vi->P j vj->Q (.bool (bt i j)) s->wpAny (model prog w) A (richCompare op vi vj) Q E s)/\
  ∀ v h' tk,P (argBest bt (n - 1)) v->(∀ b o,b ∉ wr->t.heap.get? b = some o->h'.get? b = some o)->Q v { t with heap:=h',toks:=tk }
theorem begun (m : Bool) {it : Value} {t : Shared} {R : Result->Shared->Prop} (hR : ∀ v s,Q v s->R (.ok (.ret v)) s) (h : Seen prog w A.in1 (wdO m) Q it t) :
  codeAny (model prog w) A (.builtin (wdL m) ⟨[it,.none,.ref t.heap.objs.size],[]⟩) R { t with heap:=t.heap.push { cls:=.type "list",data:=.seq #[] } }:=by
 obtain ⟨I,fp,wr,n,P,St,bt,rfl,W,st,hfp,hn,⟨Gd,g,gk,gs⟩,q⟩:=h
 have up : ∀ b o,t.heap.get? b = some o->(t.heap.push { cls:=.type "list",data:=.seq #[] }).get? b = some o:=fun b o e=>Heap.get?_push_of_some _ e
 refine turn m W (fun z=>Nat.lt_irrefl _ (hfp _ z)) ⟨gk,gs⟩ n 0 _ #[] _ (Nat.zero_add n) (W.frame _ _ _ st fun b _ o e=>up b o e) (gk t _ t.toks g fun b o _ _ e=>up b o e) ⟨rfl,hn⟩ (Heap.get?_push_size _ rfl) fun v h' tk hv kp=>?_
 exact hR _ _ (q v h' tk hv fun b o h1 e=>kp b o h1 (Nat.ne_of_lt (Heap.lt_size e)) (up b o e))
theorem cal_min_walk {x : Value} (h : wpAny (model prog w) A.in1 (pyIter x) (Seen prog w A.in1 .Lt Q) E s) : wpAny (model prog w) A (call (.builtin "min") [x]) Q E s:=by
 have nmn : (toString "min" ++ toString ".loop" : String) = "min.loop":=by decide
 refine call_function_tree F.kind_min F.plain_min F.entry_min (F.args_min1 _) ?_
 refine wpAny_bind (m:=Builtin.Builtins.bindParams "min" ["key", "default"] 0 ⟨[],[]⟩) (wpAny_of_eq (a:=[none,none]) rfl ?_)
 refine wpAny_bind (wpAny_pure (wpAny_bind (wpAny_mono h (fun it t ht=>wpAny_bind (wpAny_newObj_type ?_)) fun _ _ e=>e)))
 rw [nmn]
 exact wpAny_pure ⟨plainId_quiet F.plain_min_loop _,begun false (fun _ _ q=>q) ht⟩
theorem cal_max_walk {x : Value} (h : wpAny (model prog w) A.in1 (pyIter x) (Seen prog w A.in1 .Gt Q) E s) : wpAny (model prog w) A (call (.builtin "max") [x]) Q E s:=by
 have nmx : (toString "max" ++ toString ".loop" : String) = "max.loop":=by decide
 refine call_function_tree F.kind_max F.plain_max F.entry_max (F.args_max1 _) ?_
 refine wpAny_bind (m:=Builtin.Builtins.bindParams "max" ["key", "default"] 0 ⟨[],[]⟩) (wpAny_of_eq (a:=[none,none]) rfl ?_)
 refine wpAny_bind (wpAny_pure (wpAny_bind (wpAny_mono h (fun it t ht=>wpAny_bind (wpAny_newObj_type ?_)) fun _ _ e=>e)))
 rw [nmx]
 exact wpAny_pure ⟨plainId_quiet F.plain_max_loop _,begun true (fun _ _ q=>q) ht⟩
theorem cal_min_two {a b : Value} (h : wpAny (model prog w) A.in1 (pyIter (.ref s.heap.objs.size)) (Seen prog w A.in1 .Lt Q) E { s with heap:=s.heap.push { cls:=.type "tuple",data:=.seq #[a,b] } }) : wpAny (model prog w) A (call (.builtin "min") [a,b]) Q E s:=by
 have nmn : (toString "min" ++ toString ".loop" : String) = "min.loop":=by decide
 refine call_function_tree F.kind_min F.plain_min F.entry_min (F.args_min2 _ _) ?_
 refine wpAny_bind (m:=Builtin.Builtins.bindParams "min" ["key", "default"] 0 ⟨[],[]⟩) (wpAny_of_eq (a:=[none,none]) rfl ?_)
 refine wpAny_bind (m:=newTuple [a,b]) (wpAny_newObj_type (wpAny_bind (wpAny_mono h (fun it t ht=>wpAny_bind (wpAny_newObj_type ?_)) fun _ _ e=>e)))
 rw [nmn]
 exact wpAny_pure ⟨plainId_quiet F.plain_min_loop _,begun false (fun _ _ q=>q) ht⟩
theorem cal_max_two {a b : Value} (h : wpAny (model prog w) A.in1 (pyIter (.ref s.heap.objs.size)) (Seen prog w A.in1 .Gt Q) E { s with heap:=s.heap.push { cls:=.type "tuple",data:=.seq #[a,b] } }) : wpAny (model prog w) A (call (.builtin "max") [a,b]) Q E s:=by
 have nmx : (toString "max" ++ toString ".loop" : String) = "max.loop":=by decide
 refine call_function_tree F.kind_max F.plain_max F.entry_max (F.args_max2 _ _) ?_
 refine wpAny_bind (m:=Builtin.Builtins.bindParams "max" ["key", "default"] 0 ⟨[],[]⟩) (wpAny_of_eq (a:=[none,none]) rfl ?_)
 refine wpAny_bind (m:=newTuple [a,b]) (wpAny_newObj_type (wpAny_bind (wpAny_mono h (fun it t ht=>wpAny_bind (wpAny_newObj_type ?_)) fun _ _ e=>e)))
 rw [nmx]
 exact wpAny_pure ⟨plainId_quiet F.plain_max_loop _,begun true (fun _ _ q=>q) ht⟩
end
end PySem.Mm
end
section
set_option maxRecDepth 100000
namespace Mi
open PySem L2 PySem.SeqAt PySem.Spec PyProof.Rows
variable [KFrag]
theorem fold_best (o : Ordr) (x : D) (xs : List D) : ∀ k,k<=xs.length->(xs.take k).foldl (fun m y=>if (ordD o y m).getD false then y else m) x = (x :: xs).getD (argBest (btD o (x :: xs)) k) .non
 | 0,_=>by simp [argBest]
 | k + 1,h=>by
  have ih:=fold_best o x xs k (by lia)
  have hk : k < xs.length:=by lia
  rw [List.take_succ_eq_append_getElem hk,List.foldl_append,ih]
  have e : (x :: xs).getD (k + 1) .non = xs[k]:=by simp [hk]
  have hb : btD o (x :: xs) (k + 1) (argBest (btD o (x :: xs)) k) = (ordD o xs[k] ((x :: xs).getD (argBest (btD o (x :: xs)) k) .non)).getD false:=by unfold btD;rw [e]
  show (if (ordD o xs[k] ((x :: xs).getD (argBest (btD o (x :: xs)) k) .non)).getD false then xs[k] else (x :: xs).getD (argBest (btD o (x :: xs)) k) .non) = (x :: xs).getD (if btD o (x :: xs) (k + 1) (argBest (btD o (x :: xs)) k) then k + 1 else argBest (btD o (x :: xs)) k) .non
  rw [<- hb]
  cases btD o (x :: xs) (k + 1) (argBest (btD o (x :: xs)) k) with
  | true=>rw [if_pos rfl,if_pos rfl,e]
  | false=>rw [if_neg (by simp),if_neg (by simp)]
section
variable {X : Cx} {pins : List (Addr × Obj)} {σ : L2.St} {H : Hp} {s : Shared}
noncomputable def Gds (s : Shared) (s' : Shared) : Prop:=∃ h' tk,s' = { s with heap:=h',toks:=tk }/\∀ b o,s.heap.get? b = some o->h'.get? b = some o
theorem best_cmp (I : Inv X pins σ H s) (hu : X.A.units + 20 < cLine) {o : Ordr} {xs : List V} {ds : List D} {its : List Value} {d : D} (r : Reps All H xs ds) (vr : Vals xs its) (h : bestD o ds = .ok d) (i j : Nat) (vi vj : Value) (s' : Shared) (Q : Value->Shared->Prop) (E : Value->Shared->Prop)
  (g : Gds s s') (hi : its.toArray[i]? = some vi) (hj : its.toArray[j]? = some vj) (q : Q (.bool (btD o ds i j)) s') : wpAny (model X.prog X.w) X.A.in1 (richCompare o.op vi vj) Q E s':=by
 obtain ⟨h',tk,rfl,hk⟩:=g
 have I' : Inv X pins σ H { s with heap:=h',toks:=tk }:=I.kept hk
 have hi' : its[i]? = some vi:=by simpa using hi
 have hj' : its[j]? = some vj:=by simpa using hj
 have at_ : ∀ {i : Nat} {v : Value},its[i]? = some v->∃ d w,ds.getD i .non = d/\d ∈ ds/\RelV w v/\Rep All H w d:=by
  intro i v hv
  have hlt : i < its.length:=(List.getElem?_eq_some_iff.mp hv).1
  have hlt' : i < ds.length:=by rw [<- r.length,vr.length];exact hlt
  obtain ⟨w,h1,h2⟩:=r.get (i:=i) (d:=ds[i]) (by simp [hlt'])
  obtain ⟨u,h3,h4⟩:=vr.get h1
  rw [hv] at h3;cases h3
  exact ⟨ds[i],w,by simp [hlt'],List.getElem_mem _,h4,h2⟩
 obtain ⟨d1,w1,e1,m1,v1,r1⟩:=at_ hi'
 obtain ⟨d2,w2,e2,m2,v2,r2⟩:=at_ hj'
 cases ds with
 | nil=>cases m1
 | cons x xs'=>
  simp only [bestD] at h
  split at h
  ·rename_i hall
   have h1:=List.all_eq_true.mp hall d1 m1
   have h2:=List.all_eq_true.mp hall d2 m2
   rw [Bool.and_eq_true] at h1 h2
   obtain ⟨k,hk⟩:=Option.isSome_iff_exists.mp (List.all_eq_true.mp h1.2 d2 m2)
   have : btD o (x :: xs') i j = k:=by unfold btD;rw [e1,e2,hk];rfl
   rw [this] at q
   exact rep_ord I' o eqdepth X.A.in1 (by show X.A.units + 1 + 12 < cLine;lia) h1.1 h2.1 r1 r2 v1 v2 hk X.prog X.w E Q q
  ·cases h
theorem best_at {o : Ordr} {xs : List V} {ds : List D} {its : List Value} {d : D} (r : Reps All H xs ds) (vr : Vals xs its) (h : bestD o ds = .ok d) {v : Value} (hv : its.toArray[argBest (btD o ds) (its.length - 1)]? = some v) : ∃ w,RelV w v/\Rep All H w d:=by
 have hv' : its[argBest (btD o ds) (its.length - 1)]? = some v:=by simpa using hv
 cases ds with
 | nil=>cases h
 | cons x xs'=>
  simp only [bestD] at h
  split at h
  ·cases h
   have hl : its.length - 1 = xs'.length:=by rw [<- vr.length,r.length];simp
   rw [hl] at hv'
   have fb:=fold_best o x xs' xs'.length (Nat.le_refl _)
   rw [List.take_length] at fb
   have hlt : argBest (btD o (x :: xs')) xs'.length < its.length:=(List.getElem?_eq_some_iff.mp hv').1
   have hlt' : argBest (btD o (x :: xs')) xs'.length < (x :: xs').length:=by rw [<- r.length,vr.length];exact hlt
   obtain ⟨w,h1,h2⟩:=r.get (i:=argBest (btD o (x :: xs')) xs'.length) (d:=(x :: xs')[argBest (btD o (x :: xs')) xs'.length]) (by simp [hlt'])
   obtain ⟨u,h3,h4⟩:=vr.get h1
   rw [hv'] at h3;cases h3
   refine ⟨w,h4,?_⟩
   rw [fb,List.getD_eq_getElem?_getD,List.getElem?_eq_getElem hlt']
   exact h2
  ·cases h
theorem Gds.grow {s' : Shared} {h1 : Heap} {tk1 : Nat} (g : Gds s s') {wq : List Addr} {n : Nat} (hw : ∀ b ∈ wq,s.heap.objs.size<=b) (hn : s.heap.objs.size<=n)
  (kk : ∀ b o,b ∉ wq->b < n->s'.heap.get? b = some o->h1.get? b = some o) : Gds s { s' with heap:=h1,toks:=tk1 }:=by
 obtain ⟨h',tk,rfl,hk⟩:=g
 refine ⟨h1,tk1,rfl,fun b o e=>kk b o (fun hb=>?_) (Nat.lt_of_lt_of_le (Heap.lt_size e) hn) (hk b o e)⟩
 exact absurd (Nat.lt_of_lt_of_le (Heap.lt_size e) (hw b hb)) (Nat.lt_irrefl _)
end
section
variable {X : Cx}
theorem bestD_ne {o : Ordr} {ds : List D} {d : D} (h : bestD o ds = .ok d) : 0 < ds.length:=by
 cases ds with
 | nil=>cases h
 | cons _ _=>simp
theorem om_min_lst (hu : X.A.units + 20 < cLine) (hc : X.calm = true) {pins : List (Addr × Obj)} {σ : L2.St} {H : Hp} {s : Shared} {l : Addr} {xs : List V} {ds : List D} {d : D} {Q : VK} (I : Inv X pins σ H s) (hl : SqL X.K H l xs) (r : Reps All H xs ds) (h : bestD .lt ds = .ok d) (q : kR H d false Q) :
  wpAny (model X.prog X.w) X.A (call (.builtin "min") [.ref l]) (EP X pins σ Q) X.xe s:=by
 obtain ⟨its,vr,pl⟩:=lst_of I hl
 have hlt : l < s.heap.objs.size:=by obtain ⟨_,e,_⟩:=pl;exact Heap.lt_size e
 refine Mm.cal_min_walk (wpAny_pyIter_list pl ?_)
 refine ⟨_,_,_,_,_,_,btD .lt ds,rfl,Walks.list (A:=X.A.in1) (I.ok.hd hc) _ l (Nat.ne_of_lt hlt) its.toArray,⟨⟨_,Heap.get?_push_size _ rfl,rfl,rfl⟩,pl.push _⟩,fun b hb=>?_,by rw [List.size_toArray,<- vr.length,r.length];exact bestD_ne h,⟨Gds s,⟨_,s.toks,rfl,fun b o e=>Heap.get?_push_of_some _ e⟩,fun s' h' tk g kk=>g.grow (wq:=[s.heap.objs.size]) (n:=s.heap.objs.size + 1) (fun b hb=>?_) (Nat.le_succ _) fun b o h1 h2 e=>kk b o h1 (by show b < (s.heap.push _).objs.size;rw [Heap.size_push];exact h2) e,fun i j vi vj s' Q E g h1 h2 q=>best_cmp I hu r vr h i j vi vj s' Q E g h1 h2 q⟩,fun v h' tk hP hk=>?_⟩
 ·show b < (s.heap.push _).objs.size
  rw [Heap.size_push]
  rcases List.mem_cons.mp hb with rfl | hb
  ·exact Nat.lt_succ_self _
  ·rcases List.mem_cons.mp hb with rfl | hb
   ·exact Nat.lt_succ_of_lt hlt
   ·cases hb
 ·rcases List.mem_cons.mp hb with rfl | hb
  ·exact Nat.le_refl _
  ·cases hb
 ·obtain ⟨w,v1,r1⟩:=best_at r vr h (by simpa using hP)
  refine ⟨w,H,I.kept fun b o e=>hk b o (fun hb=>?_) (Heap.get?_push_of_some _ e),v1,q.self r1 fun z=>by cases z⟩
  rcases List.mem_cons.mp hb with rfl | hb
  ·exact absurd (Heap.lt_size e) (Nat.lt_irrefl _)
  ·cases hb
theorem om_min_tup (hu : X.A.units + 20 < cLine) (hc : X.calm = true) {pins : List (Addr × Obj)} {σ : L2.St} {H : Hp} {s : Shared} {l : Addr} {xs : List V} {ds : List D} {d : D} {Q : VK} (I : Inv X pins σ H s) (hl : H l = some (.tup xs)) (r : Reps All H xs ds) (h : bestD .lt ds = .ok d) (q : kR H d false Q) :
  wpAny (model X.prog X.w) X.A (call (.builtin "min") [.ref l]) (EP X pins σ Q) X.xe s:=by
 obtain ⟨its,vr,pl⟩:=fst_of I hl
 have hlt : l < s.heap.objs.size:=by obtain ⟨_,e,_⟩:=pl;exact Heap.lt_size e
 refine Mm.cal_min_walk (wpAny_pyIter_tuple pl ?_)
 refine ⟨_,_,_,_,_,_,btD .lt ds,rfl,Walks.tuple (A:=X.A.in1) (I.ok.hd hc) _ l (Nat.ne_of_lt hlt) its.toArray,⟨⟨_,Heap.get?_push_size _ rfl,rfl,rfl⟩,pl.push _⟩,fun b hb=>?_,by rw [List.size_toArray,<- vr.length,r.length];exact bestD_ne h,⟨Gds s,⟨_,s.toks,rfl,fun b o e=>Heap.get?_push_of_some _ e⟩,fun s' h' tk g kk=>g.grow (wq:=[s.heap.objs.size]) (n:=s.heap.objs.size + 1) (fun b hb=>?_) (Nat.le_succ _) fun b o h1 h2 e=>kk b o h1 (by show b < (s.heap.push _).objs.size;rw [Heap.size_push];exact h2) e,fun i j vi vj s' Q E g h1 h2 q=>best_cmp I hu r vr h i j vi vj s' Q E g h1 h2 q⟩,fun v h' tk hP hk=>?_⟩
 ·show b < (s.heap.push _).objs.size
  rw [Heap.size_push]
  rcases List.mem_cons.mp hb with rfl | hb
  ·exact Nat.lt_succ_self _
  ·rcases List.mem_cons.mp hb with rfl | hb
   ·exact Nat.lt_succ_of_lt hlt
   ·cases hb
 ·rcases List.mem_cons.mp hb with rfl | hb
  ·exact Nat.le_refl _
  ·cases hb
 ·obtain ⟨w,v1,r1⟩:=best_at r vr h (by simpa using hP)
  refine ⟨w,H,I.kept fun b o e=>hk b o (fun hb=>?_) (Heap.get?_push_of_some _ e),v1,q.self r1 fun z=>by cases z⟩
  rcases List.mem_cons.mp hb with rfl | hb
  ·exact absurd (Heap.lt_size e) (Nat.lt_irrefl _)
  ·cases hb
theorem om_min_two (hu : X.A.units + 20 < cLine) (hc : X.calm = true) {pins : List (Addr × Obj)} {σ : L2.St} {H : Hp} {s : Shared} {x y : V} {u w : Value} {a b d : D} {Q : VK} (I : Inv X pins σ H s) (rx : Rep All H x a) (ry : Rep All H y b) (ru : RelV x u) (rw' : RelV y w) (h : bestD .lt [a,b] = .ok d) (q : kR H d false Q) :
  wpAny (model X.prog X.w) X.A (call (.builtin "min") [u,w]) (EP X pins σ Q) X.xe s:=by
 have r : Reps All H [x,y] [a,b]:=.cons rx (.cons ry .nil)
 have vr : Vals [x,y] [u,w]:=.cons ru (.cons rw' .nil)
 have pl : (s.heap.push { cls:=.type "tuple",data:=.seq #[u,w] }).IsTuple s.heap.objs.size [u,w].toArray:=⟨_,Heap.get?_push_size _ rfl,rfl,0,rfl⟩
 have hsz : (s.heap.push { cls:=.type "tuple",data:=.seq #[u,w] }).objs.size = s.heap.objs.size + 1:=Heap.size_push ..
 refine Mm.cal_min_two (wpAny_pyIter_tuple pl ?_)
 refine ⟨_,_,_,_,_,_,btD .lt [a,b],rfl,Walks.tuple (A:=X.A.in1) (I.ok.hd hc) _ s.heap.objs.size (by rw [hsz];exact Nat.ne_of_lt (Nat.lt_succ_self _)) [u,w].toArray,⟨⟨_,Heap.get?_push_size _ rfl,rfl,rfl⟩,pl.push _⟩,fun b hb=>?_,by simp,⟨Gds s,⟨_,s.toks,rfl,fun b o e=>Heap.get?_push_of_some _ (Heap.get?_push_of_some _ e)⟩,fun s' h' tk g kk=>g.grow (wq:=[s.heap.objs.size + 1]) (n:=s.heap.objs.size + 2) (fun b hb=>?_) (by lia) fun b o h1 h2 e=>kk b o (by rw [hsz];exact h1) (by show b < ((s.heap.push _).push _).objs.size;rw [Heap.size_push,hsz];exact h2) e,fun i j vi vj s' Q E g h1 h2 q=>best_cmp I hu r vr h i j vi vj s' Q E g h1 h2 q⟩,fun v h' tk hP hk=>?_⟩
 ·show b < ((s.heap.push _).push _).objs.size
  rw [Heap.size_push,hsz]
  rcases List.mem_cons.mp hb with rfl | hb
  ·rw [hsz];exact Nat.lt_succ_self _
  ·rcases List.mem_cons.mp hb with rfl | hb
   ·exact Nat.lt_succ_of_lt (Nat.lt_succ_self _)
   ·cases hb
 ·rcases List.mem_cons.mp hb with rfl | hb
  ·lia
  ·cases hb
 ·obtain ⟨w,v1,r1⟩:=best_at r vr h (by simpa using hP)
  refine ⟨w,H,I.kept fun b o e=>hk b o (fun hb=>?_) (Heap.get?_push_of_some _ (Heap.get?_push_of_some _ e)),v1,q.self r1 fun z=>by cases z⟩
  rcases List.mem_cons.mp hb with hb | hb
  ·have:=Heap.lt_size e
   rw [hb,hsz] at this
   exact absurd this (Nat.not_lt.mpr (Nat.le_succ _))
  ·cases hb
theorem om_min (hu : X.A.units + 20 < cLine) (hc : X.calm = true) : CallR X (.builtin "min") (rs (minmax .lt) false):=by
 intro pins s σ H xs us Q I vr ⟨ds,d,r,e,k⟩
 unfold minmax at e
 split at e
 ·cases r with
  | cons r t=>
   cases t
   cases vr with
   | cons v vt=>
    cases vt
    obtain ⟨l,ys,rfl,hl,rr⟩:=r.lstAt (K:=X.K)
    cases v
    exact om_min_lst hu hc I hl rr e k
 ·cases r with
  | cons r t=>
   cases t
   cases vr with
   | cons v vt=>
    cases vt
    obtain ⟨l,ys,rfl,hl,rr⟩:=r.tupAt
    cases v
    exact om_min_tup hu hc I hl rr e k
 ·cases r with
  | cons r t=>
   cases t with
   | cons r' t=>
    cases t
    cases vr with
    | cons v vt=>
     cases vt with
     | cons v' vt=>
      cases vt
      exact om_min_two hu hc I r r' v v' e k
 ·cases e
theorem om_max_lst (hu : X.A.units + 20 < cLine) (hc : X.calm = true) {pins : List (Addr × Obj)} {σ : L2.St} {H : Hp} {s : Shared} {l : Addr} {xs : List V} {ds : List D} {d : D} {Q : VK} (I : Inv X pins σ H s) (hl : SqL X.K H l xs) (r : Reps All H xs ds) (h : bestD .gt ds = .ok d) (q : kR H d false Q) :
  wpAny (model X.prog X.w) X.A (call (.builtin "max") [.ref l]) (EP X pins σ Q) X.xe s:=by
 obtain ⟨its,vr,pl⟩:=lst_of I hl
 have hlt : l < s.heap.objs.size:=by obtain ⟨_,e,_⟩:=pl;exact Heap.lt_size e
 refine Mm.cal_max_walk (wpAny_pyIter_list pl ?_)
 refine ⟨_,_,_,_,_,_,btD .gt ds,rfl,Walks.list (A:=X.A.in1) (I.ok.hd hc) _ l (Nat.ne_of_lt hlt) its.toArray,⟨⟨_,Heap.get?_push_size _ rfl,rfl,rfl⟩,pl.push _⟩,fun b hb=>?_,by rw [List.size_toArray,<- vr.length,r.length];exact bestD_ne h,⟨Gds s,⟨_,s.toks,rfl,fun b o e=>Heap.get?_push_of_some _ e⟩,fun s' h' tk g kk=>g.grow (wq:=[s.heap.objs.size]) (n:=s.heap.objs.size + 1) (fun b hb=>?_) (Nat.le_succ _) fun b o h1 h2 e=>kk b o h1 (by show b < (s.heap.push _).objs.size;rw [Heap.size_push];exact h2) e,fun i j vi vj s' Q E g h1 h2 q=>best_cmp I hu r vr h i j vi vj s' Q E g h1 h2 q⟩,fun v h' tk hP hk=>?_⟩
 ·show b < (s.heap.push _).objs.size
  rw [Heap.size_push]
  rcases List.mem_cons.mp hb with rfl | hb
  ·exact Nat.lt_succ_self _
  ·rcases List.mem_cons.mp hb with rfl | hb
   ·exact Nat.lt_succ_of_lt hlt
   ·cases hb
 ·rcases List.mem_cons.mp hb with rfl | hb
  ·exact Nat.le_refl _
  ·cases hb
 ·obtain ⟨w,v1,r1⟩:=best_at r vr h (by simpa using hP)
  refine ⟨w,H,I.kept fun b o e=>hk b o (fun hb=>?_) (Heap.get?_push_of_some _ e),v1,q.self r1 fun z=>by cases z⟩
  rcases List.mem_cons.mp hb with rfl | hb
  ·exact absurd (Heap.lt_size e) (Nat.lt_irrefl _)
  ·cases hb
theorem om_max_tup (hu : X.A.units + 20 < cLine) (hc : X.calm = true) {pins : List (Addr × Obj)} {σ : L2.St} {H : Hp} {s : Shared} {l : Addr} {xs : List V} {ds : List D} {d : D} {Q : VK} (I : Inv X pins σ H s) (hl : H l = some (.tup xs)) (r : Reps All H xs ds) (h : bestD .gt ds = .ok d) (q : kR H d false Q) :
  wpAny (model X.prog X.w) X.A (call (.builtin "max") [.ref l]) (EP X pins σ Q) X.xe s:=by
 obtain ⟨its,vr,pl⟩:=fst_of I hl
 have hlt : l < s.heap.objs.size:=by obtain ⟨_,e,_⟩:=pl;exact Heap.lt_size e
 refine Mm.cal_max_walk (wpAny_pyIter_tuple pl ?_)
 refine ⟨_,_,_,_,_,_,btD .gt ds,rfl,Walks.tuple (A:=X.A.in1) (I.ok.hd hc) _ l (Nat.ne_of_lt hlt) its.toArray,⟨⟨_,Heap.get?_push_size _ rfl,rfl,rfl⟩,pl.push _⟩,fun b hb=>?_,by rw [List.size_toArray,<- vr.length,r.length];exact bestD_ne h,⟨Gds s,⟨_,s.toks,rfl,fun b o e=>Heap.get?_push_of_some _ e⟩,fun s' h' tk g kk=>g.grow (wq:=[s.heap.objs.size]) (n:=s.heap.objs.size + 1) (fun b hb=>?_) (Nat.le_succ _) fun b o h1 h2 e=>kk b o h1 (by show b < (s.heap.push _).objs.size;rw [Heap.size_push];exact h2) e,fun i j vi vj s' Q E g h1 h2 q=>best_cmp I hu r vr h i j vi vj s' Q E g h1 h2 q⟩,fun v h' tk hP hk=>?_⟩
 ·show b < (s.heap.push _).objs.size
  rw [Heap.size_push]
  rcases List.mem_cons.mp hb with rfl | hb
  ·exact Nat.lt_succ_self _
  ·rcases List.mem_cons.mp hb with rfl | hb
   ·exact Nat.lt_succ_of_lt hlt
   ·cases hb
 ·rcases List.mem_cons.mp hb with rfl | hb
  ·exact Nat.le_refl _
  ·cases hb
 ·obtain ⟨w,v1,r1⟩:=best_at r vr h (by simpa using hP)
  refine ⟨w,H,I.kept fun b o e=>hk b o (fun hb=>?_) (Heap.get?_push_of_some _ e),v1,q.self r1 fun z=>by cases z⟩
  rcases List.mem_cons.mp hb with rfl | hb
  ·exact absurd (Heap.lt_size e) (Nat.lt_irrefl _)
  ·cases hb
theorem om_max_two (hu : X.A.units + 20 < cLine) (hc : X.calm = true) {pins : List (Addr × Obj)} {σ : L2.St} {H : Hp} {s : Shared} {x y : V} {u w : Value} {a b d : D} {Q : VK} (I : Inv X pins σ H s) (rx : Rep All H x a) (ry : Rep All H y b) (ru : RelV x u) (rw' : RelV y w) (h : bestD .gt [a,b] = .ok d) (q : kR H d false Q) :
  wpAny (model X.prog X.w) X.A (call (.builtin "max") [u,w]) (EP X pins σ Q) X.xe s:=by
 have r : Reps All H [x,y] [a,b]:=.cons rx (.cons ry .nil)
 have vr : Vals [x,y] [u,w]:=.cons ru (.cons rw' .nil)
 have pl : (s.heap.push { cls:=.type "tuple",data:=.seq #[u,w] }).IsTuple s.heap.objs.size [u,w].toArray:=⟨_,Heap.get?_push_size _ rfl,rfl,0,rfl⟩
 have hsz : (s.heap.push { cls:=.type "tuple",data:=.seq #[u,w] }).objs.size = s.heap.objs.size + 1:=Heap.size_push ..
 refine Mm.cal_max_two (wpAny_pyIter_tuple pl ?_)
 refine ⟨_,_,_,_,_,_,btD .gt [a,b],rfl,Walks.tuple (A:=X.A.in1) (I.ok.hd hc) _ s.heap.objs.size (by rw [hsz];exact Nat.ne_of_lt (Nat.lt_succ_self _)) [u,w].toArray,⟨⟨_,Heap.get?_push_size _ rfl,rfl,rfl⟩,pl.push _⟩,fun b hb=>?_,by simp,⟨Gds s,⟨_,s.toks,rfl,fun b o e=>Heap.get?_push_of_some _ (Heap.get?_push_of_some _ e)⟩,fun s' h' tk g kk=>g.grow (wq:=[s.heap.objs.size + 1]) (n:=s.heap.objs.size + 2) (fun b hb=>?_) (by lia) fun b o h1 h2 e=>kk b o (by rw [hsz];exact h1) (by show b < ((s.heap.push _).push _).objs.size;rw [Heap.size_push,hsz];exact h2) e,fun i j vi vj s' Q E g h1 h2 q=>best_cmp I hu r vr h i j vi vj s' Q E g h1 h2 q⟩,fun v h' tk hP hk=>?_⟩
 ·show b < ((s.heap.push _).push _).objs.size
  rw [Heap.size_push,hsz]
  rcases List.mem_cons.mp hb with rfl | hb
  ·rw [hsz];exact Nat.lt_succ_self _
  ·rcases List.mem_cons.mp hb with rfl | hb
   ·exact Nat.lt_succ_of_lt (Nat.lt_succ_self _)
   ·cases hb
 ·rcases List.mem_cons.mp hb with rfl | hb
  ·lia
  ·cases hb
 ·obtain ⟨w,v1,r1⟩:=best_at r vr h (by simpa using hP)
  refine ⟨w,H,I.kept fun b o e=>hk b o (fun hb=>?_) (Heap.get?_push_of_some _ (Heap.get?_push_of_some _ e)),v1,q.self r1 fun z=>by cases z⟩
  rcases List.mem_cons.mp hb with hb | hb
  ·have:=Heap.lt_size e
   rw [hb,hsz] at this
   exact absurd this (Nat.not_lt.mpr (Nat.le_succ _))
  ·cases hb
theorem om_max (hu : X.A.units + 20 < cLine) (hc : X.calm = true) : CallR X (.builtin "max") (rs (minmax .gt) false):=by
 intro pins s σ H xs us Q I vr ⟨ds,d,r,e,k⟩
 unfold minmax at e
 split at e
 ·cases r with
  | cons r t=>
   cases t
   cases vr with
   | cons v vt=>
    cases vt
    obtain ⟨l,ys,rfl,hl,rr⟩:=r.lstAt (K:=X.K)
    cases v
    exact om_max_lst hu hc I hl rr e k
 ·cases r with
  | cons r t=>
   cases t
   cases vr with
   | cons v vt=>
    cases vt
    obtain ⟨l,ys,rfl,hl,rr⟩:=r.tupAt
    cases v
    exact om_max_tup hu hc I hl rr e k
 ·cases r with
  | cons r t=>
   cases t with
   | cons r' t=>
    cases t
    cases vr with
    | cons v vt=>
     cases vt with
     | cons v' vt=>
      cases vt
      exact om_max_two hu hc I r r' v v' e k
 ·cases e
end
end Mi
end
section
namespace PySem.Mm
open PySem PyProof.Rows PySem.W
theorem cal_list_dct {prog : Program} {w : World} {A : Around} {E : Value->Shared->Prop} {s : Shared} {Q : Value->Shared->Prop} {K : Type} [DecidableEq K] {knd : KeyKind prog w K} {d : Addr} {kvs : List (K × Value)} {ep n : Nat} (hh : A.handled = none) (lo : (d == sysModules) = false)
  (hm : s.heap.DictAt knd d kvs ep) (hn : kvs.length = n) (hl : n<=2 ^ 24)
  (q : ∀ h' tk acc c,(∀ b o,s.heap.get? b = some o->h'.get? b = some o)->h'.get? s.heap.objs.size = some { cls:=.type "list",dict:=none,data:=.seq acc c,slots:=#[] }->
   ItemsOf (fun i v=>∃ k x,kvs[i]? = some (k,x)/\knd.is k v = true) acc n->Q (.ref s.heap.objs.size) { s with heap:=h',toks:=tk }) : wpAny (model prog w) A (call (.type "list") [.ref d]) Q E s:=by
 subst hn
 exact kdl_call (kdl_dict lo) hh hm (kdl_size hl) q
end PySem.Mm
end
section
set_option maxRecDepth 100000
namespace Mi
open PySem L2 PySem.SeqAt PySem.Spec PyProof.Rows
variable [KFrag]
section
variable {X : Cx} {a b c e : Expr} {es : List Expr} {pos p : Pos} {fa fb fc fe : FE} {ra rb rc re : Bool} {fs : FA} {rr : Bool} {x : Str} {id T : String}
theorem one_of {P : Addr->Prop} {H : Hp} {xs : List V} {us : List Value} {d : D} (r : Reps P H xs [d]) (vr : Vals xs us) : ∃ v u,xs = [v]/\us = [u]/\Rep P H v d/\RelV v u:=by
 cases r with
 | cons r t=>
  cases t
  cases vr with
  | cons v vt=>
   cases vt
   exact ⟨_,_,rfl,rfl,r,v⟩
theorem call_imp {f : List D->Res D} {fr : Bool} {σ : L2.St} {H : Hp} {Q : VK} (h : gE (bCall f fs) fr σ H Q) : tCB (rs f fr) (gA fs rr) σ H Q:=by
 obtain ⟨ρ,d,E,h,q⟩:=h
 obtain ⟨ds,h1,h2⟩:=bindE h
 exact ⟨ρ,ds,E,h1,fun vs H1 s1 r1 _=>⟨ds,d,r1,h2,q.imp s1 id⟩⟩
theorem me_callB {f : List D->Res D} {fr : Bool} (hc : CallR X (.builtin id) (rs f fr)) (hg : Gl X x) (hm : X.mg x = none) (hv : bootBuiltins x = some (.builtin id)) (ha : PA X (e :: es) (gA fs rr)) (hn : x ≠ "__name__":=by decide) (hdb : (x == ("__debug__" : Str)) = false:=by decide)
  (he : starEach (e :: es) X.env = (false,eval e X.env) :: starEach es X.env:=by rfl) (hpl : (backTo pos (starEach es X.env)).any (·.1) = false:=by rfl) : PE X (.Call (.Name x p) (e :: es) [] pos) (gE (bCall f fs) fr):=
 PE.imp (pe_callB hc hg hm hv ha hn hdb he hpl) fun _ _ _=>call_imp
theorem me_callTy {f : List D->Res D} {fr : Bool} (hc : CallR X (.type T) (rs f fr)) (hg : Gl X x) (hm : X.mg x = none) (hv : bootBuiltins x = some (.type T)) (ha : PA X (e :: es) (gA fs rr)) (hn : x ≠ "__name__":=by decide) (hdb : (x == ("__debug__" : Str)) = false:=by decide)
  (he : starEach (e :: es) X.env = (false,eval e X.env) :: starEach es X.env:=by rfl) (hpl : (backTo pos (starEach es X.env)).any (·.1) = false:=by rfl) : PE X (.Call (.Name x p) (e :: es) [] pos) (gE (bCall f fs) fr):=
 PE.imp (pe_callTy hc hg hm hv ha hn hdb he hpl) fun _ _ _=>call_imp
theorem cl_len (hK : KFrag.K = X.K) : CallR X (.builtin "len") (rs lenD true):=by
 intro pins s σ H xs us Q I vr ⟨ds,d,r,e,k⟩
 unfold lenD at e
 split at e
 ·cases e
  obtain ⟨vv,uu,rfl,rfl,r,v⟩:=one_of r vr
  obtain ⟨l,ys,rfl,hl,rr⟩:=r.tupAt
  cases v
  exact call_len_seq pins s σ H [.ref l] [.ref l] Q I (.cons rfl .nil) ⟨l,ys,rfl,.inr (.of hl),by rw [rr.length];exact k.int⟩
 ·cases e
  obtain ⟨vv,uu,rfl,rfl,r,v⟩:=one_of r vr
  obtain ⟨l,ys,rfl,hl,rr⟩:=r.lstAt (K:=X.K)
  cases v
  exact call_len_seq pins s σ H [.ref l] [.ref l] Q I (.cons rfl .nil) ⟨l,ys,rfl,.inl hl,by rw [rr.length];exact k.int⟩
 ·cases e
  obtain ⟨vv,uu,rfl,rfl,r,v⟩:=one_of r vr
  cases r with
  | @frz l xs ds ee rr=>
   cases v
   exact call_len_seq pins s σ H [.ref l] [.ref l] Q I (.cons rfl .nil) ⟨l,xs,rfl,.inl (ee.sq hK),by rw [rr.length];exact k.int⟩
 ·split at e
  ·rename_i hl
   cases e
   obtain ⟨vv,uu,rfl,rfl,r,v⟩:=one_of r vr
   cases r
   exact call_len_str pins s σ H _ _ Q I (.cons v .nil) ⟨_,rfl,lim_line hl,k.int⟩
  ·cases e
 ·cases e
theorem RepK.keys {P P' : Addr->Prop} {H : Hp} : ∀ {kvs : List (Key × V)} {ds : List (D × D)},RepK P H kvs ds->Reps P' H (kvs.map fun p=>kV p.1) (keysD ds)
 | _,_,.nil=>.nil
 | _,_,.cons (k:=k) _ t=>.cons (by cases k <;> first | exact .int _ | exact .str _) t.keys
theorem list_dict {pins : List (Addr × Obj)} {s : Shared} {σ : L2.St} {H : Hp} {l : Addr} {kvs : List (Key × V)} (hc : X.calm = true) (I : Inv X pins σ H s) (e : H l = some (.dK kvs)) {Q : Value->Shared->Prop}
  (q : ∀ p s',H p = none->Inv X pins σ (upd H p (.lst (kvs.map fun p=>kV p.1))) s'->(∀ l0 o0,H l0 = some o0->l0 ≠ p)->Q (.ref p) s') : wpAny (model X.prog X.w) X.A (call (.type "list") [.ref l]) Q X.xe s:=by
 obtain ⟨z,hd,vs,rel,dd⟩:=dk_of I.hok e
 obtain ⟨ep,da⟩:=dd.dictAt
 have hlen : kvs.length = vs.length:=Paired.length rel
 refine Mm.cal_list_dct (I.ok.hd hc) hd da rfl (by rw [<- hlen];rw [sizeLine_eq] at z;lia) fun h' tk acc' c' kp e1 it=>?_
 obtain ⟨i1,i2⟩:=it
 have hfr : H s.heap.objs.size = none:=I.hok.fresh (Nat.le_refl _)
 refine q _ _ hfr (I.laid (t':=tk) kp (Nat.le_refl _) ?_) fun l0 o0 h0=>ne_of_none h0 hfr
 refine ⟨by rw [List.length_map];exact z,acc'.toList,c',?_,by simpa using e1⟩
 have gen : ∀ (kvs : List (Key × V)) (vs : List (Key × Value)) (xs : List Value),KV kvs vs->xs.length = vs.length->(∀ (j : Nat) (v : Value),xs[j]? = some v->∃ k x,vs[j]? = some (k,x)/\(mixKind X.prog X.w).is k v = true)->Vals (kvs.map fun p=>kV p.1) xs:=by
  intro kvs vs xs rel
  induction rel generalizing xs with
  | nil=>intro hl _;cases xs with | nil=>exact .nil | cons _ _=>simp at hl
  | @cons p q ps qs hpq t ih=>
   intro hl g
   cases xs with
   | nil=>simp at hl
   | cons x xs=>
    refine .cons ?_ (ih xs (by simpa using hl) fun j v hv=>g (j + 1) v (by simpa using hv))
    obtain ⟨k,x',h1,h2⟩:=g 0 x rfl
    have h1' : q = (k,x'):=by simpa using h1
    show RelV (kV p.1) x
    rw [hpq.1,h1']
    rcases keyIs_shape h2 with ⟨i,t,rfl,rfl⟩ | ⟨i,t,rfl,rfl⟩
    ·exact ⟨t,rfl⟩
    ·exact ⟨t,rfl⟩
 exact gen kvs vs acc'.toList rel (by simpa using i1) fun j v hv=>i2 j v (by simpa using hv)
theorem cl_list (hc : X.calm = true) : CallR X (.type "list") (rs listD true):=by
 intro pins s σ H xs us Q I vr ⟨ds,d,r,e,k⟩
 unfold listD at e
 split at e
 ·split at e
  ·rename_i hl
   cases e
   obtain ⟨vv,uu,rfl,rfl,r,v⟩:=one_of r vr
   obtain ⟨l,ys,rfl,hl',rr⟩:=r.tupAt
   cases v
   refine call_list_of pins s σ H [.ref l] [.ref l] Q I (.cons rfl .nil) ⟨l,ys,rfl,.inr (.of hl'),fun p hp=>?_⟩
   have sp : Same H (upd H p (.lst ys)):=Same.upd hp
   exact k _ _ sp (.lst upd_same trivial (rr.same sp)) fun _=>.lst upd_same hp ((rr.ofPure hl).same sp)
  ·cases e
 ·split at e
  ·rename_i hl
   cases e
   obtain ⟨vv,uu,rfl,rfl,r,v⟩:=one_of r vr
   obtain ⟨l,ys,rfl,hl',rr⟩:=r.lstAt (K:=X.K)
   cases v
   refine call_list_of pins s σ H [.ref l] [.ref l] Q I (.cons rfl .nil) ⟨l,ys,rfl,.inl hl',fun p hp=>?_⟩
   have sp : Same H (upd H p (.lst ys)):=Same.upd hp
   exact k _ _ sp (.lst upd_same trivial (rr.same sp)) fun _=>.lst upd_same hp ((rr.ofPure hl).same sp)
  ·cases e
 ·split at e
  ·rename_i hl
   cases e
   obtain ⟨vv,uu,rfl,rfl,r,v⟩:=one_of r vr
   cases r with
   | @dK l kvs ds e _ r n=>
    cases v
    refine list_dict hc I e fun p s' hp I' _=>⟨.ref p,_,I',rfl,?_⟩
    have sp : Same H (upd H p (.lst (kvs.map fun p=>kV p.1))):=Same.upd hp
    exact k _ _ sp (.lst upd_same trivial (r.keys.same sp)) fun _=>.lst upd_same hp (r.keys.same sp)
   | @dT l kvs ds e _ r n=>
    cases v
    cases r with
    | cons r t=>simp [isTup] at hl
    | nil=>
     have e2:=upd_back (o':=.dK []) e
     refine list_dict hc (Inv_emptyK I e) upd_same fun p s' hp I' hne=>?_
     have hp' : p ≠ l:=fun z=>by subst z;rw [upd_same] at hp;cases hp
     have hpn : H p = none:=by rw [upd_ne hp'] at hp;exact hp
     have hcm : upd (upd (upd H l (.dK [])) p (.lst [])) l (.dT []) = upd H p (.lst []):=by
      funext b
      by_cases hb : b = l
      ·subst hb;rw [upd_same,upd_ne (Ne.symm hp'),e]
      ·rw [upd_ne hb]
       by_cases hb2 : b = p
       ·subst hb2;rw [upd_same,upd_same]
       ·rw [upd_ne hb2,upd_ne hb2,upd_ne hb]
     have I2:=Inv_emptyT I' (a:=l) (by rw [upd_ne (Ne.symm hp'),upd_same])
     have I3 : Inv X pins σ (upd H p (.lst [])) s':=by
      have : Inv X pins σ (upd (upd (upd H l (.dK [])) p (.lst [])) l (.dT [])) s':=I2
      rwa [hcm] at this
     have sp : Same H (upd H p (.lst [])):=Same.upd hpn
     exact ⟨.ref p,_,I3,rfl,k _ _ sp (.lst upd_same trivial .nil) fun _=>.lst upd_same hpn .nil⟩
  ·cases e
 ·cases e
theorem cl_tuple : CallR X (.type "tuple") (rs tupleD false):=by
 intro pins s σ H xs us Q I vr ⟨ds,d,r,e,k⟩
 unfold tupleD at e
 split at e
 ·cases e
  obtain ⟨vv,uu,rfl,rfl,r,v⟩:=one_of r vr
  obtain ⟨l,ys,rfl,hl',rr⟩:=r.tupAt
  cases v
  exact call_tuple_of pins s σ H [.ref l] [.ref l] Q I (.cons rfl .nil) ⟨l,ys,rfl,.inr ⟨.of hl',k.self (.tup hl' rr) fun z=>by cases z⟩⟩
 ·cases e
  obtain ⟨vv,uu,rfl,rfl,r,v⟩:=one_of r vr
  obtain ⟨l,ys,rfl,hl',rr⟩:=r.lstAt (K:=X.K)
  cases v
  refine call_tuple_of pins s σ H [.ref l] [.ref l] Q I (.cons rfl .nil) ⟨l,ys,rfl,.inl ⟨hl',fun p hp=>?_⟩⟩
  have sp : Same H (upd H p (.tup ys)):=Same.upd hp
  exact k _ _ sp (.tup upd_same (rr.same sp)) fun z=>by cases z
 ·cases e
mutual
theorem plain_pure : ∀ (d : D),d.plain = true->d.pure = true
 | .tup xs,h=>by rw [D.plain] at h;rw [D.pure];exact plains_pures xs h
 | .int _,_=>rfl
 | .str _,_=>rfl
 | .undef,h=>by simp [D.plain] at h
 | .non,_=>rfl
 | .bl _,_=>rfl
 | .lst _,h=>by simp [D.plain] at h
 | .dct _,h=>by simp [D.plain] at h
 | .scr _,h=>by simp [D.plain] at h
 | .fdc _,h=>by simp [D.plain] at h
theorem plains_pures : ∀ (ds : List D),D.plains ds = true->D.pures ds = true
 | [],_=>rfl
 | x :: xs,h=>by rw [D.plains,Bool.and_eq_true] at h;rw [D.pures,Bool.and_eq_true];exact ⟨plain_pure x h.1,plains_pures xs h.2⟩
end
theorem sortD_pures {ds : List D} (h : comparable ds = true) : D.pures (sortD ds) = true:=pures_mem.mpr fun d hd=>plain_pure d (cmp_all h ((sortD_perm ds).mem_iff.mp hd)).1
theorem cl_sorted (hu : X.A.units + 20 < cLine) : CallR X (.builtin "sorted") (rs sortedD true):=by
 intro pins s σ H xs us Q I vr ⟨ds,d,r,e,k⟩
 unfold sortedD at e
 split at e
 ·split at e
  ·rename_i hl
   cases e
   obtain ⟨vv,uu,rfl,rfl,r,v⟩:=one_of r vr
   obtain ⟨l,ys,rfl,hl',rr⟩:=r.lstAt (K:=X.K)
   cases v
   refine sorted_rep I hu hl' rr hl fun p xs' hp r'=>?_
   have sp : Same H (upd H p (.lst xs')):=Same.upd hp
   exact k _ _ sp (.lst upd_same trivial (r'.same sp)) fun _=>.lst upd_same hp ((r'.ofPure (sortD_pures hl)).same sp)
  ·cases e
 ·cases e
theorem isi {pins : List (Addr × Obj)} {s : Shared} {σ : L2.St} {H : Hp} {v : V} {u : Value} {d : D} {t : Ty} {k : Bool} (I : Inv X pins σ H s) (r : Rep All H v d) (ru : RelV v u) (h : isTy t d = .ok k) {Q : Value->Shared->Prop}
  (q : ∀ tk,Q (.bool k) { s with toks:=tk }) : wpAny (model X.prog X.w) X.A (call (.builtin "isinstance") [u,.type t.nm]) Q X.xe s:=by
 have q0 : Q (.bool k) s:=q s.toks
 cases r with
 | non=>cases ru;cases t <;> simp only [isTy] at h <;> cases h <;> first | exact IsiPair.NoneType_int (q _) | exact IsiPair.NoneType_str (q _) | exact IsiPair.NoneType_bool (q _) | exact IsiPair.NoneType_list (q _) | exact IsiPair.NoneType_tuple (q _) | exact IsiPair.NoneType_dict (q _)
 | bl b=>cases ru;cases t <;> simp only [isTy] at h <;> cases h <;> first | exact IsiPair.bool_int q0 | exact IsiPair.bool_str (q _) | exact IsiPair.bool_bool q0 | exact IsiPair.bool_list (q _) | exact IsiPair.bool_tuple (q _) | exact IsiPair.bool_dict (q _)
 | int b=>obtain ⟨tt,rfl⟩:=ru;cases t <;> simp only [isTy] at h <;> cases h <;> first | exact IsiPair.int_int q0 | exact IsiPair.int_str (q _) | exact IsiPair.int_bool (q _) | exact IsiPair.int_list (q _) | exact IsiPair.int_tuple (q _) | exact IsiPair.int_dict (q _)
 | str b=>obtain ⟨tt,rfl⟩:=ru;cases t <;> simp only [isTy] at h <;> cases h <;> first | exact IsiPair.str_int (q _) | exact IsiPair.str_str q0 | exact IsiPair.str_bool (q _) | exact IsiPair.str_list (q _) | exact IsiPair.str_tuple (q _) | exact IsiPair.str_dict (q _)
 | tup e rr=>
  cases ru
  obtain ⟨its,vr,o,ho,hc,_⟩:=fst_of I e
  cases t <;> simp only [isTy] at h <;> cases h <;> first | exact IsiPair.tuple_int ho hc (q _) | exact IsiPair.tuple_str ho hc (q _) | exact IsiPair.tuple_bool ho hc (q _) | exact IsiPair.tuple_list ho hc (q _) | exact IsiPair.tuple_tuple ho hc q0 | exact IsiPair.tuple_dict ho hc (q _)
 | lst e p rr=>
  cases ru
  obtain ⟨its,vr,o,ho,hc,_⟩:=lst_of I (.of e)
  cases t <;> simp only [isTy] at h <;> cases h <;> first | exact IsiPair.list_int ho hc (q _) | exact IsiPair.list_str ho hc (q _) | exact IsiPair.list_bool ho hc (q _) | exact IsiPair.list_list ho hc q0 | exact IsiPair.list_tuple ho hc (q _) | exact IsiPair.list_dict ho hc (q _)
 | frz e rr=>cases t <;> cases h
 | fdK e rr n=>cases t <;> cases h
 | fdT e rr n=>cases t <;> cases h
 | dK e p rr n=>
  cases ru
  obtain ⟨_,_,_,_,o,_,_,ho,hx,_⟩:=dk_of I.hok e
  have hc:=hx.1
  cases t <;> simp only [isTy] at h <;> cases h <;> first | exact IsiPair.dict_int ho hc (q _) | exact IsiPair.dict_str ho hc (q _) | exact IsiPair.dict_bool ho hc (q _) | exact IsiPair.dict_list ho hc (q _) | exact IsiPair.dict_tuple ho hc (q _) | exact IsiPair.dict_dict ho hc q0
 | dT e p rr n=>
  cases ru
  obtain ⟨_,_,_,_,o,_,_,ho,hx,_⟩:=dt_of I.hok e
  have hc:=hx.1
  cases t <;> simp only [isTy] at h <;> cases h <;> first | exact IsiPair.dict_int ho hc (q _) | exact IsiPair.dict_str ho hc (q _) | exact IsiPair.dict_bool ho hc (q _) | exact IsiPair.dict_list ho hc (q _) | exact IsiPair.dict_tuple ho hc (q _) | exact IsiPair.dict_dict ho hc q0
noncomputable def rIsi (t : Ty) : List V->Hp->VK->Prop:=fun xs H Q=>∃ v d k,xs = [v,.ty t.nm]/\Rep All H v d/\isTy t d = .ok k/\Q (.bl k) H
theorem cl_isi (t : Ty) : CallR X (.builtin "isinstance") (rIsi t):=by
 intro pins s σ H xs us Q I vr ⟨v,d,k,e,r,h,q⟩
 subst e
 cases vr with
 | cons rv vt=>
  cases vt with
  | cons rt vt=>
   cases vt
   cases rt
   exact isi I r rv h fun tk=>⟨.bl k,H,I.tok tk,rfl,q⟩
theorem me_isi (t : Ty) {y : Str} {p2 : Pos} (ha : PE X a (gE fa ra)) (hg : Gl X "isinstance") (hm : X.mg "isinstance" = none) (hv : bootBuiltins "isinstance" = some (.builtin "isinstance")) (gy : Gl X y) (my : X.mg y = none) (vy : bootBuiltins y = some (.type t.nm))
  (hy : y ≠ "__name__":=by decide) (hyd : (y == ("__debug__" : Str)) = false:=by decide)
  (he : starEach [a,.Name y p2] X.env = (false,eval a X.env) :: starEach [.Name y p2] X.env:=by rfl) (he2 : starEach [.Name y p2] X.env = (false,eval (.Name y p2) X.env) :: starEach [] X.env:=by rfl)
  (hpl : (backTo pos (starEach [.Name y p2] X.env)).any (·.1) = false:=by rfl) : PE X (.Call (.Name "isinstance" p) [a,.Name y p2] [] pos) (gE (b1 (isTyD t) fa) true):=
 PE.imp (pe_callB (cl_isi t) hg hm hv (pa_cons ha (pa_cons (pe_bltn gy my vy (v:=.ty t.nm) rfl hy hyd) pa_nil he2) he) (by decide) (by decide) he hpl) fun σ H Q ⟨ρ,d,E,h,q⟩=>by
  obtain ⟨x,h1,h⟩:=bindE h
  obtain ⟨k,h2,h⟩:=bindE h
  cases h
  exact ⟨ρ,x,E,h1,fun v H1 s1 r1 _=>⟨v,x,k,rfl,r1,h2,(q.imp s1 id).bl⟩⟩
noncomputable def spD (f : List D->Res D) (n : Nat) : Sp:=fun vs H Q _=>∃ ds d,ds.length = n/\Reps All H vs ds/\f ds = .ok d/\kR H d true Q
theorem spD_len {f : List D->Res D} {n : Nat} {vs : List V} {H : Hp} {Q : VK} {E : XK} (h : spD f n vs H Q E) : vs.length = n:=by
 obtain ⟨ds,d,h1,r,_⟩:=h
 rw [r.length,h1]
theorem me_call {k : Nat} {fad : Addr} {fd : FuncData} {ps : List Str} {f : List D->Res D} {n : Nat} (F : FnOk X.prog X.w X.K X.mg X.base CX0 k fad fd ps (spD f n)) (hr : Room k X.A) (hg : Gl X x) (hm : X.mg x = some (.ref fad)) (hk : PySem.W.keepIn X.K (.ref fad) = true) (hb : Binds X.K fd ps [])
  (ha : PA X (e :: es) (gA fs rr)) (hdb : (x == ("__debug__" : Str)) = false:=by decide) (he : starEach (e :: es) X.env = (false,eval e X.env) :: starEach es X.env:=by rfl) (hpl : (backTo pos (starEach es X.env)).any (·.1) = false:=by rfl) :
  PE X (.Call (.Name x p) (e :: es) [] pos) (gE (bCall (argN n f) fs) true):=
 PE.imp (pe_call F hr hg hm hk hb .nil pass0 ha hdb he hpl) fun σ H Q ⟨ρ,d,E,h,q⟩=>by
  obtain ⟨ds,h1,h⟩:=bindE h
  unfold argN at h
  split at h
  ·rename_i hl
   exact ⟨ρ,ds,E,h1,fun vs H1 s1 r1 _=>⟨ds,d,of_decide_eq_true hl,by rw [List.append_nil];exact r1,h,q.imp s1 id⟩⟩
  ·cases h
end
end Mi
end
section
set_option maxRecDepth 100000
namespace Mi
open PySem L2 PySem.SeqAt PySem.Spec PyProof.Rows
noncomputable def charsD (x : Str) : List D:=x.cps.toList.map fun c=>D.str ⟨#[c]⟩
noncomputable def enumL (xs : List D) : List D:=xs.zipIdx.map fun p=>.tup [.int p.2,p.1]
noncomputable def zipL (xs ys : List D) : List D:=(xs.zip ys).map fun p=>.tup [p.1,p.2]
noncomputable def enumF (m : Nat) (xs : List D) : List D:=xs.zipIdx.map fun p=>.tup [.int ((m + p.2 : Nat) : Int),p.1]
variable [KFrag]
noncomputable def Itss (x : Str) : It:=⟨fun i _=>i < x.cps.size,fun i H v H'=>H' = H/\∃ c,x.cps[i]? = some c/\v = .str ⟨#[c]⟩,fun i _=>x.cps.size<=i⟩
noncomputable def Ite (K : PySem.W.Frag) (a : Addr) : It:=
 ⟨fun i H=>∃ xs x,SqL K H a xs/\xs[i]? = some x,fun i H v H'=>∃ t x,(∀ xs,SqL K H a xs->xs[i]? = some x)/\v = .ref t/\H t = none/\H' = upd H t (.tup [.int i,x]),fun i H=>∃ xs,SqL K H a xs/\xs.length<=i⟩
noncomputable def IteF (K : PySem.W.Frag) (m : Nat) (a : Addr) : It:=
 ⟨fun i H=>∃ xs x,SqL K H a xs/\xs[i]? = some x,fun i H v H'=>∃ t x,(∀ xs,SqL K H a xs->xs[i]? = some x)/\v = .ref t/\H t = none/\H' = upd H t (.tup [.int ((m + i : Nat) : Int),x]),fun i H=>∃ xs,SqL K H a xs/\xs.length<=i⟩
noncomputable def Itz (a b : Addr) : It :=
  ⟨fun i H => ∃ xs ys x y, H a = some (.tup xs) /\ H b = some (.tup ys) /\ xs[i]? = some x /\ ys[i]? = some y, fun i H v H' => ∃ t x y, (∀ xs, H a = some (.tup xs) -> xs[i]? = some x) /\ (∀ ys, H b = some (.tup ys) -> ys[i]? = some y) /\ v = .ref t /\ H t = none /\ H' = upd H t (.tup [x, y]),
   fun i H => ∃ xs ys, H a = some (.tup xs) /\ H b = some (.tup ys) /\ ys.length = xs.length /\ xs.length <= i⟩
theorem enumF_at {m : Nat} {xs : List D} {i : Nat} : (enumF m xs)[i]? = (xs[i]?).map fun d=>.tup [.int ((m + i : Nat) : Int),d]:=by
 unfold enumF
 rw [List.getElem?_map,List.getElem?_zipIdx,Nat.zero_add]
 cases xs[i]? <;> rfl
theorem enumL_at {xs : List D} {i : Nat} : (enumL xs)[i]? = (xs[i]?).map fun d=>.tup [.int i,d]:=by
 unfold enumL
 rw [List.getElem?_map,List.getElem?_zipIdx,Nat.zero_add]
 cases xs[i]? <;> rfl
theorem enumL_len (xs : List D) : (enumL xs).length = xs.length:=by simp [enumL]
inductive ItQ (K : PySem.W.Frag) (P : Addr->Prop) (J : It) (H : Hp) (items : List D) : Prop
 | lst (a : Addr) (e : J = Itl K a) (r : Rep P H (.ref a) (.lst items))
 | tup (a : Addr) (e : J = Itt K a) (r : Rep P H (.ref a) (.tup items))
 | rng (lo : Int) (n : Nat) (e : J = Itr lo n) (r : items = (List.range n).map fun (k : Nat)=>D.int (lo + k))
 | chs (x : Str) (e : J = Itss x) (r : items = charsD x)
 | enm (a : Addr) (ds : List D) (e : J = Ite K a) (r : Rep P H (.ref a) (.lst ds)) (h : items = enumL ds)
 | enf (m : Nat) (a : Addr) (ds : List D) (e : J = IteF K m a) (r : Rep P H (.ref a) (.lst ds)) (h : items = enumF m ds)
 | zip (a b : Addr) (ds es : List D) (e : J = Itz a b) (r : Rep P H (.ref a) (.tup ds)) (q : Rep P H (.ref b) (.tup es)) (n : es.length = ds.length) (h : items = zipL ds es)
theorem ItQ.keep {K : PySem.W.Frag} {P P' : Addr->Prop} {J : It} {H H' : Hp} {items : List D} (h : ItQ K P J H items) (k : Keep P H H') (m : ∀ a,P a->P' a) : ItQ K P' J H' items:=by
 cases h with
 | lst a e r=>exact .lst a e (r.keep k m)
 | tup a e r=>exact .tup a e (r.keep k m)
 | rng lo n e r=>exact .rng lo n e r
 | chs x e r=>exact .chs x e r
 | enm a ds e r h=>exact .enm a ds e (r.keep k m) h
 | enf m' a ds e r h=>exact .enf m' a ds e (r.keep k m) h
 | zip a b ds es e r q n h=>exact .zip a b ds es e (r.keep k m) (q.keep k m) n h
theorem ItQ.stop {K : PySem.W.Frag} {P : Addr->Prop} {J : It} {H : Hp} {items : List D} {i : Nat} (h : ItQ K P J H items) (hi : items.length<=i) : J.stop i H:=by
 cases h with
 | lst a e r=>
  subst e
  obtain ⟨a',xs,e,hq,rr⟩:=r.lstAt (K:=K)
  cases e
  exact ⟨xs,hq,by rw [rr.length];exact hi⟩
 | tup a e r=>
  subst e
  obtain ⟨a',xs,e,hq,rr⟩:=r.tupAt
  cases e
  exact ⟨xs,.of hq,by rw [rr.length];exact hi⟩
 | rng lo n e r=>
  subst e r
  show n<=i
  simpa using hi
 | chs x e r=>
  subst e r
  show x.cps.size<=i
  simpa [charsD] using hi
 | enm a ds e r h=>
  subst e h
  obtain ⟨a',xs,e,hq,rr⟩:=r.lstAt (K:=K)
  cases e
  exact ⟨xs,hq,by rw [rr.length,<- enumL_len];exact hi⟩
 | enf m a ds e r h=>
  subst e h
  obtain ⟨a',xs,e,hq,rr⟩:=r.lstAt (K:=K)
  cases e
  exact ⟨xs,hq,by rw [rr.length];simpa [enumF] using hi⟩
 | zip a b ds es e r q n h=>
  subst e h
  obtain ⟨a',xs,e,hq,rr⟩:=r.tupAt
  cases e
  obtain ⟨b',ys,e,hq2,rr2⟩:=q.tupAt
  cases e
  have : (zipL ds es).length = ds.length:=by simp [zipL,n]
  exact ⟨xs,ys,hq,hq2,by rw [rr.length,rr2.length];exact n,by rw [rr.length];lia⟩
theorem ItQ.go {K : PySem.W.Frag} {P : Addr->Prop} {J : It} {H : Hp} {items : List D} {i : Nat} {d : D} (h : ItQ K P J H items) (hi : items[i]? = some d) : J.go i H/\∀ x H',J.yld i H x H'->Same H H'/\Rep P H' x d:=by
 cases h with
 | lst a e r=>
  subst e
  obtain ⟨a',xs,e,hq,rr⟩:=r.lstAt (K:=K)
  cases e
  obtain ⟨v,h1,h2⟩:=rr.get hi
  refine ⟨⟨xs,v,hq,h1⟩,fun x H' ⟨e,hy⟩=>?_⟩
  subst e
  refine ⟨Same.refl _,?_⟩
  have:=hy xs hq
  rw [h1] at this
  cases this
  exact h2
 | tup a e r=>
  subst e
  obtain ⟨a',xs,e,hq,rr⟩:=r.tupAt
  cases e
  obtain ⟨v,h1,h2⟩:=rr.get hi
  refine ⟨⟨xs,v,.of hq,h1⟩,fun x H' ⟨e,hy⟩=>?_⟩
  subst e
  refine ⟨Same.refl _,?_⟩
  have:=hy xs (.of hq)
  rw [h1] at this
  cases this
  exact h2
 | rng lo n e r=>
  subst e r
  have hlt : i < n:=by
   have:=(List.getElem?_eq_some_iff.mp hi).1
   simpa using this
  refine ⟨hlt,fun x H' ⟨e,hy⟩=>?_⟩
  subst e
  have e2 : D.int (lo + (i : Int)) = d:=by simpa [hlt] using hi
  rw [hy,<- e2]
  exact ⟨Same.refl _,.int _⟩
 | chs z e r=>
  subst e r
  have hlt : i < z.cps.size:=by
   have:=(List.getElem?_eq_some_iff.mp hi).1
   simpa [charsD] using this
  refine ⟨hlt,fun x H' ⟨e,c,hc,hv⟩=>?_⟩
  subst e hv
  refine ⟨Same.refl _,?_⟩
  have e2 : D.str ⟨#[c]⟩ = d:=by
   unfold charsD at hi
   rw [List.getElem?_map,Array.getElem?_toList,hc] at hi
   simpa using hi
  rw [<- e2]
  exact .str _
 | enm a ds e r h=>
  subst e h
  obtain ⟨a',xs,e,hq,rr⟩:=r.lstAt (K:=K)
  cases e
  rw [enumL_at] at hi
  cases hd : ds[i]? with
  | none=>rw [hd] at hi;cases hi
  | some y=>
   rw [hd] at hi
   cases hi
   obtain ⟨v,h1,h2⟩:=rr.get hd
   refine ⟨⟨xs,v,hq,h1⟩,fun x H' ⟨t,u,hy,e1,e2,e3⟩=>?_⟩
   subst e1 e3
   have:=hy xs hq
   rw [h1] at this
   cases this
   have sp : Same H (upd H t (.tup [.int i,v])):=Same.upd e2
   exact ⟨sp,.tup upd_same (.cons (.int _) (.cons (h2.same sp) .nil))⟩
 | enf m a ds e r h=>
  subst e h
  obtain ⟨a',xs,e,hq,rr⟩:=r.lstAt (K:=K)
  cases e
  rw [enumF_at] at hi
  obtain ⟨y,hd,rfl⟩:=Option.map_eq_some_iff.mp hi
  obtain ⟨v,h1,h2⟩:=rr.get hd
  refine ⟨⟨xs,v,hq,h1⟩,fun x H' ⟨t,u,hy,e1,e2,e3⟩=>?_⟩
  subst e1 e3
  have:=hy xs hq
  rw [h1] at this
  cases this
  have sp : Same H (upd H t (.tup [.int ((m + i : Nat) : Int),v])):=Same.upd e2
  exact ⟨sp,.tup upd_same (.cons (.int _) (.cons (h2.same sp) .nil))⟩
 | zip a b ds es e r q n h=>
  subst e h
  obtain ⟨a',xs,e,hq,rr⟩:=r.tupAt
  cases e
  obtain ⟨b',ys,e,hq2,rr2⟩:=q.tupAt
  cases e
  unfold zipL at hi
  rw [List.getElem?_map] at hi
  obtain ⟨⟨x,y⟩,hd,rfl⟩:=Option.map_eq_some_iff.mp hi
  rw [List.getElem?_zip_eq_some] at hd
  obtain ⟨v,h1,h2⟩:=rr.get hd.1
  obtain ⟨v',h3,h4⟩:=rr2.get hd.2
  refine ⟨⟨xs,ys,v,v',hq,hq2,h1,h3⟩,fun x H' ⟨t,u,u',hy,hy',e1,e2,e3⟩=>?_⟩
  subst e1 e3
  have z:=hy xs hq
  rw [h1] at z
  cases z
  have z:=hy' ys hq2
  rw [h3] at z
  cases z
  have sp : Same H (upd H t (.tup [v,v'])):=Same.upd e2
  exact ⟨sp,.tup upd_same (.cons (h2.same sp) (.cons (h4.same sp) .nil))⟩
noncomputable def gI (K : PySem.W.Frag) (f : FI) : TI:=fun σ H R=>∃ ρ items k,ER H σ ρ/\f ρ = .ok (items,k)/\∀ J H1,Same H H1->ItQ K All J H1 items->(k = true->ItQ K (New H) J H1 items)->R J H1
noncomputable def gIV (K : PySem.W.Frag) (i : Nat) : TI:=fun σ H R=>∃ v d items,σ[i]? = some (some v)/\Rep All H v d/\itemsD d = .ok items/\∀ J,(∀ P : Addr->Prop,Rep P H v d->ItQ K P J H items)->R J H
section
variable {X : Cx} {tg l a b : Expr} {fl fa : FE} {rl ra rr : Bool} {fs : FA} {p pos : Pos}
theorem iter_rep {pins : List (Addr × Obj)} {s1 : Shared} {σ : L2.St} {H1 : Hp} {R : It->Hp->Prop} {v : V} {u : Value} {d : D} {items : List D} (I1 : Inv X pins σ H1 s1) (r : Rep All H1 v d) (ru : RelV v u) (hi : itemsD d = .ok items)
  (q : ∀ J,(∀ P : Addr->Prop,Rep P H1 v d->ItQ X.K P J H1 items)->R J H1) : wpAny (model X.prog X.w) X.A (pyIter u) (PIE X pins σ tg R) X.xe s1:=by
 cases d <;> simp only [itemsD] at hi <;> cases hi
 ·obtain ⟨a,xs,rfl,e,rr⟩:=r.tupAt
  cases ru
  obtain ⟨its,rv,p,hz⟩:=I1.tuple (.of e)
  refine wpAny_pyIter_tuple (show s1.heap.IsTuple a its.toArray from p) ?_
  refine ⟨s1.heap.objs.size,[s1.heap.objs.size],_,_,H1,rfl,I1.kept (t':=s1.toks) fun b o e=>Heap.get?_push_of_some _ e,turn_tuple a _,⟨_,Heap.get?_push_size _ rfl,rfl,rfl⟩,fun b hb=>?_,q _ fun P r=>.tup a rfl r⟩
  have e : b = s1.heap.objs.size:=by simpa using hb
  subst e
  exact I1.fpOk (Nat.le_refl _) (I1.hok.fresh (Nat.le_refl _))
 ·obtain ⟨a,xs,rfl,e,rr⟩:=r.lstAt (K:=X.K)
  cases ru
  obtain ⟨its,rv,p,hz⟩:=I1.list e
  refine wpAny_pyIter_list p.isList ?_
  refine ⟨s1.heap.objs.size,[s1.heap.objs.size],_,_,H1,rfl,I1.kept (t':=s1.toks) fun b o e=>Heap.get?_push_of_some _ e,turn_list a _,⟨_,Heap.get?_push_size _ rfl,rfl,rfl⟩,fun b hb=>?_,q _ fun P r=>.lst a rfl r⟩
  have e : b = s1.heap.objs.size:=by simpa using hb
  subst e
  exact I1.fpOk (Nat.le_refl _) (I1.hok.fresh (Nat.le_refl _))
theorem mi_val (hl : PE X l (gE fl rl)) : PI X tg l (gI X.K (bItems fl rl)):=by
 intro pins s σ H R I ⟨ρ,items,k,E,h,q⟩
 obtain ⟨d,h1,h⟩:=bindE h
 obtain ⟨its,h2,h⟩:=bindE h
 cases h
 refine thn (hl pins s σ H _ I ⟨ρ,d,E,h1,fun v H1 s1 r1 n1=>(show (∃ d',Rep All H1 v d/\d' = d/\∀ J,(∀ P : Addr->Prop,Rep P H1 v d->ItQ X.K P J H1 items)->R J H1) from ⟨d,r1,rfl,fun J hJ=>q J H1 s1 (hJ _ r1) fun hk=>hJ _ ?_⟩)⟩) fun u s1 ⟨v,H1,I1,ru,d',r1,e,q1⟩=>iter_rep I1 r1 ru h2 q1
 rw [Bool.or_eq_true] at hk
 rcases hk with hk | hk
 ·exact n1 hk
 ·exact r1.ofPure hk
theorem mi_var {i : Nat} {x : Str} (hN : X.N[i]? = some x) (hv : Vis X.env.scope x) (hd : (x == ("__debug__" : Str)) = false:=by decide) (hcd : (x == ("__classdict__" : Str)) = false:=by decide) : PI X tg (.Name x pos) (gIV X.K i):=by
 intro pins s σ H R I ⟨v,d,items,hσ,r,hi,q⟩
 exact thn (pe_var hN hv hd hcd pins s σ H (fun w H1=>w = v/\H1 = H) I ⟨v,hσ,rfl,rfl⟩) fun u s1 ⟨w,H1,I1,ru,e1,e2⟩=>by
  subst e1 e2
  exact iter_rep I1 r ru hi q
theorem bound62_ok {i : Int} (h : bound62 i = true) : -(2 ^ 62)<=i/\i < 2 ^ 62:=by
 simp only [bound62,Bool.and_eq_true,decide_eq_true_eq] at h
 exact h
theorem PI.imp {w w' : TI} (h : PI X tg l w) (i : ∀ σ H R,w' σ H R->w σ H R) : PI X tg l w':=fun pins s σ H R I q=>h pins s σ H R I (i σ H R q)
theorem mi_rng1 (hg : Gl X "range") (hm : X.mg "range" = none) (ha : PA X [a] (gA fs rr)) (hs : starEach [a] X.env = [(false,eval a X.env)]:=by rfl) : PI X tg (.Call (.Name "range" p) [a] [] pos) (gI X.K (bThen fs rng1D)):=
 PI.imp (pi_range1 hg hm ha hs) fun σ H R ⟨ρ,items,k,E,h,q⟩=>by
  obtain ⟨xs,h1,h⟩:=bindE h
  unfold rng1D at h
  split at h
  ·split at h
   ·rename_i hb
    cases h
    obtain ⟨b1,b2⟩:=bound62_ok hb
    refine ⟨ρ,_,E,h1,fun vs H1 s1 r1 _=>?_⟩
    cases r1 with
    | cons r t=>
     cases t
     cases r
     exact ⟨_,rfl,b1,b2,q _ H1 s1 (.rng 0 _ rfl rfl) fun _=>.rng 0 _ rfl rfl⟩
   ·cases h
  ·cases h
end
theorem padD_get (n : Nat) (ρ bs : List D) (i : Nat) (h : i < n) : (padD n ρ ++ bs).getD i .undef = ρ.getD i .undef:=by
 rw [List.getD_eq_getElem?_getD,List.getElem?_append_left (by simp [padD];exact h)]
 simp [padD,h]
theorem padD_len (n : Nat) (ρ : List D) : (padD n ρ).length = n:=by simp [padD]
noncomputable def TgC (g : TG) (t : D->Res (List D)) (n m : Nat) : Prop:=∀ (v : V) (d : D) (bs : List D) (σ : L2.St) (H : Hp) (Q : L2.St->Hp->Prop),σ.length = n->Rep All H v d->t d = .ok bs->
 (∀ σ2,Ext (σ ++ List.replicate m none) σ2->(∀ j b,bs[j]? = some b->∃ w,σ2[n + j]? = some (some w)/\Rep All H w b)->Q σ2 H)->g v (σ ++ List.replicate m none) H Q
theorem ER.ext {H : Hp} {σ σ2 : L2.St} {ρ bs : List D} {n m : Nat} (E : ER H σ ρ) (hn : σ.length = n) (x : Ext (σ ++ List.replicate m none) σ2) (hb : ∀ j b,bs[j]? = some b->∃ w,σ2[n + j]? = some (some w)/\Rep All H w b) : ER H σ2 (padD n ρ ++ bs):=by
 intro i hi
 by_cases h : i < n
 ·rw [padD_get n ρ bs i h] at hi ⊢
  obtain ⟨v,h1,h2⟩:=E i hi
  exact ⟨v,x.2 i v (by rw [List.getElem?_append_left (by rw [hn];exact h)];exact h1),h2⟩
 ·have e : (padD n ρ ++ bs).getD i .undef = bs.getD (i - n) .undef:=by
   rw [List.getD_eq_getElem?_getD,List.getElem?_append_right (by rw [padD_len];lia),padD_len,<- List.getD_eq_getElem?_getD]
  rw [e] at hi ⊢
  cases hq : bs[i - n]? with
  | none=>rw [List.getD_eq_getElem?_getD,hq] at hi;exact absurd rfl hi
  | some b=>
   obtain ⟨w,h1,h2⟩:=hb (i - n) b hq
   rw [List.getD_eq_getElem?_getD,hq]
   exact ⟨w,by rw [<- h1];congr 1;lia,h2⟩
theorem comp_core {K : PySem.W.Frag} {it : FI} {t : D->Res (List D)} {c : FT} {f : FE} {k : Bool} {n m : Nat} {g : TG} {tc : TT} (tg : TgC g t n m) (hc : ∀ σ H Q,gT c σ H Q->tc σ H Q) {σ : L2.St} {H : Hp} {Q : VK} (hn : σ.length = n) (h : gE (bComp n it t c f k) true σ H Q) :
  tComp (gI K it) g tc (gE f k) m σ H Q:=by
 obtain ⟨ρ,d,E,h,q⟩:=h
 obtain ⟨⟨items,kk⟩,h1,h⟩:=bindE h
 split at h
 ·rename_i hlim
  obtain ⟨ys,h2,h⟩:=bindE h
  cases h
  refine ⟨ρ,items,kk,E,h1,fun J H1 s1 hJ _ p hp=>?_⟩
  have hp0 : H p = none:=s1.free hp
  refine ⟨fun i n' vs H'=>n' = items.length - i/\i<=items.length/\H' p = some (.lst vs)/\Same H1 H'/\∃ acc,acc.length<=i/\Reps (fun a=>H a = none/\a ≠ p) H' vs acc/\cfold (cstep n t c f k ρ) acc (items.drop i) = .ok ys,⟨items.length,?_⟩,?_⟩
  ·exact ⟨rfl,Nat.zero_le _,upd_same,Same.upd hp,[],Nat.zero_le _,.nil,h2⟩
  ·rintro i n' vs H' ⟨rfl,hi,hH,sm,acc,hal,racc,hf⟩
   refine ⟨hH,?_⟩
   have hJ' : ItQ K All J H' items:=hJ.keep (.same sm) fun _ z=>z
   rcases Nat.lt_or_ge i items.length with hlt | hge
   ·refine .inr ?_
    have e : items[i]? = some items[i]:=List.getElem?_eq_getElem hlt
    obtain ⟨g1,g2⟩:=hJ'.go e
    have hl1 : items.length<=lim:=of_decide_eq_true hlim
    refine ⟨g1,?_,fun x H2 hy=>?_⟩
    ·rw [racc.length]
     exact Nat.lt_of_le_of_lt hal (Nat.lt_of_lt_of_le hlt (Nat.le_trans hl1 (by rw [sizeLine_eq];decide)))
    ·obtain ⟨sH,rx⟩:=g2 x H2 hy
     have hH:=sH p _ hH
     have sm:=sm.trans sH
     have racc:=racc.same sH
     rw [List.drop_eq_getElem_cons hlt] at hf
     obtain ⟨acc2,hs,hf⟩:=bindE hf
     obtain ⟨bs,hb,hs⟩:=bindE hs
     obtain ⟨ok,hok,hs⟩:=bindE hs
     refine tg x items[i] bs σ H2 _ hn rx hb fun σ2 hx hbs=>⟨hx,hc _ _ _ ?_⟩
     have E2 : ER H2 σ2 (padD n ρ ++ bs):=(E.same (s1.trans sm)).ext hn hx hbs
     refine ⟨_,ok,E2,hok,fun H4 s4=>?_⟩
     cases ok with
     | true=>
      rw [if_pos rfl]
      rw [if_pos rfl] at hs
      obtain ⟨y,hy2,hs⟩:=bindE hs
      split at hs
      ·rename_i hk
       cases hs
       refine ⟨_,y,E2.same s4,hy2,fun w H5 s5 r5 n5=>⟨s5 p _ (s4 p _ hH),items.length - (i + 1),by lia,rfl,hlt,upd_same,?_,acc ++ [y],?_,?_,hf⟩⟩
       ·exact fun b o e=>by
         rw [upd_ne (ne_of_none e hp)]
         exact s5 b o (s4 b o (sm b o e))
       ·rw [List.length_append,List.length_singleton];lia
       ·have hp5 : H5 p = some (.lst vs):=s5 p _ (s4 p _ hH)
        have ry : Rep (fun a=>H a = none/\a ≠ p) H5 w y:=by
         rw [Bool.or_eq_true] at hk
         rcases hk with hk | hk
         ·exact (n5 hk).mono fun a ha=>⟨((s1.trans sm).trans s4).free ha,fun z=>by subst z;have h0:=s4 _ _ hH;rw [show H4 _ = none from ha] at h0;cases h0⟩
         ·exact r5.ofPure hk
        have all : Reps (fun a=>H a = none/\a ≠ p) H5 (vs ++ [w]) (acc ++ [y]):=(racc.same (s4.trans s5)).snoc ry
        refine all.keep (fun b o e hb=>?_) fun _ z=>z
        rw [upd_ne]
        ·exact e
        ·rcases hb with hb | hb
         ·exact hb.2
         ·intro z;subst z;rw [hp5] at e;cases e;cases hb
      ·cases hs
     | false=>
      rw [if_neg (by simp)]
      rw [if_neg (by simp)] at hs
      cases hs
      exact ⟨items.length - (i + 1),by lia,rfl,hlt,s4 p _ hH,sm.trans s4,acc,by lia,racc.same s4,hf⟩
   ·refine .inl ⟨hJ'.stop hge,?_⟩
    rw [List.drop_eq_nil_of_le hge] at hf
    cases hf
    exact q _ _ (s1.trans sm) (.lst hH trivial racc.all) fun _=>.lst hH hp0 (racc.mono fun a z=>z.1)
 ·cases h
noncomputable def gIx : List Nat->TGs
 | []=>gNil
 | i :: is=>gCons (gName i) (gIx is)
noncomputable def setsV : List Nat->List V->L2.St->L2.St
 | i :: is,v :: vs,σ=>setsV is vs (σ.set i (some v))
 | _,_,σ=>σ
theorem gIx_run {H : Hp} {Q : L2.St->Hp->Prop} : ∀ (is : List Nat) (vs : List V) (σ : L2.St),vs.length = is.length->Q (setsV is vs σ) H->gIx is vs σ H Q
 | [],[],σ,_,q=>⟨rfl,q⟩
 | i :: is,v :: vs,σ,h,q=>⟨v,vs,rfl,gIx_run is vs (σ.set i (some v)) (by simpa using h) q⟩
 | [],_ :: _,_,h,_=>by simp at h
 | _ :: _,[],_,h,_=>by simp at h
theorem tgc_one (n : Nat) : TgC (gName n) oneT n 1:=by
 intro v d bs σ H Q hn r h q
 cases h
 have hl : (σ ++ List.replicate 1 (none : Option V)).length = n + 1:=by simp [hn]
 refine q _ ⟨by simp,fun i w hi=>?_⟩ fun j b hj=>?_
 ·have : i ≠ n:=fun z=>by
   subst z
   rw [List.getElem?_append_right (by lia)] at hi
   simp [hn] at hi
  rw [List.getElem?_set_ne (Ne.symm this)]
  exact hi
 ·have e : j = 0:=by
   have:=(List.getElem?_eq_some_iff.mp hj).1
   simp at this
   exact this
  subst e
  have e : d = b:=by simpa using hj
  subst e
  exact ⟨v,by rw [Nat.add_zero,List.getElem?_set_self (by lia)],r⟩
section
variable {X : Cx} {scope : Scope} {ownN : List Str} {elt iter tg c : Expr} {it : FI} {t : D->Res (List D)} {g : TG} {gc : FT} {fe : FE} {re : Bool} {pos : Pos}
theorem me_comp {n m : Nat} (S : CompSc X.N X.env.scope scope ownN) (hn : X.N.length = n) (hm : ownN.length = m) (hcalm : X.calm = true) (hi : PI X tg iter (gI X.K it)) (ht : TgC g t n m) (hg : ∀ X',CompCx X X' scope ownN->PG X' tg g) (he : ∀ X',CompCx X X' scope ownN->PE X' elt (gE fe re))
  (hs : ∀ x,foldedSetIterable iter X.env x = pure x) : PE X (.ListComp elt [⟨tg,iter,[],0⟩] scope pos) (gE (bComp n it t bTrue fe re) true):=by
 intro pins s σ H Q I h
 subst hm
 exact pe_comp0 S hcalm hi hg he hs pins s σ H Q I (comp_core ht (fun σ H Q h=>by obtain ⟨ρ,b,E,h,q⟩:=h;cases h;exact q H (Same.refl H)) (I.len.trans hn) h)
theorem me_compif {n m : Nat} (S : CompSc X.N X.env.scope scope ownN) (hn : X.N.length = n) (hm : ownN.length = m) (hcalm : X.calm = true) (hi : PI X tg iter (gI X.K it)) (ht : TgC g t n m) (hg : ∀ X',CompCx X X' scope ownN->PG X' tg g) (hc : ∀ X',CompCx X X' scope ownN->PT X' c (gT gc)) (he : ∀ X',CompCx X X' scope ownN->PE X' elt (gE fe re))
  (hs : ∀ x,foldedSetIterable iter X.env x = pure x) : PE X (.ListComp elt [⟨tg,iter,[c],0⟩] scope pos) (gE (bComp n it t gc fe re) true):=by
 intro pins s σ H Q I h
 subst hm
 exact pe_compif S hcalm hi hg hc he hs pins s σ H Q I (comp_core ht (fun σ H Q h=>h) (I.len.trans hn) h)
end
end Mi
end
section
set_option maxRecDepth 100000
namespace Mi
open PySem L2 PySem.SeqAt PySem.Spec PyProof.Rows
variable [KFrag]
mutual
theorem Rep.dom {P : Addr->Prop} {H : Hp} : ∀ {v : V} {d : D},Rep P H v d->Rep (fun a=>P a/\H a ≠ none) H v d
 | _,_,.non=>.non
 | _,_,.bl b=>.bl b
 | _,_,.int i=>.int i
 | _,_,.str x=>.str x
 | _,_,.tup e r=>.tup e (Reps.dom r)
 | _,_,.lst e p r=>.lst e ⟨p,by rw [e];simp⟩ (Reps.dom r)
 | _,_,.frz e r=>.frz e (Reps.dom r)
 | _,_,.dK e p r n=>.dK e ⟨p,by rw [e];simp⟩ (RepK.dom r) n
 | _,_,.dT e p r n=>.dT e ⟨p,by rw [e];simp⟩ (RepT.dom r) n
 | _,_,.fdK e r n=>.fdK e (RepK.dom r) n
 | _,_,.fdT e r n=>.fdT e (RepT.dom r) n
theorem Reps.dom {P : Addr->Prop} {H : Hp} : ∀ {v : List V} {d : List D},Reps P H v d->Reps (fun a=>P a/\H a ≠ none) H v d
 | _,_,.nil=>.nil
 | _,_,.cons r t=>.cons (Rep.dom r) (Reps.dom t)
theorem RepK.dom {P : Addr->Prop} {H : Hp} : ∀ {v : List (Key × V)} {d : List (D × D)},RepK P H v d->RepK (fun a=>P a/\H a ≠ none) H v d
 | _,_,.nil=>.nil
 | _,_,.cons r t=>.cons (Rep.dom r) (RepK.dom t)
theorem RepT.dom {P : Addr->Prop} {H : Hp} : ∀ {v : List (List Key × V)} {d : List (D × D)},RepT P H v d->RepT (fun a=>P a/\H a ≠ none) H v d
 | _,_,.nil=>.nil
 | _,_,.cons r t=>.cons (Rep.dom r) (RepT.dom t)
end
theorem RepK.ofPure {P P' : Addr->Prop} {H : Hp} : ∀ {v : List (Key × V)} {d : List (D × D)},RepK P H v d->D.pures (d.map (·.2)) = true->RepK P' H v d
 | _,_,.nil,_=>.nil
 | _,_,.cons r t,h=>by
  rw [List.map_cons,D.pures,Bool.and_eq_true] at h
  exact .cons (r.ofPure h.1) (t.ofPure h.2)
theorem RepT.ofPure {P P' : Addr->Prop} {H : Hp} : ∀ {v : List (List Key × V)} {d : List (D × D)},RepT P H v d->D.pures (d.map (·.2)) = true->RepT P' H v d
 | _,_,.nil,_=>.nil
 | _,_,.cons r t,h=>by
  rw [List.map_cons,D.pures,Bool.and_eq_true] at h
  exact .cons (r.ofPure h.1) (t.ofPure h.2)
theorem Rep.ownP {P P' : Addr->Prop} {H : Hp} {a : Addr} {d : D} (r : Rep P H (.ref a) d) (h : inner d = true) (hp : P' a) : Rep P' H (.ref a) d:=by
 cases r with
 | tup e r=>cases h
 | lst e p r=>exact .lst e hp (r.ofPure h)
 | frz e r=>cases h
 | dK e p r n=>exact .dK e hp (r.ofPure h) n
 | dT e p r n=>exact .dT e hp (r.ofPure h) n
 | fdK e r n=>cases h
 | fdT e r n=>cases h
noncomputable def Own (own : Nat->Bool) (σ : L2.St) (a : Addr) : Prop:=∃ i,own i = true/\σ[i]? = some (some (.ref a))
structure ES (own : Nat->Bool) (H : Hp) (σ : L2.St) (ρ : List D) : Prop where
 len : σ.length = ρ.length
 at_ : ∀ i,ρ.getD i .undef ≠ .undef->∃ v,σ[i]? = some (some v)/\(own i = false->Rep (fun a=>¬ Own own σ a) H v (ρ.getD i .undef))
 own : ∀ i v,own i = true->σ[i]? = some (some v)->∃ a o,v = .ref a/\Rep All H v (ρ.getD i .undef)/\inner (ρ.getD i .undef) = true/\H a = some o/\mutO o = true/\∀ j,own j = true->σ[j]? = some (some (.ref a))->j = i
variable {own : Nat->Bool}
theorem ES.er {H : Hp} {σ : L2.St} {ρ : List D} (e : ES own H σ ρ) : ER H σ ρ:=fun i hi=>by
 obtain ⟨v,h1,h2⟩:=e.at_ i hi
 cases ho : own i with
 | false=>exact ⟨v,h1,(h2 ho).all⟩
 | true=>
  obtain ⟨a,o,_,h3,_⟩:=e.own i v ho h1
  exact ⟨v,h1,h3⟩
theorem ES.live {H : Hp} {σ : L2.St} {ρ : List D} (e : ES own H σ ρ) {a : Addr} (h : Own own σ a) : ∃ o,H a = some o/\mutO o = true:=by
 obtain ⟨i,hi,hs⟩:=h
 obtain ⟨b,o,eb,_,_,h3,h4,_⟩:=e.own i _ hi hs
 cases eb
 exact ⟨o,h3,h4⟩
theorem ES.same {H H' : Hp} {σ : L2.St} {ρ : List D} (e : ES own H σ ρ) (s : Same H H') : ES own H' σ ρ:=by
 refine ⟨e.len,fun i hi=>?_,fun i v hi hv=>?_⟩
 ·obtain ⟨v,h1,h2⟩:=e.at_ i hi
  exact ⟨v,h1,fun ho=>(h2 ho).same s⟩
 ·obtain ⟨a,o,h1,h2,h3,h4,h5,h6⟩:=e.own i v hi hv
  exact ⟨a,o,h1,h2.same s,h3,s _ _ h4,h5,h6⟩
noncomputable def KU (own : Nat->Bool) (σ : L2.St) (H : Hp) (σ' : L2.St) (H' : Hp) : Prop:=∀ a o,H a = some o->¬ Own own σ a->H' a = some o/\¬ Own own σ' a
theorem KU.trans {σ σ1 σ2 : L2.St} {H H1 H2 : Hp} (a : KU own σ H σ1 H1) (b : KU own σ1 H1 σ2 H2) : KU own σ H σ2 H2:=fun c o e n=>let ⟨e1,n1⟩:=a c o e n;b c o e1 n1
theorem KU.same {σ : L2.St} {H H' : Hp} (s : Same H H') : KU own σ H σ H':=fun a o e n=>⟨s a o e,n⟩
theorem KU.keep {σ σ' : L2.St} {H H' : Hp} {ρ : List D} (k : KU own σ H σ' H') (e : ES own H σ ρ) : Keep (fun a=>¬ Own own σ a) H H':=fun a o h hp=>by
 by_cases ho : Own own σ a
 ·obtain ⟨o',h1,h2⟩:=e.live ho
  rw [h] at h1
  cases h1
  rcases hp with hp | hp
  ·exact absurd ho hp
  ·rw [h2] at hp;cases hp
 ·exact (k a o h ho).1
theorem KU.rep {σ σ' : L2.St} {H H' : Hp} {ρ : List D} (k : KU own σ H σ' H') (e : ES own H σ ρ) {v : V} {d : D} (r : Rep (fun a=>¬ Own own σ a) H v d) : Rep (fun a=>¬ Own own σ' a) H' v d:=by
 refine r.dom.keep (P':=fun a=>¬ Own own σ' a) (fun a o h hp=>?_) fun a ⟨h1,h2⟩=>?_
 ·refine k.keep e a o h (hp.imp (fun z=>z.1) id)
 ·cases q : H a with
  | none=>exact absurd q h2
  | some o=>exact (k a o q h1).2
noncomputable def kS (own : Nat->Bool) (D : Ends) (σ : L2.St) (H : Hp) : Fl->Prop
 | .nx ρ=>∀ σ' H',KU own σ H σ' H'->ES own H' σ' ρ->D.nx σ' H'
 | .bk ρ=>∀ σ' H',KU own σ H σ' H'->ES own H' σ' ρ->D.bk σ' H'
 | .ct ρ=>∀ σ' H',KU own σ H σ' H'->ES own H' σ' ρ->D.ct σ' H'
 | .rt d=>∀ v H',(∀ a o,H a = some o->¬ Own own σ a->H' a = some o)->Rep (fun a=>Own own σ a\/H a = none) H' v d->D.rt v H'
theorem kS.step {D : Ends} {σ σ' : L2.St} {H H' : Hp} {fl : Fl} (k : KU own σ H σ' H') (h : kS own D σ H fl) : kS own D σ' H' fl:=by
 cases fl with
 | nx ρ=>exact fun σ2 H2 k2 e=>h σ2 H2 (k.trans k2) e
 | bk ρ=>exact fun σ2 H2 k2 e=>h σ2 H2 (k.trans k2) e
 | ct ρ=>exact fun σ2 H2 k2 e=>h σ2 H2 (k.trans k2) e
 | rt d=>
  refine fun v H2 hk r=>h v H2 (fun a o e n=>let ⟨e1,n1⟩:=k a o e n;hk a o e1 n1) (r.mono fun a ha=>?_)
  cases q : H a with
  | none=>exact .inr rfl
  | some o=>
   refine .inl (Classical.byContradiction fun n=>?_)
   obtain ⟨e1,n1⟩:=k a o q n
   rcases ha with ha | ha
   ·exact n1 ha
   ·rw [e1] at ha;cases ha
noncomputable def tS (own : Nat->Bool) (f : FS) : TS:=fun D σ H=>∃ ρ fl,ES own H σ ρ/\f ρ = .ok fl/\kS own D σ H fl
theorem PS.imp {X : Cx} {st : Stmt} {t t' : TS} (h : PS X st t) (i : ∀ D σ H,t' D σ H->t D σ H) : PS X st t':=fun pins s σ H D I q=>h pins s σ H D I (i D σ H q)
theorem PSs.imp {X : Cx} {st : List Stmt} {t t' : TS} (h : PSs X st t) (i : ∀ D σ H,t' D σ H->t D σ H) : PSs X st t':=fun pins s σ H D I q=>h pins s σ H D I (i D σ H q)
section
variable {X : Cx} {a b c e : Expr} {pos pos' : Pos} {fa fb fc fe : FE} {ra rb rc re : Bool} {ga gb gc : FT} {f g : FS} {st : Stmt} {rest s1 s2 : List Stmt}
theorem mss_nil : PSs X [] (tS own sNil):=PSs.imp pss_nil fun D σ H ⟨ρ,fl,E,h,q⟩=>by
 cases h
 exact q σ H (fun a o e n=>⟨e,n⟩) E
theorem seq_imp {D : Ends} {σ : L2.St} {H : Hp} (h : tS own (sSeq f g) D σ H) : tSeq (tS own f) (tS own g) D σ H:=by
 obtain ⟨ρ,fl,E,h,q⟩:=h
 obtain ⟨r,h1,h2⟩:=bindE h
 refine ⟨ρ,r,E,h1,?_⟩
 cases r with
 | nx ρ'=>exact fun σ' H' k E'=>⟨ρ',fl,E',h2,q.step k⟩
 | bk ρ'=>cases h2;exact q
 | ct ρ'=>cases h2;exact q
 | rt d=>cases h2;exact q
theorem mss_cons (h1 : PS X st (tS own f)) (h2 : PSs X rest (tS own g)) : PSs X (st :: rest) (tS own (sSeq f g)):=PSs.imp (pss_cons h1 h2) fun _ _ _=>seq_imp
theorem mss_one (h1 : PS X st (tS own f)) : PSs X [st] (tS own f):=pss_one h1
theorem ms_if (hc : PT X c (gT gc)) (ha : PSs X s1 (tS own f)) (hb : PSs X s2 (tS own g)) : PS X (.If c s1 s2 pos) (tS own (sIf gc f g)):=PS.imp (ps_if hc ha hb) fun D σ H ⟨ρ,fl,E,h,q⟩=>by
 obtain ⟨k,h1,h2⟩:=bindE h
 refine ⟨ρ,k,E.er,h1,fun H' s=>?_⟩
 cases k with
 | true=>rw [if_pos rfl];rw [if_pos rfl] at h2;exact ⟨ρ,fl,E.same s,h2,q.step (.same s)⟩
 | false=>rw [if_neg (by simp)];rw [if_neg (by simp)] at h2;exact ⟨ρ,fl,E.same s,h2,q.step (.same s)⟩
theorem ms_ret (he : PE X e (gE fe re)) : PS X (.Return (some e) pos) (tS own (sRet fe re)):=PS.imp (ps_ret he) fun D σ H ⟨ρ,fl,E,h,q⟩=>by
 obtain ⟨d,h1,h2⟩:=bindE h
 split at h2
 ·rename_i hk
  cases h2
  refine ⟨ρ,d,E.er,h1,fun v H' s r n=>q v H' (fun a o e _=>s a o e) ?_⟩
  rw [Bool.or_eq_true] at hk
  rcases hk with hk | hk
  ·exact (n hk).mono fun a ha=>.inr ha
  ·exact r.ofPure hk
 ·cases h2
theorem ms_retV {i : Nat} {x : Str} (ho : own i = true) (hN : X.N[i]? = some x) (hv : Vis X.env.scope x) (hd : (x == ("__debug__" : Str)) = false:=by decide) (hcd : (x == ("__classdict__" : Str)) = false:=by decide) : PS X (.Return (some (.Name x pos')) pos) (tS own (sRetV i)):=
 PS.imp (ps_ret (pe_var hN hv hd hcd)) fun D σ H ⟨ρ,fl,E,h,q⟩=>by
 obtain ⟨d,h1,h2⟩:=bindE h
 cases h2
 obtain ⟨v,hv,r,e⟩:=E.er.var h1
 obtain ⟨a,o,rfl,r2,hin,_⟩:=E.own i v ho hv
 rw [e] at hin
 exact ⟨_,hv,q _ H (fun a o e _=>e) (r.ownP hin (.inl ⟨i,ho,hv⟩))⟩
theorem own_set {σ : L2.St} {i : Nat} {v : V} (ho : own i = false) (a : Addr) : Own own (σ.set i (some v)) a ↔ Own own σ a:=by
 constructor
 ·rintro ⟨j,hj,e⟩
  have : i ≠ j:=fun z=>by subst z;rw [ho] at hj;cases hj
  rw [List.getElem?_set_ne this] at e
  exact ⟨j,hj,e⟩
 ·rintro ⟨j,hj,e⟩
  have : i ≠ j:=fun z=>by subst z;rw [ho] at hj;cases hj
  exact ⟨j,hj,by rw [List.getElem?_set_ne this];exact e⟩
theorem getD_set {ρ : List D} {i j : Nat} {d : D} : (ρ.set i d).getD j .undef = if i = j/\i < ρ.length then d else ρ.getD j .undef:=by
 rw [List.getD_eq_getElem?_getD,List.getD_eq_getElem?_getD,List.getElem?_set]
 by_cases h : i = j
 ·subst h
  by_cases h2 : i < ρ.length
  ·simp [h2]
  ·simp [h2]
 ·simp [h]
theorem ES.set {H : Hp} {σ : L2.St} {ρ : List D} {i : Nat} {v : V} {d : D} (E : ES own H σ ρ) (ho : own i = false) (r : Rep (fun a=>¬ Own own σ a) H v d) : ES own H (σ.set i (some v)) (ρ.set i d):=by
 have hO : (fun a=>¬ Own own (σ.set i (some v)) a) = fun a=>¬ Own own σ a:=funext fun a=>by rw [own_set ho]
 refine ⟨by simp [E.len],fun j hj=>?_,fun j w hj hw=>?_⟩
 ·rw [getD_set] at hj ⊢
  rw [hO]
  by_cases h : i = j/\i < ρ.length
  ·rw [if_pos h]
   obtain ⟨rfl,hl⟩:=h
   exact ⟨v,by rw [List.getElem?_set_self (by rw [E.len];exact hl)],fun _=>r⟩
  ·rw [if_neg h] at hj ⊢
   obtain ⟨w,h1,h2⟩:=E.at_ j hj
   by_cases hij : i = j
   ·subst hij
    have : i < σ.length:=(List.getElem?_eq_some_iff.mp h1).1
    rw [E.len] at this
    exact absurd ⟨rfl,this⟩ h
   ·exact ⟨w,by rw [List.getElem?_set_ne hij];exact h1,h2⟩
 ·have hij : i ≠ j:=fun z=>by subst z;rw [ho] at hj;cases hj
  rw [List.getElem?_set_ne hij] at hw
  rw [getD_set,if_neg fun z=>hij z.1]
  obtain ⟨a,o,h1,h2,h3,h4,h5,h6⟩:=E.own j w hj hw
  refine ⟨a,o,h1,h2,h3,h4,h5,fun k hk hs=>h6 k hk ?_⟩
  have hik : i ≠ k:=fun z=>by subst z;rw [ho] at hk;cases hk
  rwa [List.getElem?_set_ne hik] at hs
theorem ES.setO {H H' : Hp} {σ : L2.St} {ρ : List D} {i : Nat} {a : Addr} {o : HO} {d : D} (E : ES own H σ ρ) (s : Same H H') (ho : own i = true) (hn : H a = none) (r : Rep All H' (.ref a) d) (hin : inner d = true) (ha : H' a = some o) (hm : mutO o = true) :
  ES own H' (σ.set i (some (.ref a))) (ρ.set i d)/\KU own σ H (σ.set i (some (.ref a))) H':=by
 have hO : ∀ b,H b ≠ none->¬ Own own σ b->¬ Own own (σ.set i (some (.ref a))) b:=fun b hb n ⟨j,hj,e⟩=>by
  by_cases hij : i = j
  ·subst hij
   by_cases hl : i < σ.length
   ·rw [List.getElem?_set_self hl] at e
    cases e
    exact hb hn
   ·rw [List.getElem?_set,if_pos rfl,if_neg hl] at e
    cases e
  ·rw [List.getElem?_set_ne hij] at e
   exact n ⟨j,hj,e⟩
 refine ⟨⟨by simp [E.len],fun j hj=>?_,fun j w hj hw=>?_⟩,fun b ob e n=>⟨s b ob e,hO b (by rw [e];simp) n⟩⟩
 ·rw [getD_set] at hj ⊢
  by_cases h : i = j/\i < ρ.length
  ·rw [if_pos h]
   obtain ⟨rfl,hl⟩:=h
   exact ⟨.ref a,by rw [List.getElem?_set_self (by rw [E.len];exact hl)],fun z=>by rw [ho] at z;cases z⟩
  ·rw [if_neg h] at hj ⊢
   obtain ⟨w,h1,h2⟩:=E.at_ j hj
   by_cases hij : i = j
   ·subst hij
    have : i < σ.length:=(List.getElem?_eq_some_iff.mp h1).1
    rw [E.len] at this
    exact absurd ⟨rfl,this⟩ h
   ·exact ⟨w,by rw [List.getElem?_set_ne hij];exact h1,fun hj=>((h2 hj).dom.same s).mono fun b ⟨n,hb⟩=>hO b hb n⟩
 ·by_cases hij : i = j
  ·subst hij
   have hl : i < σ.length:=by
    have:=(List.getElem?_eq_some_iff.mp hw).1
    simpa using this
   rw [List.getElem?_set_self hl] at hw
   cases hw
   rw [getD_set,if_pos ⟨rfl,by rw [<- E.len];exact hl⟩]
   refine ⟨a,o,rfl,r,hin,ha,hm,fun k hk hs=>?_⟩
   by_cases hik : i = k
   ·exact hik.symm
   ·rw [List.getElem?_set_ne hik] at hs
    obtain ⟨o',h1,_⟩:=E.live ⟨k,hk,hs⟩
    rw [hn] at h1;cases h1
  ·rw [List.getElem?_set_ne hij] at hw
   rw [getD_set,if_neg fun z=>hij z.1]
   obtain ⟨b,ob,h1,h2,h3,h4,h5,h6⟩:=E.own j w hj hw
   refine ⟨b,ob,h1,h2.same s,h3,s _ _ h4,h5,fun k hk hs=>?_⟩
   by_cases hik : i = k
   ·subst hik
    by_cases hl : i < σ.length
    ·rw [List.getElem?_set_self hl] at hs
     cases hs
     rw [hn] at h4;cases h4
    ·rw [List.getElem?_set,if_pos rfl,if_neg hl] at hs
     cases hs
   ·rw [List.getElem?_set_ne hik] at hs
    exact h6 k hk hs
theorem mut_of {P : Addr->Prop} {H : Hp} {v : V} {d : D} (r : Rep P H v d) (hin : inner d = true) : ∃ a o,v = .ref a/\P a/\H a = some o/\mutO o = true:=by
 cases r with
 | lst e p r=>exact ⟨_,_,rfl,p,e,rfl⟩
 | dK e p r n=>exact ⟨_,_,rfl,p,e,rfl⟩
 | dT e p r n=>exact ⟨_,_,rfl,p,e,rfl⟩
 | fdK e r n=>cases hin
 | fdT e r n=>cases hin
 | _=>cases hin
theorem new_own {H H' : Hp} {σ : L2.St} {ρ : List D} (E : ES own H σ ρ) {v : V} {d : D} (r : Rep (New H) H' v d) : Rep (fun a=>¬ Own own σ a) H' v d:=r.mono fun a ha ho=>by
 obtain ⟨o,h1,_⟩:=E.live ho
 rw [show H a = none from ha] at h1
 cases h1
theorem set_imp {o : Bool} {i : Nat} {D' : Ends} {σ : L2.St} {H : Hp} (ho : own i = o) (h : tS own (sSet o i fe re) D' σ H) : tAsg (gE fe re) (gName i) D' σ H:=by
 obtain ⟨ρ,fl,E,h,q⟩:=h
 obtain ⟨d,h1,h2⟩:=bindE h
 cases o with
 | true=>
  simp only [if_true] at h2
  split at h2
  ·rename_i hk
   cases h2
   refine ⟨ρ,d,E.er,h1,fun v H' s r n=>?_⟩
   rw [Bool.and_eq_true] at hk
   obtain ⟨a,ob,rfl,hn,ha,hm⟩:=mut_of (n hk.1) hk.2
   obtain ⟨E2,k⟩:=E.setO s ho hn r hk.2 ha hm
   exact q _ H' k E2
  ·cases h2
 | false=>
  simp only [Bool.false_eq_true,if_false] at h2
  split at h2
  ·rename_i hk
   cases h2
   refine ⟨ρ,d,E.er,h1,fun v H' s r n=>?_⟩
   rw [Bool.or_eq_true] at hk
   have r2 : Rep (fun a=>¬ Own own σ a) H' v d:=by
    rcases hk with hk | hk
    ·exact new_own E (n hk)
    ·exact r.ofPure hk
   exact q _ H' (fun a ob e hn=>⟨s a ob e,by rw [own_set ho];exact hn⟩) ((E.same s).set ho r2)
  ·cases h2
theorem ms_set {i : Nat} {x : Str} {o : Bool} (ho : own i = o) (hN : X.N.Nodup) (hi : X.N[i]? = some x) (hx : Loc X.env.scope x) (he : PE X e (gE fe re)) (hs : swapsWith e (some (.Name x pos')) pos.line X.env = pure false:=by rfl) (hf : X.fn x = true\/X.env.scope.names.lookup x = some .local:=by first | exact .inl rfl | exact .inr rfl | assumption) :
  PS X (.Assign [.Name x pos'] e pos) (tS own (sSet o i fe re)):=PS.imp (ps_set hN hi hx he hs hf) fun _ _ _=>set_imp ho
theorem ms_al {i j : Nat} {x y : Str} {py : Pos} (ho : own i = false) (hoj : own j = false) (hN : X.N.Nodup) (hi : X.N[i]? = some x) (hx : Loc X.env.scope x) (hj : X.N[j]? = some y) (hy : Vis X.env.scope y) (hs : swapsWith (.Name y py) (some (.Name x pos')) pos.line X.env = pure false:=by rfl) (hf : X.fn x = true\/X.env.scope.names.lookup x = some .local:=by first | exact .inl rfl | exact .inr rfl | assumption)
  (hd : (y == ("__debug__" : Str)) = false:=by decide) (hcd : (y == ("__classdict__" : Str)) = false:=by decide) : PS X (.Assign [.Name x pos'] (.Name y py) pos) (tS own (sAl i j)):=PS.imp (ps_set hN hi hx (pe_var hj hy hd hcd) hs hf) fun D' σ H ⟨ρ,fl,E,h,q⟩=>by
 obtain ⟨d,h1,h2⟩:=bindE h
 cases h2
 obtain ⟨v,hv,r,e⟩:=E.er.var h1
 have hne : ρ.getD j .undef ≠ .undef:=fun z=>by
  rw [z] at e
  subst e
  exact Rep.undef r
 obtain ⟨w,hw,hr⟩:=E.at_ j hne
 rw [hv] at hw
 cases hw
 have r2:=hr hoj
 rw [e] at r2
 exact ⟨v,hv,q _ H (fun a ob e hn=>⟨e,by rw [own_set ho];exact hn⟩) (E.set ho r2)⟩
theorem ES.mut {H : Hp} {σ : L2.St} {ρ : List D} {i : Nat} {a : Addr} {o : HO} {d : D} (E : ES own H σ ρ) (ho : own i = true) (hi : σ[i]? = some (some (.ref a))) (hm : mutO o = true) (r : Rep All (upd H a o) (.ref a) d) (hin : inner d = true) :
  ES own (upd H a o) σ (ρ.set i d)/\KU own σ H σ (upd H a o):=by
 have hOa : Own own σ a:=⟨i,ho,hi⟩
 obtain ⟨a',oa,ea,_,_,hHa,hma,huq⟩:=E.own i _ ho hi
 cases ea
 have k : KU own σ H σ (upd H a o):=fun b ob e n=>⟨by rw [upd_ne (fun z=>by subst z;exact n hOa)];exact e,n⟩
 have hl : i < ρ.length:=by rw [<- E.len];exact (List.getElem?_eq_some_iff.mp hi).1
 refine ⟨⟨by simp [E.len],fun j hj=>?_,fun j w hj hw=>?_⟩,k⟩
 ·rw [getD_set] at hj ⊢
  by_cases h : i = j/\i < ρ.length
  ·obtain ⟨rfl,_⟩:=h
   exact ⟨_,hi,fun z=>by rw [ho] at z;cases z⟩
  ·rw [if_neg h] at hj ⊢
   obtain ⟨w,h1,h2⟩:=E.at_ j hj
   exact ⟨w,h1,fun hj=>k.rep E (h2 hj)⟩
 ·by_cases hij : i = j
  ·subst hij
   rw [hi] at hw
   cases hw
   rw [getD_set,if_pos ⟨rfl,hl⟩]
   exact ⟨a,o,rfl,r,hin,upd_same,hm,huq⟩
  ·rw [getD_set,if_neg fun z=>hij z.1]
   obtain ⟨b,ob,h1,h2,h3,h4,h5,h6⟩:=E.own j w hj hw
   subst h1
   have hba : b ≠ a:=fun z=>by subst z;exact hij (h6 i ho hi)
   refine ⟨b,ob,rfl,?_,h3,by rw [upd_ne hba];exact h4,h5,h6⟩
   refine (h2.ownP (P':=fun c=>c = b) h3 rfl).keep (fun c oc hc hp=>?_) fun _ _=>trivial
   rw [upd_ne]
   ·exact hc
   ·intro z
    subst z
    rcases hp with hp | hp
    ·exact hba hp.symm
    ·rw [hHa] at hc;cases hc;rw [hma] at hp;cases hp
theorem ES.ownAt {H : Hp} {σ : L2.St} {ρ : List D} {i : Nat} (E : ES own H σ ρ) (ho : own i = true) (hd : ρ.getD i .undef ≠ .undef) : ∃ a o,σ[i]? = some (some (.ref a))/\Rep All H (.ref a) (ρ.getD i .undef)/\inner (ρ.getD i .undef) = true/\H a = some o/\mutO o = true:=by
 obtain ⟨v,h1,_⟩:=E.at_ i hd
 obtain ⟨a,o,rfl,h2,h3,h4,h5,_⟩:=E.own i v ho h1
 exact ⟨a,o,h1,h2,h3,h4,h5⟩
theorem lst_at {H : Hp} {a : Addr} {xs : List D} (r : Rep All H (.ref a) (.lst xs)) : ∃ vs,H a = some (.lst vs)/\Reps All H vs xs:=by
 cases r with
 | lst e _ r=>exact ⟨_,e,r⟩
theorem Reps.upd {H : Hp} {a : Addr} {vs : List V} {xs : List D} {o : HO} {ob : HO} (r : Reps All H vs xs) (hp : D.pures xs = true) (ha : H a = some ob) (hm : mutO ob = true) : Reps All (upd H a o) vs xs:=by
 refine (r.ofPure (P':=fun _=>False) hp).keep (fun c oc hc h=>?_) fun _ h=>h.elim
 rw [upd_ne]
 ·exact hc
 ·intro z
  subst z
  rcases h with h | h
  ·exact h
  ·rw [ha] at hc;cases hc;rw [hm] at h;cases h
theorem pures_app {xs ys : List D} : D.pures (xs ++ ys) = (D.pures xs && D.pures ys):=by
 induction xs with
 | nil=>simp [D.pures]
 | cons x xs ih=>rw [List.cons_append,D.pures,D.pures,ih,Bool.and_assoc]
theorem ms_app {i : Nat} {x : Str} {p1 apos cpos : Pos} (ho : own i = true) (hN : X.N[i]? = some x) (hv : Vis X.env.scope x) (he : PE X e (gE fe re)) (hd : (x == ("__debug__" : Str)) = false:=by decide) (hcd : (x == ("__classdict__" : Str)) = false:=by decide)
  (hbase : attributeBase (.Name x p1) "append" X.env (eval (.Name x p1) X.env) = eval (.Name x p1) X.env:=by rfl)
  (hs1 : starEach [e] X.env = (false,eval e X.env) :: starEach [] X.env:=by rfl)
  (hfew : ((backTo cpos (starEach [e] X.env)).all (fun x=>!x.1) && (backToKw cpos (keywordEach [] X.env)).all (fun x=>x.1.isSome)
   && decide (([e] : List Expr).length + ([] : List Keyword).length + (if ([] : List Keyword).isEmpty then 0 else 1) < 30)) = true:=by rfl)
  (hline : (apos.endLine == cpos.line) = true:=by rfl)
  (hs : swapsWith (.Call (.Attribute (.Name x p1) "append" apos) [e] [] cpos) none pos.line X.env = pure false:=by rfl) :
  PS X (.Expr (.Call (.Attribute (.Name x p1) "append" apos) [e] [] cpos) pos) (tS own (sApp i fe)):=
 PS.imp (ps_expr (pe_bm PySem.F.plainAttrs_list PySem.F.slot_list_append PySem.F.type_list_append mt_append (pe_var hN hv hd hcd) (pa_cons he pa_nil hs1) hbase hfew hline hs1 rfl) hs) fun D' σ H ⟨ρ,fl,E,h,q⟩=>by
 obtain ⟨d,h1,h2⟩:=bindE h
 split at h2
 ·rename_i xs hx
  split at h2
  ·rename_i hk
   cases h2
   rw [Bool.and_eq_true] at hk
   obtain ⟨a,o,hσ,r,hin,ha,hm⟩:=E.ownAt ho (by rw [hx];intro z;cases z)
   rw [hx] at r hin
   obtain ⟨vs,hl,rr⟩:=lst_at r
   refine ⟨_,hσ,.inl ⟨rfl,vs,.of hl⟩,ρ,d,E.er,h1,fun v H' s rv _=>⟨a,vs,v,rfl,rfl,s _ _ hl,by rw [rr.length];exact lim_lt hk.1,?_⟩⟩
   have E':=E.same s
   have hl':=s _ _ hl
   obtain ⟨E2,k2⟩:=E'.mut (o:=.lst (vs ++ [v])) (d:=.lst (xs ++ [d])) ho hσ rfl (.lst upd_same trivial (((rr.same s).snoc rv).upd (by rw [pures_app];simp only [Bool.and_eq_true];exact ⟨hin,by simp [D.pures,hk.2]⟩) hl' rfl)) (by show D.pures (xs ++ [d]) = true;rw [pures_app];simp only [Bool.and_eq_true];exact ⟨hin,by simp [D.pures,hk.2]⟩)
   exact q _ _ ((KU.same s).trans k2) E2
  ·cases h2
 ·cases h2
end
end Mi
end
section
set_option maxRecDepth 100000
namespace L2
open PySem PySem.Spec PyProof.Rows
section
variable {X : Cx} {scope : Scope} {own : List Str}
theorem ps_compif {elt iter tg c : Expr} {wi : TI} {g : TG} {tc : TT} {te : TE} {pos : Pos} (S : CompSc X.N X.env.scope scope own) (hcalm : X.calm = true) (hi : PI X tg iter wi)
  (hg : ∀ X',CompCx X X' scope own->PG X' tg g) (hc : ∀ X',CompCx X X' scope own->PT X' c tc) (he : ∀ X',CompCx X X' scope own->PE X' elt te)
  (hs : ∀ x,foldedSetIterable iter X.env x = pure x) {y : Str} {py pos2 : Pos} {iy : Nat} (hNn : X.N.Nodup) (hiy : X.N[iy]? = some y) (hxy : Loc X.env.scope y) (hfy : X.fn y = true\/X.env.scope.names.lookup y = some .local) (hsw : swapsWith (.ListComp elt [⟨tg,iter,[c],0⟩] scope pos) (some (.Name y py)) pos2.line X.env = pure true) : PS X (.Assign [.Name y py] (.ListComp elt [⟨tg,iter,[c],0⟩] scope pos) pos2) (tAsg (tComp wi g tc te own.length) (gName iy)):=by
 intro pins s σ H D I h
 rw [exec_Assign_Name_used _ _ _ _ hsw]
 have cells : ∀ y ∈ scope.names,y.2 = .free->∃ c,X.env.cells.lookup y.1 = some c:=fun y hy hk=>I.ok.has y.1 (S.free y hy hk)
 refine wpAny_bind (wpAny_standAt (wpAny_bind ?_))
 show wpAny _ X.A (do let _ <- comprehension (.ListComp elt [⟨tg,iter,[c],0⟩] scope pos) scope X.env _ (newList []) false (eval iter X.env) (some (assign (.Name y py) X.env))) _ _ s
 refine wpAny_bind (wpAny_mono (wpAny_comprehension_free (use:=some (assign (.Name y py) X.env)) (Q:=fun _ s'=>SP X pins D .next s') rfl hs (closure_of cells) S.kind S.names (thn (hi pins s σ H _ I h) fun xv s1 h1=>thn h1 fun itv s2 h2=>?_)) (fun _ s' hq=>wpAny_pure (wpAny_pure hq)) fun _ _ e=>e)
 obtain ⟨it,fp,tn,J,H2,e,I2,T,st2,f2,hW⟩:=h2
 subst e
 have hD : H2 s2.heap.objs.size = none:=I2.hok.fresh (Nat.le_refl _)
 obtain ⟨W,⟨n0,w0⟩,turn⟩:=hW _ hD
 have hfx : ∀ b ∈ fp,b < s2.heap.objs.size:=fun b hb=>by
  obtain ⟨o,ho,_⟩:=T.obj 0 _ st2 b hb
  exact Heap.lt_size ho
 refine wpAny_newObj_type (wpAny_newFunctionEnv S.nocell (by intro y hy;simp at hy) (fun h₁ hns₁ hsb₁=>?_) S.kind)
 dsimp only at hns₁ hsb₁ ⊢
 have hC : (s2.heap.push { cls:=.type "list",dict:=none,data:=.seq ([] : List Value).toArray }).objs.size = s2.heap.objs.size + 1:=Heap.size_push ..
 have hne : s2.heap.objs.size ≠ s2.heap.objs.size + 1:=Nat.ne_of_lt (Nat.lt_succ_self _)
 rw [hC] at hns₁ hsb₁ ⊢
 have old : ∀ b o,s2.heap.get? b = some o->h₁.get? b = some o:=fun b o e=>hsb₁.extBut b o (Nat.ne_of_lt (Nat.lt_succ_of_lt (Heap.lt_size e))) (Heap.get?_push_of_some _ (Heap.get?_push_of_some _ e))
 have hacc : h₁.get? s2.heap.objs.size = some { cls:=.type "list",data:=.seq #[] }:=hsb₁.extBut _ _ hne (Heap.get?_push_of_some _ (Heap.get?_push_size _ rfl))
 have I4:=Inv.comp (t1:=s2.toks + ([] : List (Str × Value)).length) I2 S f2 hfx hns₁ old hacc
 generalize hX' : cxComp X scope (clF X.env scope.names []) (s2.heap.objs.size + 1) own s2 H2 fp = X' at I4
 have cc : CompCx X X' scope own:=by rw [<- hX'];exact cxComp_ok
 have eenv : X'.env = compEnvC scope (clF X.env scope.names []) (s2.heap.objs.size + 1) X.env:=by rw [<- hX'];rfl
 have eA : X'.A = X.A:=cc.A
 have ep : X'.prog = X.prog:=cc.prog
 have ew : X'.w = X.w:=cc.w
 have efs : X'.fs = frs X.stack:=by rw [<- hX'];rfl
 have eex : X'.ex = fp:=by rw [<- hX'];rfl
 have es0 : X'.s₀ = s2:=by rw [<- hX'];rfl
 have eH0 : X'.H₀ = H2:=by rw [<- hX'];rfl
 have epn : X'.pn = []:=by rw [<- hX'];rfl
 have eK : X'.K = X.K:=cc.K
 have exe:=cc.xe
 have ecalm : X'.calm = true:=cc.calm.trans hcalm
 -- the iterator's records within the block
 have fpok : ∀ {H' : Hp},(∀ b ∈ fp,H' b = none)->∀ b ∈ fp,FpOk X' [] H' b:=fun {H'} hn b hb=>by
  obtain ⟨_,f1,f3,_,f5,_⟩:=f2 b hb
  refine ⟨hn b hb,?_,?_,.inl (by rw [eex];exact hb),fun x c e=>?_,fun p hp=>by rw [epn] at hp;simp at hp⟩
  ·rw [eenv];exact Nat.ne_of_lt (Nat.lt_succ_of_lt (hfx b hb))
  ·rw [efs]
   intro z
   rcases List.mem_cons.mp (I2.stkSub b z) with z | z
   ·exact f1 z
   ·exact f3 z
  ·rw [eenv] at e
   exact f5 x c (clF_sub cells (fun _ _ h=>by simp at h) e)
 have st4 : tn 0 h₁:=T.keep _ _ _ st2 fun b _ o e=>old b o e
 have fr4 : ∀ b ∈ fp,(upd H2 s2.heap.objs.size (.lst [])) b = none:=fun b hb=>by rw [upd_ne (Nat.ne_of_lt (hfx b hb))];exact (f2 b hb).1
 have loop : ∀ s4 : Shared,s4 = { s2 with heap:=h₁,toks:=s2.toks + ([] : List (Str × Value)).length }->
   codeAny (model X.prog X.w) X.A (.compLoop (.ListComp elt [⟨tg,iter,[c],0⟩] scope pos) 0 (.ref it) (.ref s2.heap.objs.size) X'.env)
    (compPost (model X.prog X.w) X.A X.xe (some (assign (.Name y py) X.env)) (fun _ s'=>SP X pins D .next s') (.ref s2.heap.objs.size) (s2.heap.objs.size + 1)) s4:=by
  rintro s4 rfl
  refine PySem.W.kct_loop (fun n s'=>∃ i ys H',Inv X' [] (σ ++ List.replicate own.length none) H' s'/\tn i s'.heap/\(∀ b ∈ fp,H' b = none)/\W i n ys H') ?_ n0 ⟨0,[],_,I4,st4,fr4,w0⟩
  rintro n s5 ⟨i,ys,H5,I5,st5,fr5,w5⟩
  obtain ⟨hacc5,tr⟩:=turn i n ys H5 w5
  rcases tr with ⟨stop,q⟩ | ⟨go,hlen,step⟩
  ·have done:=T.done X' ep ew eK ecalm i [] s5 _ H5 (notedBy (model X.prog X.w) X.A X'.env fun e s'=>compPost (model X.prog X.w) X.A X.xe (some (assign (.Name y py) X.env)) (fun _ s'=>SP X pins D .next s') (.ref s2.heap.objs.size) (s2.heap.objs.size + 1) (.error e) s') I5 (fpok fr5) st5 stop
   rw [eA] at done
   refine thn done fun r s6 ⟨hr,I6⟩=>?_
   subst hr
   obtain ⟨m6,hn6,_⟩:=id I6.loc
   rw [eenv] at hn6
   have u6 : Un (frs X.stack) fp H2 H5 s2.heap s6.heap:=by
    have:=I6.base
    rw [efs,eex,eH0,es0] at this
    exact this
   have hCn : H5 (s2.heap.objs.size + 1) = none:=by
    have:=I6.free
    rw [eenv] at this
    exact this
   have hok6 : HOk X.prog X.w H5 s6.heap:=by
    have:=I6.hok
    rw [ep,ew] at this
    exact this
   have hos : s6.os = s2.os:=by have:=I6.os;rw [es0] at this;exact this
   obtain ⟨hh,gg,dd,tt,oo⟩:=s6
   obtain rfl : oo = s2.os:=hos
   have fin:=Inv.call (h':=hh) (g':=gg) (d':=dd) (t':=tt) (ch:=fp) I2 u6 hok6 I6.bare fun b hb=>⟨(f2 b hb).2.2.2.1,(f2 b hb).2.1,(f2 b hb).2.2.2.2.1,(f2 b hb).2.2.2.2.2⟩
   obtain ⟨oC,esC,epC,hoC,hdC,_⟩:=id hn6
   have neL : s2.heap.objs.size + 1 ≠ X.env.locals:=Nat.ne_of_gt (Nat.lt_succ_of_lt I2.lt)
   have finP:=fin.pins_of (pins':=pins ++ [(s2.heap.objs.size + 1,oC)]) fun p hp=>(List.mem_append.mp hp).elim (fun z=>fin.pin p (List.mem_append_right _ z)) fun z=>by
    have z' : p = (s2.heap.objs.size + 1,oC):=by simpa using z
    subst z'
    exact ⟨hoC,hCn,neL,I2.nofs (Nat.le_succ _),fun v z=>by rw [hdC] at z;cases z⟩
   have hpg:=pg_name (pos:=py) hNn hiy hxy hfy _ _ σ H5 (.ref s2.heap.objs.size) (.ref s2.heap.objs.size) D.nx finP rfl q
   refine thn hpg fun _ s7 ⟨σ7,H7,I7,q7⟩=>?_
   obtain ⟨g7,hC7,_⟩:=I7.pin (s2.heap.objs.size + 1,oC) (List.mem_append_right _ (List.mem_append_right _ (by simp)))
   refine ⟨m6,hn6.at' fun o e=>?_,fun h' sb=>⟨σ7,H7,?_,q7⟩⟩
   ·rw [hoC] at e
    cases e
    exact g7
   ·refine Inv.turned (t':=s7.toks) I7.unpinned (fun b o hb e=>sb.extBut b o hb e) hC7 neL (.inr (Nat.le_trans I2.sz (Nat.le_succ _))) (fun x c e z=>?_) fun p hp z=>?_
    ·obtain ⟨v,qq⟩:=I2.cell x c e
     exact absurd (Nat.lt_succ_of_lt qq.lt) (by rw [z];exact Nat.lt_irrefl _)
    ·exact absurd (Nat.lt_succ_of_lt (Heap.lt_size (I2.pin p hp).1)) (by rw [z];exact Nat.lt_irrefl _)
  ·have item:=T.item X' ep ew eK ecalm i [] s5 _ H5 (notedBy (model X.prog X.w) X.A X'.env fun e s'=>compPost (model X.prog X.w) X.A X.xe (some (assign (.Name y py) X.env)) (fun _ s'=>SP X pins D .next s') (.ref s2.heap.objs.size) (s2.heap.objs.size + 1) (.error e) s') I5 (fpok fr5) st5 go
   rw [eA] at item
   refine thn item fun r s6 ⟨u,hr,h6⟩=>?_
   subst hr
   refine thn h6 fun _ s7 ⟨x,H7,I7,r7,y7,st7,fr7⟩=>?_
   have I7':=I7.pinned (fpok fr7) (T.obj _ _ st7)
   have hg':=hg X' cc _ s7 _ H7 x u _ I7' r7 (step x H7 y7)
   rw [ep,ew,eA,exe] at hg'
   refine wpAny_mono hg' (fun _ s8 ⟨σ8,H8,I8,ext8,q8⟩=>?_) fun _ _ z=>False.elim z
   have back : ∀ {ys' : List V} {H9 : Hp} {s9 : Shared} {σ9 : St},Ext (σ ++ List.replicate own.length none) σ9->Inv X' ([] ++ pinsAt fp s7.heap) σ9 H9 s9->(∃ n',n' < n/\W (i + 1) n' ys' H9)->∃ m,m < n/\∃ i ys H',Inv X' [] (σ ++ List.replicate own.length none) H' s9/\tn i s9.heap/\(∀ b ∈ fp,H' b = none)/\W i m ys H':=by
    rintro ys' H9 s9 σ9 ex9 I9 ⟨n',hn',w9⟩
    refine ⟨n',hn',i + 1,ys',H9,(I9.weak ex9.1.symm ex9.2).unpinned,T.keep _ _ _ st7 fun b hb o e=>(I9.pin (b,o) (List.mem_append_right _ (List.mem_append_right _ (mem_pinsAt hb e)))).1,fun b hb=>?_,w9⟩
    obtain ⟨o,e,d⟩:=T.obj _ _ st7 b hb
    exact (I9.pin (b,o) (List.mem_append_right _ (List.mem_append_right _ (mem_pinsAt hb e)))).2.1
   have hc':=hc X' cc _ s8 _ H8 _ I8 q8
   rw [ep,ew,eA,exe] at hc'
   refine wpAny_mono hc' (fun b s9 ⟨H9,I9,q9⟩=>?_) fun _ _ z=>False.elim z
   cases b with
   | false=>
    simp only [Bool.false_eq_true,if_false] at q9 ⊢
    exact back ext8 I9 q9
   | true=>
    simp only [if_true] at q9 ⊢
    have he':=he X' cc _ s9 _ H9 _ I9 q9
    rw [ep,ew,eA,exe] at he'
    refine wpAny_mono he' (fun yv s10 ⟨y,H10,I10,r10,p10,q10⟩=>?_) fun _ _ z=>False.elim z
    have hm:=mt_append (X:=X') _ s10 σ8 H10 (.ref s2.heap.objs.size) [y] (.ref s2.heap.objs.size) [yv] (fun _ H11=>∃ n',n' < n/\W (i + 1) n' (ys ++ [y]) H11) I10 rfl (.cons r10 .nil) ⟨s2.heap.objs.size,ys,y,rfl,rfl,p10,hlen,q10⟩
    rw [ep,ew,eA,exe] at hm
    exact wpAny_mono hm (fun _ s11 ⟨_,H11,I11,_,q11⟩=>back ext8 I11 q11) fun _ _ z=>False.elim z
 have l4:=loop _ rfl
 rw [eenv] at l4
 exact codeAny_compStart_list l4 (T.self X.A 0 _ _ _ st4 l4)
end
end L2
end
section
set_option maxRecDepth 100000
namespace Mi
open PySem L2 PySem.SeqAt PySem.Spec PyProof.Rows
variable [KFrag]
variable {own : Nat->Bool}
section
variable {X : Cx} {a b c e : Expr} {pos pos' : Pos} {fa fb fc fe : FE} {ra rb rc re : Bool} {ga gb gc : FT} {f g : FS} {st : Stmt} {rest s1 s2 : List Stmt}
variable {scope : Scope} {ownN : List Str} {elt iter tg : Expr} {it : FI} {t : D->Res (List D)} {gt : TG}
theorem ms_compif {n m : Nat} {y : Str} {py pos2 : Pos} {iy : Nat} {o : Bool} (S : CompSc X.N X.env.scope scope ownN) (hn : X.N.length = n) (hm : ownN.length = m) (hcalm : X.calm = true) (hi : PI X tg iter (gI X.K it)) (ht : TgC gt t n m) (hg : ∀ X',CompCx X X' scope ownN->PG X' tg gt) (hc : ∀ X',CompCx X X' scope ownN->PT X' c (gT gc)) (he : ∀ X',CompCx X X' scope ownN->PE X' elt (gE fe re))
  (hs : ∀ x,foldedSetIterable iter X.env x = pure x) (ho : own iy = o) (hNn : X.N.Nodup) (hiy : X.N[iy]? = some y) (hxy : Loc X.env.scope y) (hfy : X.fn y = true\/X.env.scope.names.lookup y = some .local) (hsw : swapsWith (.ListComp elt [⟨tg,iter,[c],0⟩] scope pos) (some (.Name y py)) pos2.line X.env = pure true) :
  PS X (.Assign [.Name y py] (.ListComp elt [⟨tg,iter,[c],0⟩] scope pos) pos2) (tS own (sSet o iy (bComp n it t gc fe re) true)):=by
 intro pins s σ H D I h
 subst hm
 refine ps_compif S hcalm hi hg hc he hs hNn hiy hxy hfy hsw pins s σ H D I ?_
 exact comp_core ht (fun σ H Q h=>h) (I.len.trans hn) (set_imp ho h)
noncomputable def rInsert : V->List V->Hp->VK->Prop:=fun x vs H Q=>∃ l xs j y,x = .ref l/\vs = [.int j,y]/\H l = some (.lst xs)/\0<=j/\j<=xs.length/\xs.length < sizeLine/\Q .non (upd H l (.lst (xs.take j.toNat ++ y :: xs.drop j.toNat)))
theorem mt_insert : MtR X "list.insert" rInsert:=by
 intro pins s σ H x vs v us Q I rx rv h
 obtain ⟨l,xs,j,y,rfl,rfl,hH,h0,h1,hz,q⟩:=h
 cases rx
 cases rv with
 | cons rj rv=>
  cases rv with
  | cons ry rv=>
   cases rv
   obtain ⟨tt,rfl⟩:=rj
   obtain ⟨z,its,n,r,hl,e⟩:=I.lstM hH
   have hs : sizeLine = 16777216:=sizeLine_eq
   refine call_meets F.slot_list_insert ⟨_,e,rfl⟩ F.entry_list_insert (F.args_list_insert_3 _ _ _) (AutoSeq1.list_insert_list_int_val_1 l its.toArray n j tt _ (by
    rw [show Builtin.List.listFitsIndex j = true from by unfold Builtin.List.listFitsIndex;simp only [Bool.and_eq_true,decide_eq_true_eq];lia]
    decide) (by rw [List.size_toArray];lia)) ⟨e,?_⟩
   refine ⟨.non,_,I.lset (its':=its.take j.toNat ++ _ :: its.drop j.toNat) hH e ?_ ((r.take j.toNat).append (.cons ry (r.drop j.toNat))) ?_,rfl,q⟩
   ·have hj : ¬ j < 0:=by lia
    have hm : min j.toNat its.length = j.toNat:=by lia
    simp only [hj,if_false,List.size_toArray,hm]
    apply Array.toList_inj.mp
    simp [List.extract_eq_drop_take]
    first | rfl | (rw [List.take_of_length_le];simp)
   ·rw [List.length_append,List.length_cons,List.length_take,List.length_drop]
    lia
theorem ms_ins {i : Nat} {x : Str} {p1 apos cpos : Pos} (ho : own i = true) (hN : X.N[i]? = some x) (hv : Vis X.env.scope x) (ha : PE X a (gE fa ra)) (he : PE X e (gE fe re)) (hd : (x == ("__debug__" : Str)) = false:=by decide) (hcd : (x == ("__classdict__" : Str)) = false:=by decide)
  (hbase : attributeBase (.Name x p1) "insert" X.env (eval (.Name x p1) X.env) = eval (.Name x p1) X.env:=by rfl)
  (hs0 : starEach [a,e] X.env = (false,eval a X.env) :: starEach [e] X.env:=by rfl) (hs1 : starEach [e] X.env = (false,eval e X.env) :: starEach [] X.env:=by rfl)
  (hfew : ((backTo cpos (starEach [a,e] X.env)).all (fun x=>!x.1) && (backToKw cpos (keywordEach [] X.env)).all (fun x=>x.1.isSome)
   && decide (([a,e] : List Expr).length + ([] : List Keyword).length + (if ([] : List Keyword).isEmpty then 0 else 1) < 30)) = true:=by rfl)
  (hline : (apos.endLine == cpos.line) = true:=by rfl) (hpl : (backTo cpos (starEach [e] X.env)).any (·.1) = false:=by rfl)
  (hs : swapsWith (.Call (.Attribute (.Name x p1) "insert" apos) [a,e] [] cpos) none pos.line X.env = pure false:=by rfl) :
  PS X (.Expr (.Call (.Attribute (.Name x p1) "insert" apos) [a,e] [] cpos) pos) (tS own (sIns i fa fe)):=
 PS.imp (ps_expr (pe_bm PySem.F.plainAttrs_list PySem.F.slot_list_insert PySem.F.type_list_insert mt_insert (pe_var hN hv hd hcd) (pa_cons ha (pa_cons he pa_nil hs1) hs0) hbase hfew hline hs0 hpl) hs) fun D' σ H ⟨ρ,fl,E,h,q⟩=>by
 obtain ⟨j,h0,h⟩:=bindE h
 obtain ⟨d,h1,h2⟩:=bindE h
 split at h2
 ·rename_i xs jj hx
  split at h2
  ·rename_i hk
   cases h2
   simp only [Bool.and_eq_true,decide_eq_true_eq] at hk
   obtain ⟨⟨⟨hk1,hk2⟩,hk3⟩,hk4⟩:=hk
   obtain ⟨a,o,hσ,r,hin,ha,hm⟩:=E.ownAt ho (by rw [hx];intro z;cases z)
   rw [hx] at r hin
   obtain ⟨vs,hl,rr⟩:=lst_at r
   refine ⟨_,hσ,.inl ⟨rfl,vs,.of hl⟩,ρ,_,E.er,h0,fun v0 H0 s0 rv0 _=>⟨ρ,d,E.er.same s0,h1,fun v H' s rv _=>?_⟩⟩
   cases rv0
   have s':=s0.trans s
   refine ⟨a,vs,jj,v,rfl,rfl,s' _ _ hl,hk3,by rw [rr.length];exact hk4,by rw [rr.length];exact Nat.lt_of_lt_of_le hk1 (by rw [sizeLine_eq];decide),?_⟩
   have E':=E.same s'
   have hl':=s' _ _ hl
   have hin' : D.pures xs = true:=hin
   have hp : D.pures (xs.take jj.toNat ++ d :: xs.drop jj.toNat) = true:=pures_mem.mpr fun y hy=>by
    rcases List.mem_append.mp hy with hy | hy
    ·exact pures_mem.mp hin' y (List.mem_of_mem_take hy)
    ·rcases List.mem_cons.mp hy with rfl | hy
     ·exact hk2
     ·exact pures_mem.mp hin' y (List.mem_of_mem_drop hy)
   have rr':=rr.same s'
   obtain ⟨E2,k2⟩:=E'.mut (o:=.lst (vs.take jj.toNat ++ v :: vs.drop jj.toNat)) (d:=.lst (xs.take jj.toNat ++ d :: xs.drop jj.toNat)) ho hσ rfl (.lst upd_same trivial (((rr'.take jj.toNat).append (.cons rv (rr'.drop jj.toNat))).upd hp hl' rfl)) hp
   exact q _ _ ((KU.same s').trans k2) E2
  ·cases h2
 ·cases h2
theorem putK_pos {κ : Type} [DecidableEq κ] {p : κ × V} {r : List (κ × V)} {k : κ} {v : V} (e : p.1 = k) (h : k ∉ r.map (·.1)) : putK (p :: r) k v = (k,v) :: r:=by
 unfold putK
 rw [if_pos (by simp [e]),List.map_cons,if_pos e,e]
 congr 1
 have : ∀ q ∈ r,(fun kv : κ × V=>if kv.1 = k then (kv.1,v) else kv) q = id q:=fun q hq=>by
  have : q.1 ≠ k:=fun z=>h (List.mem_map.mpr ⟨q,hq,z⟩)
  simp [this]
 rw [List.map_congr_left this,List.map_id]
theorem putK_neg {κ : Type} [DecidableEq κ] {p : κ × V} {r : List (κ × V)} {k : κ} {v : V} (e : ¬ p.1 = k) : putK (p :: r) k v = p :: putK r k v:=by
 unfold putK
 rw [List.any_cons,decide_eq_false e,Bool.false_or]
 split
 ·rw [List.map_cons,if_neg e]
 ·rfl
theorem putK_keys {κ : Type} [DecidableEq κ] {k : κ} {v : V} : ∀ {kvs : List (κ × V)},(kvs.map (·.1)).Nodup->((putK kvs k v).map (·.1)).Nodup:=fun {kvs} h=>by
 by_cases hk : valV kvs k = none
 ·exact nd_putK v h hk
 ·unfold putK
  rw [if_pos (by rw [valV_any];exact Option.isSome_iff_ne_none.mpr hk),List.map_map]
  have : (fun x : κ × V=>x.1) ∘ (fun kv : κ × V=>if kv.1 = k then (kv.1,v) else kv) = fun x=>x.1:=by
   funext q
   simp only [Function.comp]
   split <;> rfl
  rw [this]
  exact h
theorem putK_rep {P : Addr->Prop} {H : Hp} {k : Key} {v : V} {d : D} (rv : Rep P H v d) : ∀ {kvs : List (Key × V)} {ds : List (D × D)},RepK P H kvs ds->(kvs.map (·.1)).Nodup->RepK P H (putK kvs k v) (putD ds (kD k) d)
 | _,_,.nil,_=>.cons rv .nil
 | _,_,.cons (k:=k') (v:=v') (r:=rs) r t,hn=>by
  rw [List.map_cons] at hn
  obtain ⟨h1,h2⟩:=List.nodup_cons.mp hn
  rw [putD,kD_eq]
  by_cases h : k' = k
  ·subst h
   rw [if_pos (by simp),putK_pos rfl h1]
   exact .cons rv t
  ·rw [if_neg (by simpa using h),putK_neg (p:=(k',v')) h]
   exact .cons r (putK_rep rv t h2)
theorem putT_rep {P : Addr->Prop} {H : Hp} {k : List Key} {v : V} {d : D} (rv : Rep P H v d) : ∀ {kvs : List (List Key × V)} {ds : List (D × D)},RepT P H kvs ds->(kvs.map (·.1)).Nodup->RepT P H (putK kvs k v) (putD ds (.tup (k.map kD)) d)
 | _,_,.nil,_=>.cons rv .nil
 | _,_,.cons (k:=k') (v:=v') (r:=rs) r t,hn=>by
  rw [List.map_cons] at hn
  obtain ⟨h1,h2⟩:=List.nodup_cons.mp hn
  rw [putD,kT_eq]
  by_cases h : k' = k
  ·subst h
   rw [if_pos (by simp),putK_pos rfl h1]
   exact .cons rv t
  ·rw [if_neg (by simpa using h),putK_neg (p:=(k',v')) h]
   exact .cons r (putT_rep rv t h2)
theorem RepK.length {P : Addr->Prop} {H : Hp} : ∀ {kvs : List (Key × V)} {ds : List (D × D)},RepK P H kvs ds->kvs.length = ds.length
 | _,_,.nil=>rfl
 | _,_,.cons _ t=>by rw [List.length_cons,List.length_cons,RepK.length t]
theorem RepT.length {P : Addr->Prop} {H : Hp} : ∀ {kvs : List (List Key × V)} {ds : List (D × D)},RepT P H kvs ds->kvs.length = ds.length
 | _,_,.nil=>rfl
 | _,_,.cons _ t=>by rw [List.length_cons,List.length_cons,RepT.length t]
theorem updKeep {H : Hp} {a : Addr} {o ob : HO} (ha : H a = some ob) (hm : mutO ob = true) : Keep (fun _=>False) H (L2.upd H a o):=fun c oc hc h=>by
 rw [upd_ne]
 ·exact hc
 ·intro z
  subst z
  rcases h with h | h
  ·exact h.elim
  ·rw [ha] at hc;cases hc;rw [hm] at h;cases h
theorem putD_pures {d : D} {k : D} (hd : d.pure = true) : ∀ {ds : List (D × D)},D.pures (ds.map (·.2)) = true->D.pures ((putD ds k d).map (·.2)) = true
 | [],_=>by simp [putD,D.pures,hd]
 | (q,w) :: r,h=>by
  rw [List.map_cons,D.pures,Bool.and_eq_true] at h
  rw [putD]
  split
  ·rw [List.map_cons,D.pures,Bool.and_eq_true]
   exact ⟨hd,h.2⟩
  ·rw [List.map_cons,D.pures,Bool.and_eq_true]
   exact ⟨h.1,putD_pures hd h.2⟩
theorem dputD {pins : List (Addr × Obj)} {s : Shared} {σ : L2.St} {H : Hp} {ad : Addr} {y v : V} {ds : List (D × D)} {k d : D} (I : Inv X pins σ H s) (rd : Rep All H (.ref ad) (.dct ds)) (hin : D.pures (ds.map (·.2)) = true) (rk : Rep All H y k) (hk : fitK ds k = true) (hl : ds.length < sizeLine) (rv : Rep All H v d) (hd : d.pure = true) :
  ∃ H1 o,Inv X pins σ H1 s/\DPut H1 ad y v (L2.upd H ad o)/\mutO o = true/\Rep All (L2.upd H ad o) (.ref ad) (.dct (putD ds k d)):=by
 unfold fitK at hk
 rw [Bool.and_eq_true] at hk
 obtain ⟨h1,h2⟩:=hk
 have rv' : Rep (fun _=>False) H v d:=rv.ofPure hd
 cases rd with
 | @dK _ kvs ds e _ r n=>
  have hlen:=r.length
  rcases key_cases h1 rk with ⟨q,rfl,rfl⟩ | ⟨b,ks,rfl,eb,rfl⟩
  ·refine ⟨H,.dK (putK kvs q v),I,.k e (by lia),rfl,.dK upd_same trivial ?_ (putK_keys n)⟩
   exact (putK_rep rv' (r.ofPure hin) n).keep (updKeep e rfl) fun _ z=>z.elim
  ·cases r with
   | nil=>
    refine ⟨L2.upd H ad (.dT []),.dT (putK [] ks v),Inv_emptyT I e,?_,rfl,.dT upd_same trivial ?_ (putK_keys List.nodup_nil)⟩
    ·have:=DPut.t (H:=L2.upd H ad (.dT [])) (a:=ad) (b:=b) (kvs:=[]) (k:=ks) (v:=v) upd_same (by rw [upd_ne (ne_of eb e (by intro z;cases z))];exact eb) hl
     rwa [upd_upd] at this
    ·exact (putT_rep (k:=ks) rv' .nil List.nodup_nil).keep (updKeep e rfl) fun _ z=>z.elim
   | cons r t=>
    rw [List.all_cons,isTup_kD] at h2
    simp [isTup] at h2
 | @dT _ kvs ds e _ r n=>
  have hlen:=r.length
  rcases key_cases h1 rk with ⟨q,rfl,rfl⟩ | ⟨b,ks,rfl,eb,rfl⟩
  ·cases r with
   | nil=>
    refine ⟨L2.upd H ad (.dK []),.dK (putK [] q v),Inv_emptyK I e,?_,rfl,.dK upd_same trivial ?_ (putK_keys List.nodup_nil)⟩
    ·have:=DPut.k (H:=L2.upd H ad (.dK [])) (a:=ad) (kvs:=[]) (k:=q) (v:=v) upd_same hl
     rwa [upd_upd] at this
    ·exact (putK_rep (k:=q) rv' .nil List.nodup_nil).keep (updKeep e rfl) fun _ z=>z.elim
   | cons r t=>
    rw [List.all_cons,isTup_kD] at h2
    simp [isTup] at h2
  ·refine ⟨H,.dT (putK kvs ks v),I,.t e eb (by lia),rfl,.dT upd_same trivial ?_ (putK_keys n)⟩
   exact (putT_rep rv' (r.ofPure hin) n).keep (updKeep e rfl) fun _ z=>z.elim
theorem ms_put {i : Nat} {x : Str} {p1 : Pos} {value k : Expr} {fv fk : FE} {rv rk : Bool} (hu : X.A.units + 20 < cLine) (ho : own i = true) (hN : X.N[i]? = some x) (hvi : Vis X.env.scope x) (hk : PE X k (gE fk rk)) (hv : PE X value (gE fv rv))
  (hs : swapsWith value (some (.Subscript (.Name x p1) k pos')) pos.line X.env = pure false:=by rfl) (hd : (x == ("__debug__" : Str)) = false:=by decide) (hcd : (x == ("__classdict__" : Str)) = false:=by decide) :
  PS X (.Assign [.Subscript (.Name x p1) k pos'] value pos) (tS own (sPut i fk fv)):=by
 intro pins s σ H D' I ⟨ρ,fl,E,h,q⟩
 obtain ⟨d,h0,h⟩:=bindE h
 obtain ⟨kd,h1,h2⟩:=bindE h
 split at h2
 ·rename_i kvs hx
  split at h2
  ·rename_i hg
   cases h2
   simp only [Bool.and_eq_true] at hg
   obtain ⟨⟨hg1,hg2⟩,hg3⟩:=hg
   obtain ⟨a,o,hσ,r,hin,ha,hm⟩:=E.ownAt ho (by rw [hx];intro z;cases z)
   rw [hx] at r hin
   refine wpAny_Assign_Subscript (thn (hv pins s σ H (fun v H1=>Same H H1/\Rep All H1 v d) I ⟨ρ,d,E.er,h0,fun v H1 s1 r1 _=>⟨s1,r1⟩⟩) fun rr s1 ⟨v,H1,I1,rv1,sm1,rp1⟩=>
    thn (pe_var hN hvi hd hcd pins s1 σ H1 (fun w H2=>w = .ref a/\H2 = H1) I1 ⟨_,hσ,rfl,rfl⟩) fun u s2 ⟨xx,H2,I2,rx,ex,eH⟩=>
    thn (hk pins s2 σ H2 (fun w H3=>Same H2 H3/\Rep All H3 w kd) I2 ⟨ρ,kd,by rw [eH];exact E.er.same sm1,h1,fun v H1 s1 r1 _=>⟨s1,r1⟩⟩) fun iv s3 ⟨y,H3,I3,ry,sm3,rp3⟩=>?_) hs
   subst ex eH
   obtain rfl : u = Value.ref a:=rx
   have sm:=sm1.trans sm3
   obtain ⟨H4,o4,I4,g,hmo,rp⟩:=dputD I3 (r.same sm) hin rp3 hg2 (lim_lt hg1) (rp1.same sm3) hg3
   obtain ⟨E2,k2⟩:=(E.same sm).mut ho hσ hmo rp (putD_pures hg3 hin)
   exact d_setItem (by lia) I4 g ry rv1 fun s4 I5=>⟨σ,_,I5,q _ _ ((KU.same sm).trans k2) E2⟩
  ·cases h2
 ·cases h2
noncomputable def TgS (own : Nat->Bool) (g : TG) (t : D->List D->Res (List D)) : Prop:=∀ (v : V) (d : D) (ρ ρ' : List D) (σ : L2.St) (H : Hp) (Q : L2.St->Hp->Prop),ES own H σ ρ->Rep (fun a=>¬ Own own σ a) H v d->t d ρ = .ok ρ'->
 (∀ σ',ES own H σ' ρ'->(∀ a,Own own σ' a ↔ Own own σ a)->Q σ' H)->g v σ H Q
theorem tgs_one {i : Nat} (ho : own i = false) : TgS own (gName i) (tg1 i):=fun v d ρ ρ' σ H Q E r h q=>by
 cases h
 exact q _ (E.set ho r) fun a=>own_set ho a
theorem ES.sets {H : Hp} : ∀ {is : List Nat} {vs : List V} {ds : List D} {σ : L2.St} {ρ : List D},(∀ i ∈ is,own i = false)->ES own H σ ρ->Reps (fun a=>¬ Own own σ a) H vs ds->ES own H (setsV is vs σ) (setsD is ds ρ)/\∀ a,Own own (setsV is vs σ) a ↔ Own own σ a
 | [],_,_,_,_,_,E,_=>by simp only [setsV,setsD];exact ⟨E,fun _=>trivial⟩
 | i :: is,_,_,σ,ρ,h,E,.nil=>by simp only [setsV,setsD];exact ⟨E,fun _=>trivial⟩
 | i :: is,_,_,σ,ρ,h,E,.cons (v:=v) r t=>by
  have ho:=h i (List.mem_cons_self ..)
  have hO : (fun a=>¬ Own own (σ.set i (some v)) a) = fun a=>¬ Own own σ a:=funext fun a=>by rw [own_set ho]
  obtain ⟨h1,h2⟩:=ES.sets (is:=is) (fun j hj=>h j (List.mem_cons_of_mem _ hj)) (E.set ho r) (by rw [hO];exact t)
  exact ⟨h1,fun a=>(h2 a).trans (own_set ho a)⟩
theorem tgs_tup (K : PySem.W.Frag) {is : List Nat} (ho : ∀ i ∈ is,own i = false) : TgS own (gTup K is.length (gIx is)) (tgN is):=fun v d ρ ρ' σ H Q E r h q=>by
 cases d <;> simp only [tgN] at h <;> (try (cases h;done))
 split at h
 ·rename_i hl
  cases h
  have hl':=of_decide_eq_true hl
  obtain ⟨a,xs,rfl,e,rr⟩:=r.tupAt
  obtain ⟨h1,h2⟩:=E.sets ho rr
  exact ⟨a,xs,rfl,.of e,by rw [rr.length];exact hl',gIx_run _ _ _ (by rw [rr.length];exact hl') (q _ h1 h2)⟩
 ·cases h
theorem ItQ.ku {K : PySem.W.Frag} {J : It} {items : List D} {σ σ' : L2.St} {H H' : Hp} {ρ : List D} (h : ItQ K (fun a=>¬ Own own σ a) J H items) (k : KU own σ H σ' H') (E : ES own H σ ρ) : ItQ K (fun a=>¬ Own own σ' a) J H' items:=by
 cases h with
 | lst a e r=>exact .lst a e (k.rep E r)
 | tup a e r=>exact .tup a e (k.rep E r)
 | rng lo n e r=>exact .rng lo n e r
 | chs x e r=>exact .chs x e r
 | enm a ds e r h=>exact .enm a ds e (k.rep E r) h
 | enf m a ds e r h=>exact .enf m a ds e (k.rep E r) h
 | zip a b ds es e r q n h=>exact .zip a b ds es e (k.rep E r) (k.rep E q) n h
theorem for_core {K : PySem.W.Frag} {g : TG} {t : D->List D->Res (List D)} {body : FS} {D' : Ends} {J : It} {items : List D} {σ : L2.St} {H1 : Hp} {ρ : List D} {fl : Fl} (tg : TgS own g t) (E : ES own H1 σ ρ) (hJ : ItQ K (fun a=>¬ Own own σ a) J H1 items) (hf : forS t body items ρ = .ok fl) (q : kS own D' σ H1 fl) :
  ∃ W : Nat->Nat->L2.St->Hp->Prop,(∃ m,W 0 m σ H1)/\∀ i m σ H,W i m σ H->
   (J.stop i H/\D'.nx σ H)\/(J.go i H/\∃ N : L2.St->Hp->Prop,(∀ σ' H',N σ' H'->∃ m',m' < m/\W (i + 1) m' σ' H')/\∀ x H',J.yld i H x H'->g x σ H' fun σ2 H2=>tS own body { D' with nx:=N,ct:=N,bk:=D'.nx } σ2 H2):=by
 refine ⟨fun i m σ' H'=>m = items.length - i/\i<=items.length/\ItQ K (fun a=>¬ Own own σ' a) J H' items/\∃ ρ',ES own H' σ' ρ'/\forS t body (items.drop i) ρ' = .ok fl/\kS own D' σ' H' fl,⟨items.length,rfl,Nat.zero_le _,hJ,ρ,E,hf,q⟩,?_⟩
 rintro i m σ' H' ⟨rfl,hi,hJ',ρ',E',hf',q'⟩
 rcases Nat.lt_or_ge i items.length with hlt | hge
 ·refine .inr ?_
  have e : items[i]? = some items[i]:=List.getElem?_eq_getElem hlt
  obtain ⟨g1,g2⟩:=hJ'.go e
  rw [List.drop_eq_getElem_cons hlt] at hf'
  obtain ⟨ρ1,h1,hf2⟩:=bindE hf'
  obtain ⟨r,h2,hf3⟩:=bindE hf2
  refine ⟨g1,fun σ2 H2=>ItQ K (fun a=>¬ Own own σ2 a) J H2 items/\∃ ρ',ES own H2 σ2 ρ'/\forS t body (items.drop (i + 1)) ρ' = .ok fl/\kS own D' σ2 H2 fl,fun σ2 H2 ⟨n1,n2⟩=>⟨items.length - (i + 1),by lia,rfl,hlt,n1,n2⟩,fun x H2 hy=>?_⟩
  obtain ⟨sH,rx⟩:=g2 x H2 hy
  have ks : KU own σ' H' σ' H2:=fun a o e n=>⟨sH a o e,n⟩
  have hJ':=hJ'.ku ks E'
  have q':=q'.step ks
  have E':=E'.same sH
  refine tg x items[i] ρ' ρ1 σ' H2 _ E' rx h1 fun σ2 E2 hO=>?_
  have k0 : KU own σ' H2 σ2 H2:=fun a o e n=>⟨e,by rw [hO];exact n⟩
  have hJ2:=hJ'.ku k0 E'
  have q2:=q'.step k0
  refine ⟨ρ1,r,E2,h2,?_⟩
  cases r with
  | nx ρ2=>exact fun σ3 H3 k3 E3=>⟨hJ2.ku k3 E2,ρ2,E3,hf3,q2.step k3⟩
  | ct ρ2=>exact fun σ3 H3 k3 E3=>⟨hJ2.ku k3 E2,ρ2,E3,hf3,q2.step k3⟩
  | bk ρ2=>cases hf3;exact fun σ3 H3 k3 E3=>q2 σ3 H3 k3 E3
  | rt d=>cases hf3;exact q2
 ·refine .inl ⟨hJ'.stop hge,?_⟩
  rw [List.drop_eq_nil_of_le hge] at hf'
  cases hf'
  exact q' σ' H' (fun a o e n=>⟨e,n⟩) E'
theorem ms_for {tg iter : Expr} {body : List Stmt} {g : TG} {t : D->List D->Res (List D)} {it : FI} {fb : FS} (hp : PassesOwn (model X.prog X.w) X.A X.env X.xe) (hc : X.calm = true) (hi : PI X tg iter (gI X.K it)) (ht : TgS own g t) (hg : PG X tg g) (hb : PSs X body (tS own fb))
  (hs : ∀ x,foldedSetIterable iter X.env x = pure x:=by intro _;rfl) : PS X (.For tg iter body [] pos) (tS own (sFor it t fb)):=PS.imp (ps_for hp hc hi hg hb hs) fun D' σ H ⟨ρ,fl,E,h,q⟩=>by
 obtain ⟨⟨items,k⟩,h1,h2⟩:=bindE h
 split at h2
 ·rename_i hk
  exact ⟨ρ,items,k,E.er,h1,fun J H1 s1 _ hJ=>for_core ht (E.same s1) ((hJ hk).keep (fun _ _ e _=>e) fun a ha ho=>by
   obtain ⟨o,e1,_⟩:=E.live ho
   rw [show H a = none from ha] at e1
   cases e1) h2 (q.step (.same s1))⟩
 ·cases h2
theorem ms_forV {tg : Expr} {body : List Stmt} {g : TG} {t : D->List D->Res (List D)} {i : Nat} {x : Str} {px : Pos} {fb : FS} (ho : own i = false) (hp : PassesOwn (model X.prog X.w) X.A X.env X.xe) (hc : X.calm = true) (hN : X.N[i]? = some x) (hv : Vis X.env.scope x) (ht : TgS own g t) (hg : PG X tg g) (hb : PSs X body (tS own fb))
  (hs : ∀ z,foldedSetIterable (.Name x px) X.env z = pure z:=by intro _;rfl) (hd : (x == ("__debug__" : Str)) = false:=by decide) (hcd : (x == ("__classdict__" : Str)) = false:=by decide) : PS X (.For tg (.Name x px) body [] pos) (tS own (sForV i t fb)):=PS.imp (ps_for hp hc (mi_var hN hv hd hcd) hg hb hs) fun D' σ H ⟨ρ,fl,E,h,q⟩=>by
 obtain ⟨d,h1,h⟩:=bindE h
 obtain ⟨items,h2,h3⟩:=bindE h
 obtain ⟨v,hv,r,e⟩:=E.er.var h1
 have hne : ρ.getD i .undef ≠ .undef:=fun z=>by
  rw [z] at e
  subst e
  exact Rep.undef r
 obtain ⟨w,hw,hr⟩:=E.at_ i hne
 rw [hv] at hw
 cases hw
 have r2:=hr ho
 rw [e] at r2
 exact ⟨v,d,items,hv,r,h2,fun J hJ=>for_core ht E (hJ _ r2) h3 q⟩
theorem es_start {own : Nat->Bool} {N ps : List Str} {vs : List V} {ds : List D} {H : Hp} (hst : start N vs = vs.map some ++ List.replicate (N.length - ps.length) none) (hl : ds.length = ps.length) (r : Reps All H vs ds) (hown : ∀ i,i < ps.length->own i = false) (noown : ∀ a,¬ Own own (start N vs) a) : ES own H (start N vs) (ds ++ List.replicate (N.length - ps.length) .undef):=by
 refine ⟨by rw [hst];simp [r.length],fun i hi=>?_,fun i v hi hv=>?_⟩
 ·have hlt : i < ds.length:=Nat.lt_of_not_le fun hge=>hi (by
   rw [List.getD_eq_getElem?_getD,List.getElem?_append_right hge,List.getElem?_replicate]
   split <;> rfl)
  have e : (ds ++ List.replicate (N.length - ps.length) D.undef).getD i .undef = ds[i]:=by
   rw [List.getD_eq_getElem?_getD,List.getElem?_append_left hlt,List.getElem?_eq_getElem hlt]
   rfl
  obtain ⟨v,g1,g2⟩:=r.get (i:=i) (d:=ds[i]) (by simp [hlt])
  refine ⟨v,by rw [hst,List.getElem?_append_left (by simp [r.length,hlt])];simp [g1],fun _=>?_⟩
  rw [e]
  exact g2.mono fun a _=>noown a
 ·exfalso
  rw [hst] at hv
  by_cases h : i < ps.length
  ·rw [hown i h] at hi;cases hi
  ·rw [List.getElem?_append_right (by simp [r.length,hl];lia)] at hv
   rw [List.getElem?_replicate] at hv
   split at hv <;> cases hv
theorem fn_body {own : Nat->Bool} {N ps : List Str} {f : FS} {vs : List V} {H : Hp} {Q : VK} {E : XK} (hown : ∀ i,i < ps.length->own i = false) (h0 : spD (fnS ps.length N.length f) ps.length vs H Q E) : tS own f { nx:=fun _ H'=>Q .non H',rt:=Q } (start N vs) H:=by
 obtain ⟨ds,d,hl,r,h,q⟩:=h0
 ·obtain ⟨fl,h1,h2⟩:=bindE h
  have hst : start N vs = vs.map some ++ List.replicate (N.length - ps.length) none:=by
   show vs.map some ++ List.replicate (N.length - vs.length) none = _
   rw [r.length,hl]
  have noown : ∀ a,¬ Own own (start N vs) a:=fun a ⟨i,hi,e⟩=>by
   rw [hst] at e
   by_cases h : i < ps.length
   ·rw [hown i h] at hi;cases hi
   ·rw [List.getElem?_append_right (by simp [r.length,hl];lia)] at e
    rw [List.getElem?_replicate] at e
    split at e <;> cases e
  have E0 : ES own H (start N vs) (ds ++ List.replicate (N.length - ps.length) .undef):=es_start hst hl r hown noown
  refine ⟨_,fl,E0,h1,?_⟩
  have sm : ∀ {σ' : L2.St} {H' : Hp},KU own (start N vs) H σ' H'->Same H H':=fun k a o e=>(k a o e (noown a)).1
  cases fl with
  | nx ρ'=>cases h2;exact fun σ' H' k E'=>q .non H' (sm k) .non fun _=>.non
  | rt d'=>
   cases h2
   refine fun v H' hk rp=>q v H' (fun a o e=>hk a o e (noown a)) rp.all fun _=>rp.mono fun a ha=>?_
   rcases ha with ha | ha
   ·exact absurd ha (noown a)
   ·exact ha
  | bk ρ'=>cases h2
  | ct ρ'=>cases h2
theorem fn_ok {P : Program} {w : World} {K : PySem.W.Frag} {mg : Str->Option Value} {base : Heap} {x qual : Str} {st : Stmt} {fad : Addr} {fd : FuncData} {N ps : List Str} {k : Nat} {f : FS} (F : Fun K x qual st fad fd) (S : FnScope N ps (defScope st)) (own : Nat->Bool) (hown : ∀ i,i < ps.length->own i = false) (hNl : ps.length<=N.length)
  (hbody : ∀ (cdv : Value) (A : Around) (outer : List Env) (s : Shared) (H : Hp) (E : XK),Room k (A.deeper (envOfC qual (defScope st) s.heap.objs.size fad cdv))->PSs (cxOf CX0 P w K mg base N qual (defScope st) fad cdv A outer s H E).nox (defBody st) (tS own f)) : FnOk P w K mg base CX0 (k + 1) fad fd ps (spD (fnS ps.length N.length f) ps.length):=
 F.ok S (fun vs H Q E h=>spD_len h) fun cdv A outer s H vs Q E hr h=>⟨_,hbody cdv A outer s H E hr,fn_body hown h⟩
end
end Mi
end
section
set_option maxRecDepth 100000
namespace Mi
open PySem L2 PySem.SeqAt PySem.Spec PyProof.Rows
variable [KFrag]
structure CRest where
 s₀ : Shared
 H₀ : Hp
 env : Env
 outer : List Env
 stack : List Env
 ex : List Addr
 fn : Str->Bool
 pn : List (Addr × Obj)
noncomputable abbrev mkC (X : Cx) (scope : Scope) (ownN : List Str) (y : CRest) : Cx:=
 { X with N:=X.N.map (hideN ownN) ++ ownN,s₀:=y.s₀,H₀:=y.H₀,env:={ y.env with scope:=relabel scope X.env },outer:=y.outer,stack:=y.stack,ex:=y.ex,fn:=y.fn,pn:=y.pn,xe:=fun _ _=>False }
theorem mkC_of {X X' : Cx} {scope : Scope} {ownN : List Str} (cc : CompCx X X' scope ownN) : ∃ y,X' = mkC X scope ownN y:=by
 refine ⟨⟨X'.s₀,X'.H₀,X'.env,X'.outer,X'.stack,X'.ex,X'.fn,X'.pn⟩,?_⟩
 obtain ⟨h1,h2,h3,h4,h5,h6,h7,h8,h9,h10⟩:=cc
 cases X' with
 | mk a b c d e f g h i j k l m n o p q=>
  cases j
  dsimp only at *
  subst h1 h2 h3 h4 h5 h6 h7 h8 h9 h10
  rfl
section
variable {own : Nat->Bool} {X : Cx} {scope : Scope} {ownN : List Str} {elt iter tg c : Expr} {it : FI} {t : D->Res (List D)} {g : TG} {gc : FT} {fe : FE} {re : Bool} {pos : Pos} {n m : Nat}
theorem me_comp' (S : CompSc X.N X.env.scope scope ownN) (hn : X.N.length = n) (hm : ownN.length = m) (hcalm : X.calm = true) (hi : PI X tg iter (gI X.K it)) (ht : TgC g t n m) (hg : ∀ y,PG (mkC X scope ownN y) tg g) (he : ∀ y,PE (mkC X scope ownN y) elt (gE fe re))
  (hs : ∀ x,foldedSetIterable iter X.env x = pure x) : PE X (.ListComp elt [⟨tg,iter,[],0⟩] scope pos) (gE (bComp n it t bTrue fe re) true):=
 me_comp S hn hm hcalm hi ht (fun X' cc=>by obtain ⟨y,rfl⟩:=mkC_of cc;exact hg y) (fun X' cc=>by obtain ⟨y,rfl⟩:=mkC_of cc;exact he y) hs
theorem me_compif' (S : CompSc X.N X.env.scope scope ownN) (hn : X.N.length = n) (hm : ownN.length = m) (hcalm : X.calm = true) (hi : PI X tg iter (gI X.K it)) (ht : TgC g t n m) (hg : ∀ y,PG (mkC X scope ownN y) tg g) (hc : ∀ y,PT (mkC X scope ownN y) c (gT gc)) (he : ∀ y,PE (mkC X scope ownN y) elt (gE fe re))
  (hs : ∀ x,foldedSetIterable iter X.env x = pure x) : PE X (.ListComp elt [⟨tg,iter,[c],0⟩] scope pos) (gE (bComp n it t gc fe re) true):=
 me_compif S hn hm hcalm hi ht (fun X' cc=>by obtain ⟨y,rfl⟩:=mkC_of cc;exact hg y) (fun X' cc=>by obtain ⟨y,rfl⟩:=mkC_of cc;exact hc y) (fun X' cc=>by obtain ⟨y,rfl⟩:=mkC_of cc;exact he y) hs
theorem ms_compif' {y : Str} {py pos2 : Pos} {iy : Nat} {o : Bool} (S : CompSc X.N X.env.scope scope ownN) (hn : X.N.length = n) (hm : ownN.length = m) (hcalm : X.calm = true) (hi : PI X tg iter (gI X.K it)) (ht : TgC g t n m) (hg : ∀ y,PG (mkC X scope ownN y) tg g) (hc : ∀ y,PT (mkC X scope ownN y) c (gT gc)) (he : ∀ y,PE (mkC X scope ownN y) elt (gE fe re))
  (hs : ∀ x,foldedSetIterable iter X.env x = pure x) (ho : own iy = o) (hNn : X.N.Nodup) (hiy : X.N[iy]? = some y) (hxy : Loc X.env.scope y) (hfy : X.fn y = true\/X.env.scope.names.lookup y = some .local) (hsw : swapsWith (.ListComp elt [⟨tg,iter,[c],0⟩] scope pos) (some (.Name y py)) pos2.line X.env = pure true) :
  PS X (.Assign [.Name y py] (.ListComp elt [⟨tg,iter,[c],0⟩] scope pos) pos2) (tS own (sSet o iy (bComp n it t gc fe re) true)):=
 ms_compif S hn hm hcalm hi ht (fun X' cc=>by obtain ⟨y,rfl⟩:=mkC_of cc;exact hg y) (fun X' cc=>by obtain ⟨y,rfl⟩:=mkC_of cc;exact hc y) (fun X' cc=>by obtain ⟨y,rfl⟩:=mkC_of cc;exact he y) hs ho hNn hiy hxy hfy hsw
end
noncomputable def sBad : FS:=fun _=>.bad
theorem ms_bad {X : Cx} {own : Nat->Bool} {st : Stmt} : PS X st (tS own sBad):=fun pins s σ H D I h=>by
 obtain ⟨_,_,_,h,_⟩:=h
 cases h
noncomputable def CalOk (P : Program) (w : World) (K : PySem.W.Frag) (mg : Str->Option Value) (base : Heap) (k : Nat) (x : Str) (n : Nat) (f : List D->Res D) : Prop:=
 ∃ (fad : Addr) (fd : FuncData) (ps : List Str),FnOk P w K mg base CX0 k fad fd ps (spD f n)/\mg x = some (.ref fad)/\PySem.W.keepIn K (.ref fad) = true/\Binds K fd ps []
section
variable {X : Cx} {e : Expr} {es : List Expr} {pos p : Pos} {fs : FA} {rr : Bool} {x : Str} {k n : Nat} {f : List D->Res D}
theorem me_callC {k' : Nat} (C : CalOk X.prog X.w X.K X.mg X.base k x n f) (hr : Room k' X.A) (hkk : k<=k') (hg : Gl X x) (ha : PA X (e :: es) (gA fs rr)) (hdb : (x == ("__debug__" : Str)) = false:=by decide) (he : starEach (e :: es) X.env = (false,eval e X.env) :: starEach es X.env:=by rfl) (hpl : (backTo pos (starEach es X.env)).any (·.1) = false:=by rfl) :
  PE X (.Call (.Name x p) (e :: es) [] pos) (gE (bCall (argN n f) fs) true):=by
 obtain ⟨fad,fd,ps,F,hm,hk,hb⟩:=C
 exact me_call F (hr.mono hkk) hg hm hk hb ha hdb he hpl
theorem cal_mk {P : Program} {w : World} {K : PySem.W.Frag} {mg : Str->Option Value} {base : Heap} {st : Stmt} {fad : Addr} {fd : FuncData} {N ps : List Str} {fs : FS} (F : Fun K x x st fad fd) (hm : mg x = some (.ref fad)) (hb : Binds K fd ps []) (S : FnScope N ps (defScope st)) (own : Nat->Bool) (hown : ∀ i,i < ps.length->own i = false) (hNl : ps.length<=N.length)
  (hbody : ∀ (cdv : Value) (A : Around) (outer : List Env) (s : Shared) (H : Hp) (E : XK),Room k (A.deeper (envOfC x (defScope st) s.heap.objs.size fad cdv))->PSs (cxOf CX0 P w K mg base N x (defScope st) fad cdv A outer s H E).nox (defBody st) (tS own fs)) : CalOk P w K mg base (k + 1) x ps.length (fnS ps.length N.length fs):=
 ⟨fad,fd,ps,fn_ok F S own hown hNl hbody,hm,F.kp,hb⟩
end
theorem hu20 {A : Around} {k : Nat} (hr : Room k A) : A.units + 20 < cLine:=Nat.lt_of_le_of_lt (Nat.add_le_add_left (by decide : 20<=64) _) hr.units
structure Bt (mg : Str->Option Value) : Prop where
 len : mg "len" = none
 min : mg "min" = none
 max : mg "max" = none
 list : mg "list" = none
 tuple : mg "tuple" = none
 sorted : mg "sorted" = none
 range : mg "range" = none
 isi : mg "isinstance" = none
 int : mg "int" = none
 bool : mg "bool" = none
 str : mg "str" = none
 dict : mg "dict" = none
 all : mg "all" = none
 enum : mg "enumerate" = none
 sum : mg "sum" = none
 zip : mg "zip" = none
 abs : mg "abs" = none
 reversed : mg "reversed" = none
theorem vb_len : bootBuiltins "len" = some (.builtin "len"):=by decide +kernel
theorem vb_min : bootBuiltins "min" = some (.builtin "min"):=by decide +kernel
theorem vb_max : bootBuiltins "max" = some (.builtin "max"):=by decide +kernel
theorem vb_sorted : bootBuiltins "sorted" = some (.builtin "sorted"):=by decide +kernel
theorem vb_isinstance : bootBuiltins "isinstance" = some (.builtin "isinstance"):=by decide +kernel
theorem vb_list : bootBuiltins "list" = some (.type "list"):=by decide +kernel
theorem vb_tuple : bootBuiltins "tuple" = some (.type "tuple"):=by decide +kernel
theorem vb_int : bootBuiltins "int" = some (.type "int"):=by decide +kernel
theorem vb_bool : bootBuiltins "bool" = some (.type "bool"):=by decide +kernel
theorem ints_rep {P : Addr->Prop} {H : Hp} : ∀ ns : List Int,Reps P H (ns.map V.int) (ns.map D.int)
 | []=>.nil
 | n :: ns=>.cons (.int n) (ints_rep ns)
end Mi
namespace Mi
open PySem L2
theorem script_sp {K : PySem.W.Frag} {f : List D->Res D} {H : Hp} {a : Addr} {ns : List Int} {E : XK} (main : ∀ ns : List Int,ns.length<=63->f [.scr (ns.map D.int)] = .ok (.bl true)) (hl : ns.length<=63) (hO : Only H) (hS : SqL K H a (ns.map V.int)) : @spD ⟨K⟩ f 1 [.ref a] H (fun v _=>v = .bl true) E:=by
 letI : KFrag:=⟨K⟩
 refine ⟨[.scr (ns.map D.int)],.bl true,rfl,.cons (.frz ?_ (ints_rep ns)) .nil,main ns hl,fun v H' s r n=>by cases r;rfl⟩
 rcases hS with (h | ⟨o,h⟩) | h
 ·rcases hO a with z | ⟨o,xs,z⟩
  ·rw [h] at z;cases z
  ·rw [h] at z;cases z
 ·exact .inl ⟨o,h⟩
 ·exact .inr h
end Mi
end
section
set_option maxRecDepth 100000
namespace Mi
open PySem L2 PySem.SeqAt PySem.Spec PyProof.Rows
variable [KFrag]
section
variable {X : Cx}
section
variable {tg l a : Expr} {fl fa : FE} {rl ra : Bool} {p pos : Pos}
end
end
section
variable {X : Cx} {pos p : Pos} {x : Str} {k : Nat} {f : List D->Res D}
end
end Mi
end
section
set_option maxRecDepth 100000
namespace Mi
open PySem L2
theorem asB_bl (b : Bool) : asB (.bl b) = .ok b:=rfl
theorem lim_eq : lim = 1000000:=by unfold lim;exact Eq.refl _
theorem padD_self {n : Nat} {ρ : List D} (h : ρ.length = n) : padD n ρ = ρ:=by
 subst h
 apply List.ext_getElem
 ·simp [padD]
 ·intro i h1 h2
  simp [padD,h2]
theorem argN_ok {n : Nat} {f : List D->Res D} {ds : List D} (h : ds.length = n) : argN n f ds = f ds:=by
 unfold argN
 rw [if_pos (by simp [h])]
theorem b2_ok {f : D->D->Res D} {a b : FE} {ρ : List D} {x y z : D} (h1 : a ρ = .ok x) (h2 : b ρ = .ok y) (h3 : f x y = .ok z) : b2 f a b ρ = .ok z:=by
 unfold b2
 rw [h1,Res.ok_bind,h2,Res.ok_bind,h3]
theorem set_ok {i : Nat} {f : FE} {ρ : List D} {d : D} (h : f ρ = .ok d) : sSet false i f true ρ = .ok (.nx (ρ.set i d)):=by
 unfold sSet
 rw [h,Res.ok_bind]
 rfl
theorem setP_ok {i : Nat} {f : FE} {ρ : List D} {d : D} (h : f ρ = .ok d) (hp : d.pure = true) : sSet false i f false ρ = .ok (.nx (ρ.set i d)):=by
 unfold sSet
 rw [h,Res.ok_bind]
 simp only [hp,Bool.false_or,Bool.false_eq_true,if_false,if_true]
theorem setV_ok {i : Nat} {f : FE} {ρ : List D} {d : D} (h : f ρ = .ok d) (hp : inner d = true) : sSet true i f true ρ = .ok (.nx (ρ.set i d)):=by
 unfold sSet
 rw [h,Res.ok_bind]
 simp only [hp,Bool.and_self,if_true]
theorem al_ok {i j : Nat} {ρ : List D} {d : D} (h : bVar j ρ = .ok d) : sAl i j ρ = .ok (.nx (ρ.set i d)):=by
 unfold sAl
 rw [h,Res.ok_bind]
theorem seq_ok {f g : FS} {ρ ρ' : List D} {r : Res Fl} (h1 : f ρ = .ok (.nx ρ')) (h2 : g ρ' = r) : sSeq f g ρ = r:=by
 unfold sSeq
 rw [h1,Res.ok_bind]
 exact h2
theorem if_ok {c : FT} {f g : FS} {ρ : List D} {k : Bool} {r : Res Fl} (h1 : c ρ = .ok k) (h2 : (if k then f ρ else g ρ) = r) : sIf c f g ρ = r:=by
 unfold sIf
 rw [h1,Res.ok_bind]
 exact h2
theorem if_t {c : FT} {f g : FS} {ρ : List D} {r : Res Fl} (h1 : c ρ = .ok true) (h2 : f ρ = r) : sIf c f g ρ = r:=if_ok h1 (by rw [if_pos rfl];exact h2)
theorem if_f {c : FT} {f g : FS} {ρ : List D} {r : Res Fl} (h1 : c ρ = .ok false) (h2 : g ρ = r) : sIf c f g ρ = r:=if_ok h1 (by rw [if_neg (by simp)];exact h2)
theorem tb_ok {f : FE} {ρ : List D} {k : Bool} (h1 : f ρ = .ok (.bl k)) : bTB f ρ = .ok k:=by
 unfold bTB
 rw [h1,Res.ok_bind]
 rfl
theorem and_t {a b : FT} {ρ : List D} {r : Res Bool} (h1 : a ρ = .ok true) (h2 : b ρ = r) : bAnd a b ρ = r:=by
 unfold bAnd
 rw [h1,Res.ok_bind,if_pos rfl,h2]
theorem and_f {a b : FT} {ρ : List D} (h1 : a ρ = .ok false) : bAnd a b ρ = .ok false:=by
 unfold bAnd
 rw [h1,Res.ok_bind,if_neg (by simp)]
 rfl
theorem ch_t {f g : D->D->Res D} {a b c : FE} {ρ : List D} {x y z : D} {r : Res D} (h1 : a ρ = .ok x) (h2 : b ρ = .ok y) (h3 : f x y = .ok (.bl true)) (h4 : c ρ = .ok z) (h5 : g y z = r) : bCh f g a b c ρ = r:=by
 unfold bCh
 rw [h1,Res.ok_bind,h2,Res.ok_bind,h3,Res.ok_bind,asB_bl,Res.ok_bind,if_pos rfl,h4,Res.ok_bind,h5]
theorem ch_f {f g : D->D->Res D} {a b c : FE} {ρ : List D} {x y : D} (h1 : a ρ = .ok x) (h2 : b ρ = .ok y) (h3 : f x y = .ok (.bl false)) : bCh f g a b c ρ = .ok (.bl false):=by
 unfold bCh
 rw [h1,Res.ok_bind,h2,Res.ok_bind,h3,Res.ok_bind,asB_bl,Res.ok_bind,if_neg (by simp)]
 rfl
theorem cons_ok {a : FE} {b : FA} {ρ : List D} {x : D} {xs : List D} (h1 : a ρ = .ok x) (h2 : b ρ = .ok xs) : bCons a b ρ = .ok (x :: xs):=by
 unfold bCons
 rw [h1,Res.ok_bind,h2,Res.ok_bind]
 rfl
theorem call_ok {f : List D->Res D} {a : FA} {ρ : List D} {xs : List D} {d : D} (h1 : a ρ = .ok xs) (h2 : f xs = .ok d) : bCall f a ρ = .ok d:=by
 unfold bCall
 rw [h1,Res.ok_bind,h2]
theorem tup_ok {a : FA} {ρ : List D} {xs : List D} (h : a ρ = .ok xs) (hl : xs.length<=lim) : bTup a ρ = .ok (.tup xs):=by
 unfold bTup
 rw [h,Res.ok_bind,if_pos (decide_eq_true hl)]
 rfl
theorem ret_ok {f : FE} {ρ : List D} {d : D} {k : Bool} (h : f ρ = .ok d) (hp : (k || d.pure) = true) : sRet f k ρ = .ok (.rt d):=by
 unfold sRet
 rw [h,Res.ok_bind,if_pos hp]
theorem for_ok {it : FI} {t : D->List D->Res (List D)} {body : FS} {ρ : List D} {xs : List D} {r : Res Fl} (h1 : it ρ = .ok (xs,true)) (h2 : forS t body xs ρ = r) : sFor it t body ρ = r:=by
 unfold sFor
 rw [h1,Res.ok_bind]
 exact h2
theorem forV_ok {i : Nat} {t : D->List D->Res (List D)} {body : FS} {ρ : List D} {d : D} {xs : List D} {r : Res Fl} (h1 : bVar i ρ = .ok d) (h2 : itemsD d = .ok xs) (h3 : forS t body xs ρ = r) : sForV i t body ρ = r:=by
 unfold sForV
 rw [h1,Res.ok_bind,h2,Res.ok_bind]
 exact h3
theorem rng_ok {f : FA} {ρ : List D} {n : Int} (h : f ρ = .ok [.int n]) (h1 : 0<=n) (h2 : n<=1000000) : bThen f rng1D ρ = .ok ((List.range n.toNat).map fun (k : Nat)=>D.int (0 + (k : Int)),true):=by
 unfold bThen
 rw [h,Res.ok_bind]
 have : bound62 n = true:=by
  simp only [bound62,Bool.and_eq_true,decide_eq_true_eq]
  lia
 simp only [rng1D,this,if_true]
theorem put_ok {i : Nat} {f g : FE} {ρ : List D} {kvs : List (D × D)} {k d : D} (h1 : g ρ = .ok d) (h2 : f ρ = .ok k) (h3 : ρ.getD i .undef = .dct kvs) (h4 : kvs.length < lim) (h5 : fitK kvs k = true) (h6 : d.pure = true) : sPut i f g ρ = .ok (.nx (ρ.set i (.dct (putD kvs k d)))):=by
 unfold sPut
 rw [h1,Res.ok_bind,h2,Res.ok_bind,h3]
 simp only [decide_eq_true h4,h5,h6,Bool.and_self,if_true]
theorem ins_ok {i : Nat} {f g : FE} {ρ : List D} {xs : List D} {j : Int} {d : D} (h1 : f ρ = .ok (.int j)) (h2 : g ρ = .ok d) (h3 : ρ.getD i .undef = .lst xs) (h4 : xs.length < lim) (h5 : d.pure = true) (h6 : 0<=j) (h7 : j<=xs.length) : sIns i f g ρ = .ok (.nx (ρ.set i (.lst (xs.take j.toNat ++ d :: xs.drop j.toNat)))):=by
 unfold sIns
 rw [h1,Res.ok_bind,h2,Res.ok_bind,h3]
 simp only [decide_eq_true h4,h5,decide_eq_true h6,decide_eq_true h7,Bool.and_self,if_true]
theorem app_ok {i : Nat} {f : FE} {ρ : List D} {xs : List D} {d : D} (h1 : f ρ = .ok d) (h3 : ρ.getD i .undef = .lst xs) (h4 : xs.length < lim) (h5 : d.pure = true) : sApp i f ρ = .ok (.nx (ρ.set i (.lst (xs ++ [d])))):=by
 unfold sApp
 rw [h1,Res.ok_bind,h3]
 simp only [decide_eq_true h4,h5,Bool.and_self,if_true]
theorem fors_cons {t : D->List D->Res (List D)} {body : FS} {x : D} {xs : List D} {ρ ρ1 ρ2 : List D} {r : Res Fl} (h1 : t x ρ = .ok ρ1) (h2 : body ρ1 = .ok (.nx ρ2)) (h3 : forS t body xs ρ2 = r) : forS t body (x :: xs) ρ = r:=by
 rw [forS,h1,Res.ok_bind,h2,Res.ok_bind]
 exact h3
theorem lst_get (L : List D) (i : Int) (h0 : 0<=i) (h1 : i < L.length) : ∃ (h : i.toNat < L.length),getD (.lst L) (.int i) = .ok L[i.toNat]:=by
 have hlt : i.toNat < L.length:=by lia
 refine ⟨hlt,?_⟩
 show Res.ofOpt ((ixD L.length i).bind fun j=>L[j]?) = _
 unfold ixD
 rw [if_pos h0,if_pos h1]
 simp only [Option.bind_some]
 rw [List.getElem?_eq_getElem hlt]
 rfl
theorem len_ok (L : List D) : lenD [.lst L] = .ok (.int L.length):=rfl
theorem comp_ok {n : Nat} {it : FI} {t : D->Res (List D)} {c : FT} {f : FE} {k kk : Bool} {ρ : List D} {xs ys : List D} (h1 : it ρ = .ok (xs,kk)) (h2 : xs.length<=lim) (h3 : cfold (cstep n t c f k ρ) [] xs = .ok ys) : bComp n it t c f k ρ = .ok (.lst ys):=by
 unfold bComp
 rw [h1,Res.ok_bind]
 simp only [decide_eq_true h2,if_true]
 rw [h3]
 rfl
theorem items_ok {a : FE} {fr : Bool} {ρ : List D} {d : D} {xs : List D} (h1 : a ρ = .ok d) (h2 : itemsD d = .ok xs) : bItems a fr ρ = .ok (xs,fr || d.pure):=by
 unfold bItems
 rw [h1,Res.ok_bind,h2,Res.ok_bind]
 rfl
theorem cstep_one {n : Nat} {c : FT} {f : FE} {k : Bool} {ρ acc : List D} {x y : D} {b : Bool} (hρ : ρ.length = n) (h1 : c (ρ ++ [x]) = .ok b) (h2 : b = true->f (ρ ++ [x]) = .ok y/\(k || y.pure) = true) : cstep n oneT c f k ρ acc x = .ok (if b then acc ++ [y] else acc):=by
 unfold cstep
 show (do let ok <- c (padD n ρ ++ [x]);_) = _
 rw [padD_self hρ,h1,Res.ok_bind]
 cases b with
 | true=>
  obtain ⟨e1,e2⟩:=h2 rfl
  rw [if_pos rfl,e1,Res.ok_bind,if_pos e2,if_pos rfl]
  rfl
 | false=>
  rw [if_neg (by simp),if_neg (by simp)]
  rfl
theorem cfold_map {α : Type} (g : List D->D->Res (List D)) (d : α->D) (p : α->Bool) (y : α->D) (h : ∀ acc a,g acc (d a) = .ok (if p a then acc ++ [y a] else acc)) : ∀ (xs : List α) (acc : List D),cfold g acc (xs.map d) = .ok (acc ++ (xs.filter p).map y)
 | [],acc=>by simp [cfold]
 | x :: xs,acc=>by
  rw [List.map_cons,cfold,h]
  show cfold g _ _ = _
  rw [cfold_map g d p y h xs]
  by_cases hp : p x
  ·simp [hp]
  ·simp [hp]
theorem add_ok (a b : Int) : binD .add (.int a) (.int b) = .ok (.int (a + b)):=rfl
theorem mul_ok (a b : Int) (h : smallB b = true) : binD .mul (.int a) (.int b) = .ok (.int (a * b)):=by
 simp only [binD,h,Bool.or_true,if_true]
theorem mul_okL (a b : Int) (h : smallB a = true) : binD .mul (.int a) (.int b) = .ok (.int (a * b)):=by
 simp only [binD,h,Bool.true_or,if_true]
theorem fdiv_ok (a b : Int) (h1 : 0 < b) (h2 : b < 1073741824) : binD .fdiv (.int a) (.int b) = .ok (.int (a / b)):=by
 simp only [binD,decide_eq_true h1,decide_eq_true h2,Bool.and_self,if_true]
theorem mod_ok (a b : Int) (h1 : 0 < b) : binD .mod (.int a) (.int b) = .ok (.int (a % b)):=by
 simp only [binD,decide_eq_true h1,if_true]
theorem small_ok (a : Int) (h1 : -1000000<=a) (h2 : a<=1000000) : smallB a = true:=by
 simp only [smallB,Bool.and_eq_true,decide_eq_true_eq]
 lia
theorem str_add (a b : Str) (h : a.length + b.length<=lim) : binD .add (.str a) (.str b) = .ok (.str (a ++ b)):=by
 simp only [binD,decide_eq_true h,if_true]
theorem str_len (a b : Str) : (a ++ b).length = a.length + b.length:=by
 show (a.cps ++ b.cps).size = _
 rw [Array.size_append]
 rfl
theorem add_lst (a b : List D) (h : a.length + b.length<=lim) (ha : D.pures a = true) (hb : D.pures b = true) : binD .add (.lst a) (.lst b) = .ok (.lst (a ++ b)):=by
 simp only [binD,decide_eq_true h,ha,hb,Bool.and_self,if_true]
theorem pow_ok (n : Nat) (h : n<=1000) : binD .pow (.int 10) (.int n) = .ok (.int (10 ^ n)):=by
 have h1 : decide ((0 : Int)<=(n : Int)) = true:=by simp
 have h2 : decide ((n : Int)<=1000000) = true:=by simp;lia
 have h3 : decide ((10 : Int).natAbs < 2 ^ 64) = true:=by decide
 simp only [binD,h1,h2,h3,Bool.and_self,if_true,Int.toNat_natCast]
theorem pures_ints (S : List Int) : D.pures (S.map D.int) = true:=by
 induction S with
 | nil=>rfl
 | cons q Q ih=>rw [List.map_cons,D.pures,ih];rfl
theorem cut_map (ns : List Int) (lo hi : Option Int) : cutD (ns.map D.int) lo hi = (cutD ns lo hi).map D.int:=by
 unfold cutD
 rw [List.length_map,List.map_take,List.map_drop]
theorem cut_len (ns : List Int) (lo hi : Option Int) : (cutD ns lo hi).length<=ns.length:=by
 unfold cutD
 exact Nat.le_trans (List.length_take_le' ..) (by rw [List.length_drop];lia)
end Mi
end
section
set_option maxRecDepth 100000
namespace Mi
open PySem L2 PySem.SeqAt PySem.Spec PyProof.Rows
theorem objOk_there {P : Program} {w : World} {H : Hp} {h : Heap} {a : Addr} {o : HO} (x : ObjOk P w H h a o) : ∃ ob,h.get? a = some ob:=by
 cases o with
 | lst xs=>obtain ⟨_,_,_,_,e⟩:=x;exact ⟨_,e⟩
 | tup xs=>obtain ⟨_,_,_,_,e,_⟩:=x;exact ⟨_,e⟩
 | dK kvs=>obtain ⟨_,_,_,_,o,_,_,e,_⟩:=x;exact ⟨_,e⟩
 | dT kvs=>obtain ⟨_,_,_,_,o,_,_,e,_⟩:=x;exact ⟨_,e⟩
 | set S n=>obtain ⟨o,_,_,_,e,_⟩:=x;exact ⟨_,e⟩
 | ins C dx fs=>obtain ⟨_,_,_,e,_⟩:=x;exact ⟨_,e⟩
 | own y=>exact x
 | xd fs=>obtain ⟨_,⟨_,_,_,e,_⟩,_⟩:=x;exact ⟨_,e⟩
 | rng lo hi=>obtain ⟨_,_,_,e⟩:=x;exact ⟨_,e⟩
 | frz ob u=>obtain ⟨e,_⟩:=x;exact ⟨_,e⟩
 | tbl ps=>exact ⟨_,show h.get? a = some _ from x⟩
 | met f y=>exact ⟨_,show h.get? a = some _ from x⟩
 | ext φ=>obtain ⟨_,e,_⟩:=x;exact e
noncomputable def CX1 (P : Program) (w : World) (C : Addr) : CXT:=fun outer H s E e s'=>∃ (a t : Addr) (H1 : Hp) (B : Heap),e = .ref a/\s'.os = s.os/\AllBare s'.gens/\Heap.FlyingW B outer a (.ref C) (.ref t) s'.heap/\
 (∀ h6 : Heap,B.StaysIn h6->s'.heap.UpToSlots h6->Un (L2.frs outer) [] H H1 s.heap h6/\HOk P w H1 h6)/\H1 a = none/\s.heap.get? a = none/\E (.ref C) none H1
section
variable {P : Program} {w : World} {K : PySem.W.Frag} {mg : Str->Option Value} {base : Heap} {N : List Str} {qual : Str} {scope : Scope} {f C : Addr} {cd : Value} {A : Around} {outer : List Env} {s : Shared} {H : Hp} {E : XK}
theorem raise_cx {pins : List (Addr × Obj)} {σ : L2.St} {H1 : Hp} {s1 : Shared} (I : Inv (cxOf (CX1 P w C) P w K mg base N qual scope f cd A outer s H E) pins σ H1 s1) {h2 : Heap} {e : Addr} {args : List Value} (hx : Heap.MadeExcOf s1.heap h2 e (.ref C) args) (hE : E (.ref C) none H1) :
  (cxOf (CX1 P w C) P w K mg base N qual scope f cd A outer s H E).xe (.ref e) { s1 with heap:=h2 }:=by
 let env:=envOfC qual scope s.heap.objs.size f cd
 have hfr : L2.frs (env :: outer) = s.heap.objs.size :: L2.frs outer:=by
  unfold L2.frs
  rw [List.filterMap_cons]
  rfl
 have hin : ∀ v ∈ (env :: outer),∀ b,v.frame = some b->b ∈ L2.frs (env :: outer):=fun v hv b hb=>List.mem_filterMap.mpr ⟨v,hv,hb⟩
 have stk : s1.heap.FunFrames base (env :: outer):=I.stack
 have sfree : ∀ b ∈ L2.frs (env :: outer),H1 b = none:=I.stkFree
 have u0 : Un (L2.frs outer) [] H H1 s.heap s1.heap:=I.base
 show wpAny (model P w) (A.deeper env) (leaving env (.ref e)) (fun _ s''=>CX1 P w C outer H s E (.ref e) s'') (fun e' s''=>CX1 P w C outer H s E e' s'') { s1 with heap:=h2 }
 refine wpAny_leaves_madeW (base:=PySem.W.hideAll s1.heap (L2.frs (env :: outer))) (L:=s.heap.objs.size) (h:=s1.heap) I.ok.frames rfl (fun b o q=>PySem.W.of_hideAll _ q) (PySem.W.funFrames_hide stk hin) hx fun h' t x1 x2 x3 x4=>?_
 have hgone : s.heap.get? e = none:=by
  cases q : s.heap.get? e with
  | none=>rfl
  | some o=>
   obtain ⟨o',e1⟩:=u0.there e o q (by simp)
   rw [hx.new] at e1
   cases e1
 have huntr : H1 e = none:=by
  cases q : H1 e with
  | none=>rfl
  | some u=>
   obtain ⟨o,e1⟩:=objOk_there (I.hok e u q)
   rw [hx.new] at e1
   cases e1
 refine ⟨e,t,H1,_,rfl,I.os,I.bare,x1,fun h6 st up=>?_,huntr,hgone,hE⟩
 have k : ∀ b o,s1.heap.get? b = some o->b ∉ L2.frs (env :: outer)->h6.get? b = some o:=fun b o eb hb=>st b o (PySem.W.hideAll_get _ eb hb)
 have up6 : s1.heap.UpToSlots h6:=((Heap.UpToSlots.of_keeps hx.keeps).trans x4).trans up
 have nL : ∀ b o,s.heap.get? b = some o->b ∉ L2.frs outer->b ∉ L2.frs (env :: outer):=fun b o eb hb z=>by
  rw [hfr] at z
  rcases List.mem_cons.mp z with z | z
  ·exact absurd (Heap.lt_size eb) (by rw [z];exact Nat.lt_irrefl _)
  ·exact hb z
 have slot : ∀ b o,s1.heap.get? b = some o->b ∈ L2.frs outer->∃ sl,h6.get? b = some { o with slots:=sl }:=fun b o eb hb=>by
  obtain ⟨_,o',ho',hd⟩:=stk.mem (show b ∈ L2.frs (env :: outer) by rw [hfr];exact List.mem_cons_of_mem _ hb)
  rw [eb] at ho'
  cases ho'
  exact up6 b o eb hd
 refine ⟨⟨fun b o eb hn hb hx'=>k b o (u0.keep b o eb hn hb hx') (nL b o eb hb),fun b o eb hn hb hx'=>?_,fun b o eb hn hx'=>u0.free b o eb hn hx',fun b o eb hx'=>?_,u0.tups,u0.frzs,u0.tbls⟩,fun b u eb=>?_⟩
 ·obtain ⟨sl,e1⟩:=u0.slot b o eb hn hb hx'
  obtain ⟨sl',e2⟩:=slot b _ e1 hb
  exact ⟨sl',e2⟩
 ·obtain ⟨o',e1⟩:=u0.there b o eb hx'
  by_cases hb : b ∈ L2.frs outer
  ·obtain ⟨sl,e2⟩:=slot b o' e1 hb
   exact ⟨_,e2⟩
  ·exact ⟨o',k b o' e1 (nL b o eb hb)⟩
 ·refine (I.hok b u eb).stay (fun c v hc q=>k c v q fun z=>?_) (fun _ q=>q) fun _ _ q=>q
  have:=sfree c z
  rcases hc with hc | hc
  ·rw [hc,eb] at this;cases this
  ·rw [hc] at this;cases this
end
theorem exc_obj {K : PySem.W.Frag} {h : Heap} {C : Addr} {bmB : List Value} {newId : String} (X : K.In h) (q : PySem.W.excIn K C bmB newId = true) :
  ∃ bm N nm qn bs hdct sn sub ab col dd k0 k1 k2 k3 k5 mN,h.get? C = some (excClassObj nm qn C N bs bm hdct sn sub ab col dd k0 k1 k2 k3 k5 newId)/\h.Ns N mN/\mN "__init__" = none/\OwnTail h bmB bm:=by
 unfold PySem.W.excIn at q
 split at q
 ·rename_i dd cd sl ho
  split at q
  ·rename_i C' bm k0 k1 k2 k3 n k5 hm hs
   rw [Bool.and_eq_true,Bool.and_eq_true,Bool.and_eq_true,Bool.and_eq_true,Bool.and_eq_true] at q
   obtain ⟨⟨⟨⟨⟨q1,q2⟩,q3⟩,q4⟩,q5⟩,q6⟩:=q
   have q1:=beq_iff_eq.mp q1
   have q2:=beq_iff_eq.mp q2
   rw [Bool.not_eq_true'] at q3
   subst q1 q2
   obtain ⟨nm,bs,mro,ns,qn,hd,sn,sub,ab,col,del⟩:=cd
   obtain ⟨l⟩:=sl
   dsimp only at hm q3 q5 q6 hs
   subst hm q3 hs
   exact ⟨bm,ns,nm,qn,bs,hd,sn,sub,ab,col,dd,k0,k1,k2,k3,k5,_,X _ _ ho,.of_isNs (PySem.W.isNs_of_in X q5),PySem.W.nsMap_none_of_in X q5 (beq_iff_eq.mp q6),PySem.W.tail_of_in X q4⟩
  ·cases q
 ·cases q
abbrev vMro : List Value:=[.type "ValueError",.type "Exception",.type "BaseException",.type "object"]
theorem ps_raise {X : Cx} {x : Str} {C : Addr} {np cpos pos : Pos} {e : Expr} {ta : TA} (hc : X.calm = true) (hg : Gl X x) (hm : X.mg x = some (.ref C)) (hq : PySem.W.excIn X.K C vMro "ValueError.__new__" = true) (ha : PA X [e] ta)
  (he : starEach [e] X.env = [(false,eval e X.env)]:=by rfl) (hd : (x == ("__debug__" : Str)) = false:=by decide) :
  PS X (.Raise (some (.Call (.Name x np) [e] [] cpos)) none pos) (fun D σ H=>ta σ H fun vs H1=>vs.length<=sizeLine/\∀ (pins : List (Addr × Obj)) (s : Shared) (h2 : Heap) (a : Addr) (us : List Value),Inv X pins σ H1 s->Heap.MadeExcOf s.heap h2 a (.ref C) us->X.xe (.ref a) { s with heap:=h2 }):=by
 intro pins s σ H D I h
 obtain ⟨bm,N,nm,qn,bs,hdct,sn,sub,ab,col,dd,k0,k1,k2,k3,k5,mN,hC,hN,hni,T⟩:=exc_obj I.mod.kin hq
 refine wpAny_Raise_call_subT (C:=C) (nm:=nm) (q:=qn) (N:=N) (bs:=bs) (bm:=bm) (hdct:=hdct) (sn:=sn) (sub:=sub) (ab:=ab) (col:=col) (dd:=dd) (k0:=k0) (k1:=k1) (k2:=k2) (k3:=k3) (k5:=k5)
  PySem.F.excBase_ValueError (mN:=mN) (T.hasType PySem.F.excBase_ValueError.hasBase) (I.ok.hd hc) (by rw [he];rfl) hni (ld_glob I hg hm ⟨rfl,?_⟩ hd)
 rw [he]
 have h':=ha cpos pins s σ H _ I h
 rw [he] at h'
 refine Calls.evalArgs_plain (wpAny_mono h' (fun us s2 ⟨vs,H1,I1,r,hl,hx⟩=>⟨rfl,by rw [<- r.length];exact hl,I1.bk _ _ hC,hN.keeps I1.bk,T.keeps I1.bk,fun h2 a hm=>hx pins s2 h2 a us I1 hm⟩) fun _ _ y=>y)
section
variable [KFrag]
theorem PS.nox {X : Cx} {st : Stmt} {t : TS} (h : PS X.nox st t) : PS X st t:=fun pins s σ H D I hw=>
 wpAny_mono (h pins s σ H D (I.wish _) hw) (fun _ _ q=>SP.unwish q) fun _ _ z=>False.elim z
noncomputable def spX (f : FS) (m n : Nat) (C : Addr) : Sp:=fun vs H _ E=>∃ ds ρ',ds.length = n/\Reps All H vs ds/\f (ds ++ List.replicate (m - n) .undef) = .ok (.nx ρ')/\∀ H',Same H H'->E (.ref C) none H'
theorem fn_raise {P : Program} {w : World} {K : PySem.W.Frag} {mg : Str->Option Value} {base : Heap} {x qual : Str} {st : Stmt} {fad C : Addr} {fd : FuncData} {N ps : List Str} {k : Nat} {f : FS} (F : Fun K x qual st fad fd) (S : FnScope N ps (defScope st)) (own : Nat->Bool) (hown : ∀ i,i < ps.length->own i = false) (hNl : ps.length<=N.length)
  (hbody : ∀ (cdv : Value) (A : Around) (outer : List Env) (s : Shared) (H : Hp) (E : XK),Room k (A.deeper (envOfC qual (defScope st) s.heap.objs.size fad cdv))->∃ s1 s2,defBody st = [s1,s2]/\PS (cxOf CX0 P w K mg base N qual (defScope st) fad cdv A outer s H E).nox s1 (tS own f)/\
   PS (cxOf (CX1 P w C) P w K mg base N qual (defScope st) fad cdv A outer s H E) s2 (fun _ _ H1=>E (.ref C) none H1)) : FnOk P w K mg base (CX1 P w C) (k + 1) fad fd ps (spX f N.length ps.length C):=by
 obtain ⟨oc,od,kV,doc,pm,an,cdv,ct,osl,rfl,lk,hcd⟩:=F.ex
 refine fn_of lk hcd S (fun vs H Q E ⟨ds,ρ',h1,r,_⟩=>by rw [r.length,h1]) fun A outer s H vs Q E hr ⟨ds,ρ',hl,r,h,q⟩=>?_
 obtain ⟨s1,s2,hb,p1,p2⟩:=hbody cdv A outer s H E hr
 rw [hb]
 have p1'' : PS (cxOf (CX1 P w C) P w K mg base N qual (defScope st) fad cdv A outer s H E) s1 (tS own f):=PS.nox p1
 refine ⟨_,pss_cons p1'' (pss_one p2),?_⟩
 have hst : start N vs = vs.map some ++ List.replicate (N.length - ps.length) none:=by
  show vs.map some ++ List.replicate (N.length - vs.length) none = _
  rw [r.length,hl]
 have noown : ∀ a,¬ Own own (start N vs) a:=fun a ⟨i,hi,e⟩=>by
  rw [hst] at e
  by_cases h : i < ps.length
  ·rw [hown i h] at hi;cases hi
  ·rw [List.getElem?_append_right (by simp [r.length,hl];lia)] at e
   rw [List.getElem?_replicate] at e
   split at e <;> cases e
 refine ⟨_,.nx ρ',es_start hst hl r hown noown,h,fun σ' H' kk _=>q H' fun a o e=>(kk a o e (noown a)).1⟩
end
end Mi
end
section
set_option maxRecDepth 100000
namespace Mi
open PySem L2 PySem.W PySem.SeqAt PySem.Spec PyProof.Rows PySem.Builtin PySem.Builtin.ObjectAttr PySem.Builtin.Getset_descriptor
noncomputable def ExcAt (a C : Addr) (h : Heap) : Prop:=∃ o,h.get? a = some o/\o.cls = .ref C
structure XC (K : Frag) (C : Addr) : Prop where
 cl : (clsIn K C).isSome = true
 ga : findIn K (.ref C) "__getattribute__" = some (some (.builtin "BaseException.__getattribute__"))
 gh : findIn K (.ref C) "__getattr__" = some none
 kc : findIn K (.ref C) "__class__" = some (some (.builtin "object.__class__"))
 kg : specialIn K (.builtin "object.__class__") "__get__" = some (some (.builtin "getset_descriptor.__get__"))
 kt : takesIn K (.builtin "object.__class__") = some true
 ob : mroIn K C (.type "object") = some true
 be : mroIn K C (.type "BaseException") = some true
section
variable {prog : Program} {w : World} {A : Around} {E : Value->Shared->Prop} {s : Shared} {K : Frag} {x C : Addr}
theorem exc_ty {M : Model} {h : Heap} (p : ExcAt x C h) : Looks M h (typeOf (.ref x)) (.ref C):=by
 obtain ⟨o,h1,h2⟩:=p
 rw [<- h2];exact (Looks.ld h1).andThen .now
theorem exc_find {M : Model} {h : Heap} (X : K.In h) (c : XC K C) : Looks M h (find (.ref x) (.ref C) "__class__") (.bind (.builtin "getset_descriptor.__get__") (.builtin "object.__class__")):=by
 refine (looks_findIn (M:=M) X c.kc).andThen ((looks_specialIn (M:=M) X c.kg).andThen ?_)
 have L : Looks M h (dataDescriptor? (some (.builtin "object.__class__")) (some (.builtin "getset_descriptor.__get__"))) (some (.builtin "getset_descriptor.__get__",.builtin "object.__class__")):=(looks_takesIn (M:=M) X c.kt).andThen .now
 exact L.andThen (Looks.tag .now)
theorem exc_get {R : Result->Shared->Prop} {tp : Value} (X : K.In s.heap) (p : ExcAt x C s.heap) (c : XC K C) (h : R (.ok (.ret (.ref C))) s) :
  codeAny (model prog w) A (.call (.builtin "getset_descriptor.__get__") ⟨[.builtin "object.__class__",.ref x,tp],[]⟩) R s:=by
 obtain ⟨hh,g,d,t,os⟩:=s
 have L0:=exc_ty (M:=model prog w) p
 have L1:=looks_mroIn (M:=model prog w) X c.ob
 refine codeAny_call_builtin KF.slot_gs.plain KF.entry_gs (KF.slot_gs.check _ _ _ _ _ _ _ _ KF.type_class (KF.args_gs _ _ _) ?_)
 (unfold Builtin.«getset_descriptor.__get__» descrGet;rw [dga_obj];refine wpAny_bind (wpAny_pure ?_);unfold descrGetter descrCheckInstance descrNameAndClass isInstance;simp only [KF.owner_class])
 repeat lk
 refine ⟨Code.quiet_builtin _ (by decide +kernel),codeAny_builtin KF.entry_class ?_⟩
 (unfold Builtin.«object.__class__» shownTypeOf;repeat lk)
 exact h
theorem exc_entry {tk : Tok} {Q : Fin->Shared->Prop} (X : K.In s.heap) (p : ExcAt x C s.heap) (c : XC K C) (h : Q (.done (.ret (.ref C))) s) :
  wpAny (model prog w) A (Builtin.«object.__getattribute__» ⟨[.ref x,.str "__class__" tk],[]⟩) Q E s:=by
 obtain ⟨hh,g,d,t,os⟩:=s
 have L0:=exc_ty (M:=model prog w) p
 have L1:=exc_find (M:=model prog w) (x:=x) X c
 unfold Builtin.«object.__getattribute__»
 refine wpAny_bind (wpAny_pure ?_)
 refine wpAny_bind (wpAny_pure ?_)
 refine wpAny_bind (L0.at (wpAny_bind (L1.at ?_)))
 show wpAny _ _ (holding [_] (call _ [_,.ref x,.ref C]) >>= ret) _ _ _
 exact wpAny_bind (wpAny_holding (wpAny_call (exc_get X p c (wpAny_pure h))))
theorem exc_check {M : Model} {nv : Value} {Q : Unit->Shared->Prop} (X : K.In s.heap) (p : ExcAt x C s.heap) (c : XC K C) (h : Q () s) : wpAny M A (checkBuiltinCall "BaseException.__getattribute__" ⟨[.ref x,nv],[]⟩) Q E s:=by
 obtain ⟨hh,g,d,t,os⟩:=s
 have L0 : Looks M hh (isInstance (.ref x) (.type "BaseException")) true:=(exc_ty (M:=M) p).andThen (looks_mroIn (M:=M) X c.be)
 have e1 : builtinKind "BaseException.__getattribute__" = some .slot:=by decide +kernel
 have e2 : splitId "BaseException.__getattribute__" = some ("BaseException", "__getattribute__"):=by decide +kernel
 have ha:=F.args_bexc_ga (.ref x) nv
 simp only [checkBuiltinCall,e1,e2]
 refine wpAny_bind (L0.at ?_)
 repeat (any_goals (first | assumption | wp_step))
theorem exc_cls {Q : Option Value->Shared->Prop} (X : K.In s.heap) (p : ExcAt x C s.heap) (c : XC K C) (h : Q (some (.ref C)) { s with toks:=s.toks + 1 }) : wpAny (model prog w) A (getAttr? (.ref x) "__class__") Q E s:=by
 obtain ⟨hh,g,d,t,os⟩:=s
 have L0:=exc_ty (M:=model prog w) p
 have L1:=looks_findIn (M:=model prog w) X c.ga
 have L2:=looks_findIn (M:=model prog w) X c.gh
 have e2 : (Value.builtin "BaseException.__getattribute__" == Value.builtin "object.__getattribute__") = false:=by decide +kernel
 have e1 : (onTheHeap (Value.ref C) && Value.builtin "BaseException.__getattribute__" == Value.builtin "object.__getattribute__") = false:=by rw [e2];rfl
 unfold getAttr? getAttrBy? getAttrBy
 refine wpAny_bind (wpAny_mkText (wpAny_bind (wpAny_attempt (wpAny_holding (wpAny_bind (L0.at (wpAny_bind (L1.at ?_))))))))
 dsimp only
 rw [e1,if_neg (by decide)]
 unfold getAttrByItsOwn hookBefore callGetattribute boundAndCalled
 rw [if_pos (show onTheHeap (Value.ref C) = true from rfl)]
 refine wpAny_bind (L2.at (wpAny_bind (wpAny_attempt (wpAny_holding ?_))))
 rw [if_neg (by decide)]
 refine wpAny_bind (wpAny_of_eq (F.excAttr_ValueError.ga.bind (.ref x)) ?_)
 refine wpAny_call (codeAny_call_builtin F.excAttr_ValueError.ga.plain F.entry_bexc_ga (exc_check (K:=K) (C:=C) X p c (exc_entry (K:=K) (C:=C) X p c ?_)))
 show wpAny _ _ (handedOut (.ref C)) _ _ _
 exact wpAny_pure (wpAny_pure h)
theorem kitx_exc (c : XC K C) : KitX K (.ref x) (.ref C) (ExcAt x C) where
 ty:=fun _ _ _ p=>exc_ty p
 it:=fun M h X _=>by
  obtain ⟨cd,hc⟩:=Option.isSome_iff_exists.mp c.cl
  unfold clsIn at hc
  split at hc
  ·rename_i ho
   intro A' Q' E' s' k q
   (unfold isType loadHead;exact wpAny_bind (wpAny_loadPart (k _ _ (X _ _ ho)) (wpAny_pure q)))
  ·cases hc
 ne:=fun h tp dd its n sl X e=>by
  obtain ⟨cd,hc⟩:=Option.isSome_iff_exists.mp c.cl
  unfold clsIn at hc
  split at hc
  ·rename_i ho
   refine Bool.eq_false_iff.mpr fun q=>?_
   have z : C = tp:=Value.ref.inj (beq_iff_eq.mp q)
   subst z
   cases (X _ _ ho).symm.trans e
  ·cases hc
 ca:=fun X p h=>exc_cls X p c h
end
end Mi
end
section
set_option maxRecDepth 100000
namespace Mi
open PySem L2 PySem.W PySem.SeqAt PySem.Spec PyProof.Rows
noncomputable abbrev mrk (X : Cx) (v : Value) : Cx:={ X with A:=X.A.mark (some v),calm:=false }
section
variable {X : Cx} {pins : List (Addr × Obj)} {σ : L2.St} {H H1 H2 : Hp} {s : Shared} {h h6 : Heap} {a : Addr}
theorem inv_mrk (I : Inv X pins σ H s) (v : Value) : Inv (mrk X v) pins σ H s:=
 ⟨⟨I.ok.mod,I.ok.kind,I.ok.glob,I.ok.blt,I.ok.above,I.ok.inj,I.ok.has,I.ok.cab,(fun z=>nomatch z),I.ok.frames,I.ok.stk,I.ok.exf,I.ok.bs,I.ok.bsz,I.ok.noex,I.ok.exfs,I.ok.funs,I.ok.frf⟩,I.os,I.bare,I.base,I.loc,I.cell,I.free,I.freeC,I.pin,I.hok,I.len⟩
theorem inv_unmrk {v : Value} (ok : X.Ok) (I : Inv (mrk X v) pins σ H s) : Inv X pins σ H s:=
 ⟨ok,I.os,I.bare,I.base,I.loc,I.cell,I.free,I.freeC,I.pin,I.hok,I.len⟩
theorem un_new {fs : List Addr} {o : HO} (u : Un fs [] H H2 h h6) (hg : h.get? a = none) (hn : H2 a = none) : Un fs [] H (upd H2 a o) h h6:=by
 have ne : ∀ b ob,h.get? b = some ob->b ≠ a:=fun b ob q z=>by rw [z,hg] at q;cases q
 refine ⟨u.keep,u.slot,fun b ob q n hx=>by rw [upd_ne (ne b ob q)];exact u.free b ob q n hx,u.there,fun b xs q=>?_,fun b ob xs q=>?_,fun b ps q=>?_⟩
 ·have z:=u.tups b xs q
  rw [upd_ne (ne_of_none z hn)];exact z
 ·have z:=u.frzs b ob xs q
  rw [upd_ne (ne_of_none z hn)];exact z
 ·obtain ⟨m,z⟩:=u.tbls b ps q
  exact ⟨m,by rw [upd_ne (ne_of_none z hn)];exact z⟩
theorem hok_new {P : Program} {w : World} {o : HO} (x : HOk P w H2 h6) (hn : H2 a = none) (new : ObjOk P w (upd H2 a o) h6 a o) : HOk P w (upd H2 a o) h6:=fun b u e=>by
 by_cases hb : b = a
 ·subst hb;rw [upd_same] at e;cases e;exact new
 ·rw [upd_ne hb] at e
  exact (x b u e).stay (fun c v _ q=>q) (fun c q=>by rw [upd_ne (ne_of_none q hn)];exact q) fun c xs q=>by rw [upd_ne (ne_of_none q hn)];exact q
theorem ext_ok {P : Program} {w : World} {C : Addr} (p : ExcAt a C h6) : ObjOk P w (upd H2 a (.ext (ExcAt a C))) h6 a (.ext (ExcAt a C)):=
 ⟨p,by obtain ⟨o,e,_⟩:=p;exact ⟨o,e⟩,fun h1 h2 ⟨o,e,c⟩ k=>⟨o,k o e,c⟩⟩
theorem inv_gone {i : Nat} {x : Str} {v : Option Value} {t' : Nat} {h' : Heap} {m : Str->Option Value} (I : Inv X pins σ H s) (hN : X.N.Nodup) (hi : X.N[i]? = some x) (hn : s.heap.Ns X.env.locals m)
  (hl : ∀ (i : Nat) (x : Str) (v : V),X.N[i]? = some x->σ[i]? = some (some v)->Vis X.env.scope x->∃ u,RelV v u/\Look X.env s.heap m x u)
  (hn' : h'.Ns X.env.locals (fun y=>if y = x then v else m y)) (hs : Heap.SameBut X.env.locals s.heap h') : Inv X pins (σ.set i none) H { s with heap:=h',toks:=t' }:=by
 have hiσ : i < σ.length:=by rw [I.len];exact (List.getElem?_eq_some_iff.mp hi).1
 have cne:=I.cne
 have ne : ∀ b o,X.s₀.heap.get? b = some o->b ≠ X.env.locals:=fun b o e=>Nat.ne_of_lt (Nat.lt_of_lt_of_le (Heap.lt_size e) I.ok.above)
 refine ⟨I.ok,I.os,I.bare,⟨fun b o e n hb hx=>(hs.2 b (ne b o e)).trans (I.base.keep b o e n hb hx),fun b o e n hb hx=>?_,I.base.free,fun b o e hx=>?_,I.base.tups,I.base.frzs,I.base.tbls⟩,⟨_,hn',fun j y v' e1 e2 e3=>?_⟩,fun y c e=>?_,I.free,I.freeC,fun p hp=>?_,fun b ob e=>?_,by simpa using I.len⟩
 ·obtain ⟨sl,e1⟩:=I.base.slot b o e n hb hx
  exact ⟨sl,(hs.2 b (ne b o e)).trans e1⟩
 ·obtain ⟨o',e1⟩:=I.base.there b o e hx
  exact ⟨o',(hs.2 b (ne b o e)).trans e1⟩
 ·by_cases hj : j = i
  ·subst hj
   rw [List.getElem?_set_self hiσ] at e2
   cases e2
  ·rw [List.getElem?_set_ne (Ne.symm hj)] at e2
   obtain ⟨u',r',q⟩:=hl j y v' e1 e2 e3
   refine ⟨u',r',?_⟩
   rcases q with ⟨k,e⟩ | ⟨k,c,e,z⟩
   ·refine .inl ⟨k,?_⟩
    have : y ≠ x:=fun e=>hj (nodup_ix hN e1 (e ▸ hi))
    simp [this,e]
   ·exact .inr ⟨k,c,e,z.sameBut hs (cne y c e)⟩
 ·obtain ⟨w',z⟩:=I.cell y c e
  exact ⟨w',z.sameBut hs (cne y c e)⟩
 ·obtain ⟨e,n,ne,nf,d⟩:=I.pin p hp
  exact ⟨(hs.2 p.1 ne).trans e,n,ne,nf,d⟩
 ·refine (I.hok b ob e).stay (fun c w' hc q=>(hs.2 c ?_).trans q) (fun _ q=>q) fun _ _ q=>q
  intro z
  rcases hc with hc | hc
  ·rw [<- hc,z,I.free] at e;cases e
  ·rw [z,I.free] at hc;cases hc
end
noncomputable def tTry (t : TA) (sp : Sp) (C : Addr) (ie : Nat) (ts : TS) : TS:=fun D σ H=>t σ H fun vs H1=>sp vs H1 (fun _ _=>False) fun _ _ H2=>∀ a,H2 a = none->ts { nx:=fun σ' H'=>D.nx (σ'.set ie none) H',rt:=fun _ _=>False } (σ.set ie (some (.ref a))) (upd H2 a (.ext (ExcAt a C)))
theorem ps_try {X : Cx} {k : Nat} {fad C : Addr} {cM : Value} {fd : FuncData} {ps : List Str} {sp : Sp} {f mx n : Str} {p cpos xpos mp hpos pos : Pos} {e : Expr} {es : List Expr} {t : TA} {b0 : Stmt} {suite : List Stmt} {ts : TS} {ie : Nat}
  (hst : X.stack = X.env :: X.outer) (hfr : X.env.frame = some X.env.locals) (F : FnOk X.prog X.w X.K X.mg X.base (CX1 X.prog X.w C) k fad fd ps sp) (hr : Room k X.A) (hg : Gl X f) (hm : X.mg f = some (.ref fad)) (hk : keepIn X.K (.ref fad) = true) (hb : Binds X.K fd ps [])
  (ha : PA X.nox (e :: es) t) (hgM : Gl X mx) (hmM : X.mg mx = some cM) (hx : exmOne X.K (.ref C) cM = some true) (hN : X.N.Nodup) (hin : X.N[ie]? = some n) (hln : X.env.scope.names.lookup n = some .local)
  (hs : ∀ v,PSs (mrk X v).nox (b0 :: suite) ts)
  (hdb : (f == ("__debug__" : Str)) = false:=by decide) (hdM : (mx == ("__debug__" : Str)) = false:=by decide) (he : starEach (e :: es) X.env = (false,eval e X.env) :: starEach es X.env:=by rfl) (hpl : (backTo cpos (starEach es X.env)).any (·.1) = false:=by rfl)
  (hsw : swapsWith (.Call (.Name f p) (e :: es) [] cpos) none xpos.line X.env = pure false:=by rfl) :
  PS X (.Try [.Expr (.Call (.Name f p) (e :: es) [] cpos) xpos] [.ExceptHandler (some (.Name mx mp)) (some n) (b0 :: suite) hpos] [] [] pos) (tTry t sp C ie ts):=by
 intro pins s σ H D I h
 refine wpAny_Try_except (wpAny_execs_cons (wpAny_Expr_any ?_ I.quiet hsw))
 refine wpAny_Call_Name_kw (ld_glob I hg hm ?_ hdb)
 refine callWith_K (h₀:=X.base) I.ok.mod.kin hk (wpAny_mono (ha cpos pins s σ H _ (I.wish _) h) (fun us s1 ⟨vs,H1,I1,r,q⟩=>⟨I1.kIn,?_⟩) fun _ _ z=>False.elim z) he hpl
 have I1 : Inv X pins σ H1 s1:=I1.unwish
 have hl : (us ++ []).length = ps.length:=by rw [List.append_nil,<- r.length];exact F.len _ _ _ _ q
 have hb':=hb s1 us I1.kIn hl
 rw [List.append_nil] at hb'
 refine wpAny_call (codeAny_mono (F.run X.A X.stack s1 H1 ⟨us,[]⟩ us vs _ _ hr I1.env0 hb' r q) fun r s' hq=>?_)
 cases r with
 | ok fl=>
  cases fl with
  | ret u=>obtain ⟨_,_,_,_,_,_,_,z⟩:=hq;exact z.elim
  | next=>exact False.elim hq
  | brk=>exact False.elim hq
  | cont=>exact False.elim hq
 | error e=>
  obtain ⟨a,tt,H2,B,rfl,os',bare',fly,clo,hn,hgone,hE⟩:=hq
  rw [hst] at fly
  refine wpAny_looks_onW (by rw [I.ok.frames,hst]) hfr fly fun h4 held4 sm4=>?_
  refine wpAny_landsW held4 fun h5 fly5 sm5=>?_
  have up5 : s'.heap.UpToSlots h5:=Heap.UpToSlots.trans sm4 sm5
  have I5 : Inv X pins σ H2 { s' with heap:=h5 }:=by
   obtain ⟨un,hok⟩:=clo h5 fly5.1 up5
   exact I1.call' (ch:=[]) os' un hok bare' (fun b z=>absurd z (by simp))
  refine wpAny_handleBy_cons (codeAny_handlers_test ?_) (by intro q;cases q)
  refine ld_glob (X:=mrk X (.ref a)) (inv_mrk I5 _) hgM hmM ?_ hdM
  have LT : Looks (model X.prog X.w) h5 (typeOf (.ref a)) (.ref C):=by
   obtain ⟨ob,hob,hc⟩:=fly5.there
   rw [<- hc];exact (Looks.ld hob).andThen .now
  refine (exm_one I5.kIn LT hx).here ?_
  refine codeAny_handlers_suite_as ?_
  refine lands_againW fly5 fun h6 fly6 sm6=>?_
  obtain ⟨un6,hok6⟩:=clo h6 fly6.1 (Heap.UpToSlots.trans up5 sm6)
  have I6 : Inv X pins σ (upd H2 a (.ext (ExcAt a C))) { s' with heap:=h6 }:=
   I1.call' (ch:=[]) os' (un_new un6 hgone hn) (hok_new hok6 hn (ext_ok fly6.there)) bare' (fun b z=>absurd z (by simp))
  refine store_ok2 (X:=X) (v:=.ref a) I6 hN hin (.inl hln) rfl (fun s7 I7 _=>?_) (.inr hln)
  refine wpAny_mono (hs (.ref a) pins s7 _ _ _ ((inv_mrk I7 _).wish _) (hE a hn)) (fun fl s8 q8=>?_) fun _ _ z=>False.elim z
  cases fl with
  | ret u=>obtain ⟨_,_,_,_,_,z⟩:=q8;exact z.elim
  | brk=>obtain ⟨_,_,_,z⟩:=q8;exact z.elim
  | cont=>obtain ⟨_,_,_,z⟩:=q8;exact z.elim
  | next=>
   obtain ⟨σ8,H8,I8,q⟩:=q8
   have I8 : Inv X pins σ8 H8 s8:=inv_unmrk I.ok I8.unwish
   obtain ⟨m,hm8,hl8⟩:=id I8.loc
   refine wpAny_nameGoes_keeps hln hm8 (by rw [I.ok.kind];rfl) fun h9 v hn9 sb9=>?_
   exact ⟨_,H8,inv_gone I8 hN hin hm8 hl8 hn9 sb9,q⟩
end Mi
end
section
set_option maxRecDepth 100000
namespace Mi
open PySem L2 PySem.W PySem.SeqAt PySem.Spec PyProof.Rows
noncomputable def tIsiT (C : Addr) (i : Nat) (cs : List Addr) (b : Bool) : TE:=fun σ H Q=>∃ a,σ[i]? = some (some (.ref a))/\H a = some (.ext (ExcAt a C))/\∀ p,H p = none->Q (.bl b) (upd H p (.tup (cs.map V.ref)))
noncomputable def tIsi (C : Addr) (i : Nat) (b : Bool) : TE:=fun σ H Q=>∃ a,σ[i]? = some (some (.ref a))/\H a = some (.ext (ExcAt a C))/\Q (.bl b) H
variable [KFrag]
theorem vals_refs : ∀ {cs : List Addr} {us : List Value},Vals (cs.map V.ref) us->us = cs.map Value.ref
 | [],_,.nil=>rfl
 | c :: cs,_,.cons r t=>by rw [vals_refs t];cases r;rfl
section
variable {X : Cx} {C : Addr} {i : Nat} {cs : List Addr} {b : Bool} {y : Str} {p np tpos pos : Pos} {es : List Expr} {kk : Nat} {ce : Expr} {v : V} {u : Value}
theorem pe_isiT (c : XC X.K C) (hk : kitAny X.K (.ref C) (cs.map Value.ref) = some b) (hz : cs.length<=sizeLine) (hg : Gl X "isinstance") (hm : X.mg "isinstance" = none) (hN : X.N[i]? = some y) (hv : Vis X.env.scope y) (ha : PA X es fun _ H Q=>Q (cs.map V.ref) H)
  (hd : (y == ("__debug__" : Str)) = false:=by decide) (hcd : (y == ("__classdict__" : Str)) = false:=by decide) :
  PE X (.Call (.Name "isinstance" p) [.Name y np,.Tuple es kk tpos] [] pos) (tIsiT C i cs b):=by
 have hc : CallR X (.builtin "isinstance") (fun vs H Q=>∃ a tp,vs = [.ref a,.ref tp]/\H a = some (.ext (ExcAt a C))/\H tp = some (.tup (cs.map V.ref))/\Q (.bl b) H):=by
  intro pins s σ H vs us Q I r ⟨a,tp,e,ea,et,q⟩
  subst e
  cases r with
  | cons r1 r=>
   cases r with
   | cons r2 r=>
    cases r
    cases r1
    cases r2
    obtain ⟨_,its,ri,o,ho,hoc,n,hod⟩:=I.hok tp _ et
    have e2:=vals_refs ri
    subst e2
    obtain ⟨c1,d1,dt,sl⟩:=o
    replace hod:=congrArg Prod.fst hod
    dsimp only at hoc hod
    subst hoc hod
    obtain ⟨px,_⟩:=I.hok a _ ea
    exact kia_tup (kitx_exc c) I.kIn px ho hk (by intro z;cases z) fun tk=>⟨.bl b,H,I.tok tk,rfl,q⟩
 refine PE.imp (pe_callB hc hg hm (by decide +kernel) (pa_cons (pe_var hN hv hd hcd) (pa_cons (pe_tup ha) pa_nil))) fun σ H Q ⟨a,e1,e2,q⟩=>⟨.ref a,e1,⟨by simpa using hz,fun tp htp=>⟨a,tp,rfl,?_,upd_same,q tp htp⟩⟩⟩
 rw [upd_ne (ne_of_none e2 htp)];exact e2
theorem pe_isi1 (c : XC X.K C) (hk : kitOne X.K (.ref C) u = some b) (hu : ∀ u',RelV v u'->u' = u) (hg : Gl X "isinstance") (hm : X.mg "isinstance" = none) (hN : X.N[i]? = some y) (hv : Vis X.env.scope y) (ha : PE X ce (tC v))
  (hst : starEach [ce] X.env = (false,eval ce X.env) :: starEach [] X.env) (hpl : (backTo pos (starEach [ce] X.env)).any (·.1) = false)
  (hd : (y == ("__debug__" : Str)) = false:=by decide) (hcd : (y == ("__classdict__" : Str)) = false:=by decide) :
  PE X (.Call (.Name "isinstance" p) [.Name y np,ce] [] pos) (tIsi C i b):=by
 have hc : CallR X (.builtin "isinstance") (fun vs H Q=>∃ a,vs = [.ref a,v]/\H a = some (.ext (ExcAt a C))/\Q (.bl b) H):=by
  intro pins s σ H vs us Q I r ⟨a,e,ea,q⟩
  subst e
  cases r with
  | cons r1 r=>
   cases r with
   | cons r2 r=>
    cases r
    cases r1
    have e2:=hu _ r2
    subst e2
    obtain ⟨px,_⟩:=I.hok a _ ea
    exact kia_one (kitx_exc c) I.kIn px hk (by intro z;cases z) fun tk=>⟨.bl b,H,I.tok tk,rfl,q⟩
 exact PE.imp (pe_callB hc hg hm (by decide +kernel) (pa_cons (pe_var hN hv hd hcd) (pa_cons ha pa_nil hst)) (hpl:=hpl)) fun σ H Q ⟨a,e1,e2,q⟩=>⟨.ref a,e1,a,rfl,e2,q⟩
end
noncomputable def tNone (t : TA) (sp : Sp) (C : Addr) (ic ie : Nat) (cs1 cs2 : List Addr) : TS:=
 tSeq (tAsg (tC .non) (gName ic)) (tSeq (tTry t sp C ie (tAsg (tVar ie) (gName ic))) (tSeq (tIfS (tB (tIsiT C ic cs1 false)) (tRet (tC (.bl false))) tNext)
  (tSeq (tIfS (tB (tIsiT C ic cs2 false)) (tRet (tC (.bl false))) tNext) (tRet (tAndV (tIsi C ic true) (tIsi C ic true))))))
noncomputable def vNone (f : FS) (m n : Nat) : List D->Res D:=fun ds=>match f (ds ++ List.replicate (m - n) .undef) with
 | .ok (.nx _)=>if ds.length = n then .ok (.bl true) else .bad
 | _=>.bad
theorem same_upd {H : Hp} {a : Addr} {o : HO} (h : H a = none) : Same H (upd H a o):=fun b u e=>by rw [upd_ne (ne_of_none e h)];exact e
theorem none_ok {f : FS} {m : Nat} {C : Addr} {cs1 cs2 : List Addr} {vs : List V} {H : Hp} {Q : VK} {E : XK} {nx : L2.St->Hp->Prop} (h : spD (vNone f m 2) 2 vs H Q E) :
  tNone (gA (bCons (bVar 0) (bCons (bVar 1) bNil)) false) (spX f m 2 C) C 2 3 cs1 cs2 { nx:=nx,rt:=Q } (vs.map some ++ [none,none]) H:=by
 obtain ⟨ds,d,hl,r,hv,q⟩:=h
 unfold vNone at hv
 split at hv
 ·rename_i ρ' hf
  rw [if_pos hl] at hv
  cases hv
  obtain ⟨d0,d1,rfl⟩ : ∃ a b,ds = [a,b]:=by
   match ds,hl with
   | [a,b],_=>exact ⟨a,b,rfl⟩
  match vs,r with
  | [v0,v1],.cons r0 (.cons r1 .nil)=>
    have n0 : d0 ≠ .undef:=fun z=>by rw [z] at r0;cases r0
    have n1 : d1 ≠ .undef:=fun z=>by rw [z] at r1;cases r1
    refine ⟨[d0,d1,.undef,.undef],[d0,d1],?_,by cases d0 <;> cases d1 <;> first | rfl | exact absurd rfl n0 | exact absurd rfl n1,fun vs H' s1 rs _=>⟨[d0,d1],ρ',rfl,rs,hf,fun H2 s2 a ha=>⟨.ref a,rfl,?_⟩⟩⟩
    ·intro i hi
     match i,hi with
     | 0,_=>exact ⟨v0,rfl,r0⟩
     | 1,_=>exact ⟨v1,rfl,r1⟩
     | 2,hi=>exact absurd rfl hi
     | 3,hi=>exact absurd rfl hi
     | n + 4,hi=>exact absurd rfl hi
    ·have sm : Same H (upd H2 a (.ext (ExcAt a C))):=(s1.trans s2).trans (same_upd ha)
     refine ⟨a,rfl,upd_same,fun p1 h1=>⟨false,rfl,?_⟩⟩
     have e1 : upd (upd H2 a (.ext (ExcAt a C))) p1 (.tup (cs1.map V.ref)) a = some (.ext (ExcAt a C)):=by rw [upd_ne (ne_of_none upd_same h1)];exact upd_same
     refine ⟨a,rfl,e1,fun p2 h2=>⟨false,rfl,?_⟩⟩
     have e2:=(upd_ne (o:=HO.tup (cs2.map V.ref)) (ne_of_none e1 h2)).trans e1
     refine ⟨a,rfl,e2,true,rfl,a,rfl,e2,?_⟩
     exact q (.bl true) _ ((sm.trans (same_upd h1)).trans (same_upd h2)) (.bl true) fun _=>.bl true
 ·cases hv
theorem cal_none {P : Program} {w : World} {K : Frag} {mg : Str->Option Value} {base : Heap} {x : Str} {st : Stmt} {fad C : Addr} {fd : FuncData} {N ps : List Str} {k m : Nat} {f : FS} {cs1 cs2 : List Addr} (F : Fun K x x st fad fd) (hm : mg x = some (.ref fad)) (hb : Binds K fd ps []) (S : FnScope N ps (defScope st)) (hN : N.length = 4) (hps : ps.length = 2)
  (hbody : ∀ (cdv : Value) (A : Around) (outer : List Env) (s : Shared) (H : Hp) (E : XK),Room k (A.deeper (envOfC x (defScope st) s.heap.objs.size fad cdv))->
   PSs (cxOf CX0 P w K mg base N x (defScope st) fad cdv A outer s H E).nox (defBody st) (tNone (gA (bCons (bVar 0) (bCons (bVar 1) bNil)) false) (spX f m 2 C) C 2 3 cs1 cs2)) : CalOk P w K mg base (k + 1) x 2 (vNone f m 2):=
 ⟨fad,fd,ps,F.ok S (fun vs H Q E h=>by rw [hps];exact spD_len h) fun cdv A outer s H vs Q E hr h=>⟨_,hbody cdv A outer s H E hr,by
  have e : L2.start N vs = vs.map some ++ [none,none]:=by
   unfold L2.start
   rw [hN,spD_len h]
   rfl
  rw [e]
  exact none_ok h⟩,hm,F.kp,hb⟩
theorem vb_ValueError : bootBuiltins "ValueError" = some (.type "ValueError"):=by decide +kernel
noncomputable def sUnp (f : FE) (t : D->List D->Res (List D)) : FS:=fun ρ=>do
 let d <- f ρ
 if d.pure then (do let ρ' <- t d ρ;.ok (.nx ρ')) else .bad
theorem ms_unp {X : Cx} {own : Nat->Bool} {e tg : Expr} {pos : Pos} {fe : FE} {re : Bool} {g : TG} {t : D->List D->Res (List D)} (he : PE X e (gE fe re)) (ht : TgS own g t) (hg : PG X tg g) (hs : swapsWithSole [tg] e pos.line X.env = pure false:=by rfl) (hw : swappedStores [tg] e X.env = pure none:=by rfl)
  (h1 : (assignEach [tg] X.env).map (·.2) = [assign tg X.env]:=by rfl) : PS X (.Assign [tg] e pos) (tS own (sUnp fe t)):=PS.imp (ps_asg he hg hs hw h1) fun D' σ H ⟨ρ,fl,E,h,q⟩=>by
 obtain ⟨d,h1,h2⟩:=bindE h
 split at h2
 ·rename_i hp
  obtain ⟨ρ',h3,h4⟩:=bindE h2
  cases h4
  refine ⟨ρ,d,E.er,h1,fun v H1 s1 r _=>ht v d ρ ρ' σ H1 _ (E.same s1) (r.ofPure hp) h3 fun σ2 E2 hO=>?_⟩
  have k0 : KU own σ H1 σ2 H1:=fun a o e n=>⟨e,by rw [hO];exact n⟩
  exact q σ2 H1 ((KU.same s1).trans k0) E2
 ·cases h2
noncomputable def bLstP (a : FA) : FE:=fun ρ=>do let xs <- a ρ;if decide (xs.length<=lim) && D.pures xs then pure (.lst xs) else .bad
theorem me_lstP {X : Cx} {pos : Pos} {es : List Expr} {f : FA} {r : Bool} (h : PA X es (gA f r)) : PE X (.List es pos) (gE (bLstP f) true):=PE.imp (pe_lst h) fun σ H Q ⟨ρ,d,E,h,q⟩=>by
  obtain ⟨xs,h1,h⟩:=bindE h
  split at h
  ·rename_i hl
   rw [Bool.and_eq_true] at hl
   cases h
   refine ⟨ρ,xs,E,h1,fun vs H1 s1 r1 n1=>⟨?_,fun p hp=>?_⟩⟩
   ·rw [r1.length];exact Nat.le_trans (of_decide_eq_true hl.1) (by rw [sizeLine_eq];decide)
   ·have sp : Same H1 (upd H1 p (.lst vs)):=Same.upd hp
    exact q _ _ (s1.trans sp) (.lst upd_same trivial (r1.same sp)) fun _=>.lst upd_same (s1.free hp) ((r1.ofPure hl.2).same sp)
  ·cases h
end Mi
end
section
local macro_rules | `(tactic| trivial) => `(tactic| first | exact Or.inl rfl | exact Or.inr rfl | exact Or.inr (Or.inl rfl) | exact Or.inr (Or.inr rfl))
set_option maxRecDepth 100000
namespace Lk01
open PySem L2 Mi PySem.W
noncomputable def top (i : Nat) : Stmt:=PySem.Challenge.pw_hookmill_k01_mates.main.body.getD i (.Pass ⟨0,0,0,0⟩)
noncomputable abbrev s__law_stock : Stmt:=top 28
noncomputable def o__law_stock : Nat->Bool:=fun i=>i == 5
noncomputable def b__law_stock : FS:=sSeq (sSet false 2 (bC (.str "abcdefghijklmnopqrstuvwxyz")) true) (sSeq (sSet false 3 (b2 (binD .add) (bC (.int 1)) (b2 (binD .mod) (bVar 0) (bC (.int 8)))) true) (sSeq (sSet false 4 (b2 (binD .mod) (b2 (binD .fdiv) (bVar 0) (bC (.int 8))) (bVar 3)) true) (sSeq (sSet true 5 (bC (.dct [])) true) (sSeq (sFor (bThen (bCons (b2 (binD .add) (bC (.int 3)) (b2 (binD .mod) (b2 (binD .fdiv) (bVar 0) (bC (.int 64))) (bC (.int 3)))) (bNil)) rng1D) (tg1 6) (sSeq (sSet false 7 (bC (.str "")) true) (sSeq (sFor (bThen (bCons (bVar 3) (bNil)) rng1D) (tg1 8) (sSeq (sSet false 9 (b2 (binD .mul) (b2 (binD .mod) (b2 (binD .fdiv) (bVar 0) (bC (.int 192))) (bC (.int 2))) (b2 (binD .add) (bVar 8) (bC (.int 2)))) true) (sSeq (sIf (bTB (b2 (cmpD .eq) (bVar 8) (bVar 4))) (sSet false 9 (bC (.int 1)) true) (sNil)) (sSet false 7 (b2 (binD .add) (bVar 7) (b2 getD (bVar 2) (b2 (binD .mod) (b2 (binD .add) (b2 (binD .fdiv) (b2 (binD .fdiv) (bVar 0) (bC (.int 384))) (b2 (binD .add) (b2 (binD .mul) (bVar 8) (bVar 8)) (bC (.int 1)))) (b2 (binD .mul) (bVar 6) (bVar 9))) (bC (.int 26))))) true)))) (sSeq (sPut 5 (bVar 7) (b2 (binD .mod) (bVar 1) (bC (.int 7)))) (sSet false 1 (b2 (binD .fdiv) (bVar 1) (bC (.int 7))) true))))) (sRetV 5)))))
noncomputable def v__law_stock : List D->Res D:=fnS 2 10 b__law_stock
noncomputable abbrev s__law_rimmed : Stmt:=top 30
noncomputable def o__law_rimmed : Nat->Bool:=fun i=>i == 3 || i == 5
noncomputable def b__law_rimmed : FS:=sSeq (sSet true 3 (bLst (bNil)) true) (sSeq (sFor (bThen (bCons (b2 (binD .add) (bCall lenD (bCons (bVar 0) (bNil))) (b2 (binD .mul) (bC (.int 2)) (bVar 1))) (bNil)) rng1D) (tg1 4) (sIns 3 (b2 (binD .mod) (b2 (binD .add) (b2 (binD .fdiv) (bVar 2) (b2 (binD .add) (bVar 4) (bC (.int 1)))) (b2 (binD .mul) (bVar 4) (bVar 4))) (b2 (binD .add) (bVar 4) (bC (.int 1)))) (bVar 4))) (sSeq (sSet true 5 (bLst (bNil)) true) (sSeq (sFor (bThen (bCons (bCall lenD (bCons (bVar 0) (bNil))) (bNil)) rng1D) (tg1 4) (sApp 5 (bTup (bCons (bTup (bCons (bC (.int 0)) (bCons (b2 getD (bVar 3) (bVar 4)) (bNil)))) (bCons (b2 getD (bVar 0) (bVar 4)) (bNil)))))) (sSeq (sFor (bThen (bCons (bVar 1) (bNil)) rng1D) (tg1 4) (sSeq (sSet false 6 (bSlc (bVar 3) (bSome (b2 (binD .add) (bCall lenD (bCons (bVar 0) (bNil))) (b2 (binD .mul) (bC (.int 2)) (bVar 4)))) (bSome (b2 (binD .add) (b2 (binD .add) (bCall lenD (bCons (bVar 0) (bNil))) (b2 (binD .mul) (bC (.int 2)) (bVar 4))) (bC (.int 2))))) true) (sApp 5 (bTup (bCons (bTup (bCons (bC (.int 0)) (bCons (bCall (minmax .lt) (bCons (bVar 6) (bNil))) (bNil)))) (bCons (bTup (bCons (bC (.int 0)) (bCons (bCall (minmax .gt) (bCons (bVar 6) (bNil))) (bNil)))) (bNil))))))) (sRetV 5)))))
noncomputable def v__law_rimmed : List D->Res D:=fnS 3 7 b__law_rimmed
noncomputable abbrev s__law_tied : Stmt:=top 29
noncomputable def o__law_tied : Nat->Bool:=fun i=>false
noncomputable def b__law_tied : FS:=sSeq (sSet false 2 (b2 getD (bVar 0) (b2 (binD .mod) (bVar 1) (bCall lenD (bCons (bVar 0) (bNil))))) false) (sSeq (sSet false 3 (bComp 5 (bItems (bVar 0) false) oneT (bTB (b2 (cmpD .ne) (bVar 5) (bVar 2))) (bVar 5) false) true) (sSeq (sSet false 4 (b2 getD (bVar 3) (b2 (binD .mod) (b2 (binD .fdiv) (bVar 1) (bCall lenD (bCons (bVar 0) (bNil)))) (bCall lenD (bCons (bVar 3) (bNil))))) false) (sRet (bTup (bCons (bCall (minmax .lt) (bCons (bVar 2) (bCons (bVar 4) (bNil)))) (bCons (bCall (minmax .gt) (bCons (bVar 2) (bCons (bVar 4) (bNil)))) (bNil)))) false)))
noncomputable def v__law_tied : List D->Res D:=fnS 2 5 b__law_tied
noncomputable abbrev s__law_grown : Stmt:=top 31
noncomputable def o__law_grown : Nat->Bool:=fun i=>i == 5 || i == 7
noncomputable def b__law_grown : FS:=sSeq (sSet false 3 (bCall listD (bCons (bVar 0) (bNil))) true) (sSeq (sSet false 4 (b2 getD (bLst (bCons (b2 (binD .pow) (bC (.int 10)) (bC (.int 9))) (bCons (b2 (binD .pow) (bC (.int 10)) (bC (.int 9))) (bCons (b2 (binD .pow) (bC (.int 10)) (bC (.int 50))) (bNil))))) (b2 (binD .mod) (b2 (binD .fdiv) (bVar 2) (bC (.int 3))) (bC (.int 3)))) false) (sSeq (sSet true 5 (bLst (bNil)) true) (sSeq (sSet false 6 (bLst (bNil)) true) (sSeq (sSet true 7 (bLst (bNil)) true) (sSeq (sSet false 8 (bC (.int 0)) true) (sSeq (sSet false 9 (bC (.int 0)) true) (sSeq (sSet false 10 (bC (.int 0)) true) (sSeq (sForV 1 (tg1 11) (sSeq (sSet false 12 (b2 (binD .fdiv) (bVar 11) (bC (.int 8))) true) (sSeq (sAl 13 6) (sSeq (sIf (bTB (b2 (cmpD .eq) (b2 (binD .mod) (bVar 11) (bC (.int 8))) (bC (.int 5)))) (sSet false 13 (bComp 14 (bItems (bVar 6) false) oneT (bTB (b2 (cmpD .eq) (b2 getD (bVar 14) (bC (.int 1))) (bC (.int 0)))) (bVar 14) false) true) (sNil)) (sIf (bAnd (bTB (b2 (cmpD (.ord .lt)) (b2 (binD .mod) (bVar 11) (bC (.int 8))) (bC (.int 4)))) (bTB (b2 (cmpD (.ord .lt)) (bCall lenD (bCons (bVar 5) (bNil))) (bC (.int 14))))) (sSeq (sSet false 8 (b2 (binD .add) (b2 (binD .add) (bVar 8) (bC (.int 1))) (b2 (binD .mod) (b2 (binD .fdiv) (bVar 12) (bCall lenD (bCons (bVar 3) (bNil)))) (bVar 4))) true) (sSeq (sApp 5 (bTup (bCons (bVar 8) (bCons (b2 getD (bVar 3) (b2 (binD .mod) (bVar 12) (bCall lenD (bCons (bVar 3) (bNil))))) (bNil))))) (sSet false 6 (b2 (binD .add) (bVar 6) (bComp 14 (bThen (bCons (b2 (binD .add) (b2 getD (bVar 0) (b2 getD (bVar 3) (b2 (binD .mod) (bVar 12) (bCall lenD (bCons (bVar 3) (bNil)))))) (bC (.int 1))) (bNil)) rng1D) oneT (bTrue) (bTup (bCons (bVar 8) (bCons (bVar 14) (bNil)))) false)) true))) (sIf (bAnd (bTB (bCh (cmpD (.ord .le)) (cmpD (.ord .lt)) (bC (.int 4)) (b2 (binD .mod) (bVar 11) (bC (.int 8))) (bC (.int 6)))) (bTB (b2 (cmpD (.ord .gt)) (bCall lenD (bCons (bVar 13) (bNil))) (bC (.int 1))))) (sSeq (sApp 7 (bCall (argN 2 v__law_tied) (bCons (bVar 13) (bCons (bVar 12) (bNil))))) (sSet false 6 (bComp 14 (bItems (bVar 6) false) oneT (bTB (b2 (cmpD .notin) (bVar 14) (b2 getD (bVar 7) (b1 negD (bC (.int 1)))))) (bVar 14) false) true)) (sIf (bTB (b2 (cmpD .eq) (b2 (binD .mod) (bVar 11) (bC (.int 8))) (bC (.int 6)))) (sSet false 9 (b2 (binD .add) (bVar 9) (bC (.int 1))) true) (sIf (bTB (b2 (cmpD .eq) (b2 (binD .mod) (bVar 11) (bC (.int 8))) (bC (.int 7)))) (sSet false 10 (b2 (binD .add) (bVar 10) (b2 (binD .mod) (bVar 12) (b2 (binD .pow) (bC (.int 10)) (bC (.int 50))))) true) (sNil))))))))) (sSeq (sSet true 7 (b2 (binD .add) (bVar 7) (bCall (argN 3 v__law_rimmed) (bCons (bVar 6) (bCons (bVar 9) (bCons (bVar 2) (bNil)))))) true) (sRet (bTup (bCons (bCall tupleD (bCons (bVar 5) (bNil))) (bCons (bCall tupleD (bCons (bCall sortedD (bCons (bVar 7) (bNil))) (bNil))) (bCons (bVar 10) (bNil))))) false))))))))))
noncomputable def v__law_grown : List D->Res D:=fnS 3 14 b__law_grown
noncomputable abbrev s_is_whole : Stmt:=top 25
noncomputable def o_is_whole : Nat->Bool:=fun i=>false
noncomputable def b_is_whole : FS:=sRet (bAndV (b1 (isTyD .int) (bVar 0)) (bNotV (b1 (isTyD .bool) (bVar 0)))) true
noncomputable def v_is_whole : List D->Res D:=fnS 1 1 b_is_whole
noncomputable abbrev s_is_end : Stmt:=top 24
noncomputable def o_is_end : Nat->Bool:=fun i=>false
noncomputable def b_is_end : FS:=sRet (bAndV (b1 (isTyD .tuple) (bVar 0)) (bAndV (b2 (cmpD .eq) (bCall lenD (bCons (bVar 0) (bNil))) (bC (.int 2))) (bAndV (bCall (argN 1 v_is_whole) (bCons (b2 getD (bVar 0) (bC (.int 0))) (bNil))) (bCall (argN 1 v_is_whole) (bCons (b2 getD (bVar 0) (bC (.int 1))) (bNil)))))) true
noncomputable def v_is_end : List D->Res D:=fnS 1 1 b_is_end
noncomputable abbrev s_mate : Stmt:=top 21
noncomputable def o_mate : Nat->Bool:=fun i=>false
noncomputable def h_mate : FS:=sIf (bTr (bCall (argN 1 v_is_end) (bCons (bVar 1) (bNil)))) (sFor (bItems (b2 getD (bVar 0) (bC (.int 1))) false) (tgN [2,3]) (sSeq (sIf (bTB (b2 (cmpD .eq) (bVar 2) (bVar 1))) (sRet (bVar 3) false) (sNil)) (sIf (bTB (b2 (cmpD .eq) (bVar 3) (bVar 1))) (sRet (bVar 2) false) (sNil)))) (sNil)
noncomputable def b_mate : FS:=sSeq h_mate sBad
noncomputable def v_mate : List D->Res D:=fnS 2 4 b_mate
noncomputable abbrev s__law_none : Stmt:=top 34
noncomputable def v__law_none : List D->Res D:=vNone h_mate 4 2
noncomputable abbrev s__law_no_ends : Stmt:=top 35
noncomputable def o__law_no_ends : Nat->Bool:=fun i=>i == 5
noncomputable def b__law_no_ends : FS:=sSeq (sSet false 4 (bC (.int 0)) true) (sSeq (sIf (bTB (b2 (cmpD (.ord .gt)) (bCall lenD (bCons (b2 getD (bVar 0) (bC (.int 0))) (bNil))) (bC (.int 0)))) (sSet false 4 (b2 getD (b2 getD (b2 getD (bVar 0) (bC (.int 0))) (b1 negD (bC (.int 1)))) (bC (.int 0))) false) (sNil)) (sSeq (sSet true 5 (bLstP (bCons (bTup (bCons (bC (.int 0)) (bCons (bVar 2) (bNil)))) (bCons (bTup (bCons (bC (.int 0)) (bCons (b1 negD (bC (.int 1))) (bNil)))) (bCons (bTup (bCons (bC (.int 0)) (bCons (b2 (binD .add) (b2 (binD .add) (bVar 2) (bC (.int 1))) (b2 (binD .mod) (bVar 3) (b2 (binD .pow) (bC (.int 10)) (bC (.int 50))))) (bNil)))) (bCons (bTup (bCons (b2 (binD .add) (b2 (binD .add) (bVar 4) (bC (.int 1))) (b2 (binD .mod) (bVar 3) (b2 (binD .pow) (bC (.int 10)) (bC (.int 50))))) (bCons (bC (.int 0)) (bNil)))) (bCons (bTup (bCons (b1 negD (bC (.int 1))) (bCons (bC (.int 0)) (bNil)))) (bNil))))))) true) (sSeq (sIf (bTB (b2 (cmpD (.ord .gt)) (bVar 4) (bC (.int 0)))) (sSeq (sUnp (b2 getD (b2 getD (bVar 0) (bC (.int 0))) (b2 (binD .mod) (bVar 3) (bCall lenD (bCons (b2 getD (bVar 0) (bC (.int 0))) (bNil))))) (tgN [6,7])) (sSeq (sSet true 5 (b2 (binD .add) (bVar 5) (bLstP (bCons (bTup (bCons (bVar 6) (bCons (b2 (binD .add) (b2 getD (bVar 1) (bVar 7)) (bC (.int 1))) (bNil)))) (bCons (bTup (bCons (bVar 6) (bCons (b2 (binD .add) (b2 (binD .add) (b2 getD (bVar 1) (bVar 7)) (bC (.int 2))) (b2 (binD .mod) (bVar 3) (b2 (binD .pow) (bC (.int 10)) (bC (.int 50))))) (bNil)))) (bNil))))) true) (sSeq (sSet true 5 (b2 (binD .add) (bVar 5) (bLstP (bCons (bTup (bCons (bVar 6) (bCons (b1 negD (bC (.int 1))) (bNil)))) (bCons (bTup (bCons (b1 negD (bVar 6)) (bCons (bC (.int 0)) (bNil)))) (bNil))))) true) (sIf (bTB (b2 (cmpD .notin) (b2 (binD .add) (bVar 6) (bC (.int 1))) (bComp 9 (bItems (b2 getD (bVar 0) (bC (.int 0))) false) oneT (bTrue) (b2 getD (bVar 9) (bC (.int 0))) false))) (sApp 5 (bTup (bCons (b2 (binD .add) (bVar 6) (bC (.int 1))) (bCons (bC (.int 0)) (bNil))))) (sNil))))) (sNil)) (sSeq (sFor (bThen (bCons (bCall lenD (bCons (bVar 5) (bNil))) (bNil)) rng1D) (tg1 8) (sIf (bNot (bTr (bCall (argN 2 v__law_none) (bCons (bVar 0) (bCons (b2 getD (bVar 5) (b2 (binD .mod) (b2 (binD .add) (bVar 3) (bVar 8)) (bCall lenD (bCons (bVar 5) (bNil))))) (bNil)))))) (sRet (bC (.bl false)) true) (sNil))) (sRet (bC (.bl true)) true)))))
noncomputable def v__law_no_ends : List D->Res D:=fnS 4 9 b__law_no_ends
noncomputable abbrev s__law_cell_at : Stmt:=top 27
noncomputable def o__law_cell_at : Nat->Bool:=fun i=>false
noncomputable def b__law_cell_at : FS:=sSeq (sIf (bTB (b2 (cmpD (.ord .lt)) (bVar 1) (bCall lenD (bCons (bVar 0) (bNil))))) (sRet (b2 getD (bVar 0) (bVar 1)) false) (sNil)) (sRet (bC (.int 0)) true)
noncomputable def v__law_cell_at : List D->Res D:=fnS 2 2 b__law_cell_at
noncomputable abbrev s__law_whole : Stmt:=top 32
noncomputable def o__law_whole : Nat->Bool:=fun i=>false
noncomputable def b__law_whole : FS:=sRet (bAndV (b1 (isTyD .int) (bVar 0)) (bNotV (b1 (isTyD .bool) (bVar 0)))) true
noncomputable def v__law_whole : List D->Res D:=fnS 1 1 b__law_whole
noncomputable abbrev s_rim_among : Stmt:=top 23
noncomputable def o_rim_among : Nat->Bool:=fun i=>false
noncomputable def b_rim_among : FS:=sRet (bCall lenD (bCons (bComp 1 (bItems (bVar 0) false) oneT (bTB (b2 (cmpD .eq) (b2 getD (bVar 1) (bC (.int 0))) (bC (.int 0)))) (bVar 1) false) (bNil))) true
noncomputable def v_rim_among : List D->Res D:=fnS 1 1 b_rim_among
noncomputable abbrev s_ends_of : Stmt:=top 22
noncomputable def o_ends_of : Nat->Bool:=fun i=>i == 1
noncomputable def b_ends_of : FS:=sSeq (sSet true 1 (bLst (bNil)) true) (sSeq (sForV 0 (tgN [2,3]) (sSeq (sApp 1 (bVar 2)) (sApp 1 (bVar 3)))) (sRetV 1))
noncomputable def v_ends_of : List D->Res D:=fnS 1 4 b_ends_of
noncomputable abbrev s_rim : Stmt:=top 19
noncomputable def o_rim : Nat->Bool:=fun i=>false
noncomputable def b_rim : FS:=sRet (bCall (argN 1 v_rim_among) (bCons (bCall (argN 1 v_ends_of) (bCons (b2 getD (bVar 0) (bC (.int 1))) (bNil))) (bNil))) true
noncomputable def v_rim : List D->Res D:=fnS 1 1 b_rim
noncomputable abbrev s_greatest : Stmt:=top 20
noncomputable def o_greatest : Nat->Bool:=fun i=>false
noncomputable def b_greatest : FS:=sSeq (sIf (bNot (bTr (b2 getD (bVar 0) (bC (.int 0))))) (sRet (bC (.int 0)) true) (sNil)) (sRet (b2 getD (b2 getD (b2 getD (bVar 0) (bC (.int 0))) (b1 negD (bC (.int 1)))) (bC (.int 0))) false)
noncomputable def v_greatest : List D->Res D:=fnS 1 1 b_greatest
noncomputable abbrev s__law_is_end : Stmt:=top 33
noncomputable def o__law_is_end : Nat->Bool:=fun i=>false
noncomputable def b__law_is_end : FS:=sSeq (sIf (bOr (bNot (bTr (b1 (isTyD .tuple) (bVar 0)))) (bTB (b2 (cmpD .ne) (bCall lenD (bCons (bVar 0) (bNil))) (bC (.int 2))))) (sRet (bC (.bl false)) true) (sNil)) (sRet (bAndV (bCall (argN 1 v__law_whole) (bCons (b2 getD (bVar 0) (bC (.int 0))) (bNil))) (bAndV (bCall (argN 1 v__law_whole) (bCons (b2 getD (bVar 0) (bC (.int 1))) (bNil))) (b2 (cmpD .eq) (bVar 0) (bVar 1)))) true)
noncomputable def v__law_is_end : List D->Res D:=fnS 2 2 b__law_is_end
noncomputable abbrev s_law : Stmt:=top 36
noncomputable def o_law : Nat->Bool:=fun i=>false
noncomputable def b_law : FS:=sSeq (sSet false 1 (bCall (argN 2 v__law_stock) (bCons (bCall (argN 2 v__law_cell_at) (bCons (bVar 0) (bCons (bC (.int 0)) (bNil)))) (bCons (bCall (argN 2 v__law_cell_at) (bCons (bVar 0) (bCons (bC (.int 1)) (bNil)))) (bNil)))) true) (sSeq (sSet false 2 (bCall (argN 3 v__law_grown) (bCons (bVar 1) (bCons (bSlc (bVar 0) (bSome (bC (.int 2))) (bSome (bC (.int 66)))) (bCons (bCall (argN 2 v__law_cell_at) (bCons (bVar 0) (bCons (bC (.int 0)) (bNil)))) (bNil))))) true) (sSeq (sSet false 3 (bC (.int 0)) true) (sSeq (sFor (bItems (b2 getD (bVar 2) (bC (.int 1))) false) (tg1 4) (sSet false 3 (b2 (binD .add) (bVar 3) (bCall lenD (bCons (bComp 8 (bItems (bVar 4) false) oneT (bTB (b2 (cmpD .eq) (b2 getD (bVar 8) (bC (.int 0))) (bC (.int 0)))) (bVar 8) false) (bNil)))) true)) (sSeq (sIf (bNot (bTr (bCall (argN 4 v__law_no_ends) (bCons (bVar 2) (bCons (bVar 1) (bCons (bVar 3) (bCons (bCall (argN 2 v__law_cell_at) (bCons (bVar 0) (bCons (bC (.int 1)) (bNil)))) (bNil)))))))) (sRet (bC (.bl false)) true) (sNil)) (sSeq (sFor (bItems (b2 getD (bVar 2) (bC (.int 1))) false) (tgN [5,6]) (sIf (bOr (bNot (bTr (bCall (argN 2 v__law_is_end) (bCons (bCall (argN 2 v_mate) (bCons (bVar 2) (bCons (bVar 5) (bNil)))) (bCons (bVar 6) (bNil)))))) (bNot (bTr (bCall (argN 2 v__law_is_end) (bCons (bCall (argN 2 v_mate) (bCons (bVar 2) (bCons (bVar 6) (bNil)))) (bCons (bVar 5) (bNil))))))) (sRet (bC (.bl false)) true) (sNil))) (sSeq (sSet false 7 (bCall (minmax .gt) (bCons (b2 (binD .add) (bComp 8 (bItems (b2 getD (bVar 2) (bC (.int 0))) false) oneT (bTrue) (b2 getD (bVar 8) (bC (.int 0))) false) (bLst (bCons (bC (.int 0)) (bNil)))) (bNil))) false) (sSeq (sIf (bOr (bNot (bTr (bCall (argN 1 v__law_whole) (bCons (bCall (argN 1 v_rim) (bCons (bVar 2) (bNil))) (bNil))))) (bOr (bTB (b2 (cmpD .ne) (bCall (argN 1 v_rim) (bCons (bVar 2) (bNil))) (bVar 3))) (bOr (bNot (bTr (bCall (argN 1 v__law_whole) (bCons (bCall (argN 1 v_greatest) (bCons (bVar 2) (bNil))) (bNil))))) (bTB (b2 (cmpD .ne) (bCall (argN 1 v_greatest) (bCons (bVar 2) (bNil))) (bVar 7)))))) (sRet (bC (.bl false)) true) (sNil)) (sRet (bCall (argN 4 v__law_no_ends) (bCons (bVar 2) (bCons (bVar 1) (bCons (bVar 3) (bCons (bCall (argN 2 v__law_cell_at) (bCons (bVar 0) (bCons (bC (.int 2)) (bNil)))) (bNil)))))) true))))))))
noncomputable def v_law : List D->Res D:=fnS 1 8 b_law
theorem sc__law_stock : FnScope (["cell", "sides", "letters", "size", "at", "stock", "k", "name", "j", "step"] : List Str) ["cell", "sides"] (defScope s__law_stock):=⟨rfl,rfl,rfl,by decide +kernel,rfl,by decide +kernel,by decide +kernel⟩
set_option maxHeartbeats 4000000 in
theorem cal__law_stock [KFrag] {P : Program} {w : World} {K : Frag} {mg : Str->Option Value} {base : Heap} {fad : Addr} {fd : FuncData} (hK : KFrag.K = K) (B : Bt mg)  (F : Fun K "_law_stock" "_law_stock" s__law_stock fad fd) (hm : mg "_law_stock" = some (.ref fad)) : CalOk P w K mg base 1 "_law_stock" 2 v__law_stock:=by
 have sc:=sc__law_stock
 refine cal_mk (ps:=["cell", "sides"]) (N:=(["cell", "sides", "letters", "size", "at", "stock", "k", "name", "j", "step"] : List Str)) (k:=0) F hm (F.binds fun _ _ _ _ _ _ us hl=>match us,hl with | [_,_],_=>rfl) sc o__law_stock (by decide) (by decide) fun cdv A outer s H E hr=>?_
 have hu:=hu20 hr
 exact mss_cons (ms_set (i:=2) (o:=false) rfl sc.nd rfl (by trivial) (me_str)) (mss_cons (ms_set (i:=3) (o:=false) rfl sc.nd rfl (by trivial) (me_op om_add (me_int) (me_op om_mod (me_var (i:=0) rfl (by trivial)) (me_int)))) (mss_cons (ms_set (i:=4) (o:=false) rfl sc.nd rfl (by trivial) (me_op om_mod (me_op om_fdiv (me_var (i:=0) rfl (by trivial)) (me_int)) (me_var (i:=3) rfl (by trivial)))) (mss_cons (ms_set (i:=5) (o:=true) rfl sc.nd rfl (by trivial) (me_dnewK)) (mss_cons (ms_for PassesOwn.never rfl (mi_rng1 (by rfl) B.range (ma_cons (me_op om_add (me_int) (me_op om_mod (me_op om_fdiv (me_var (i:=0) rfl (by trivial)) (me_int)) (me_int))) (ma_nil))) (tgs_one (i:=6) rfl) (pg_name (i:=6) sc.nd rfl (by trivial)) (mss_cons (ms_set (i:=7) (o:=false) rfl sc.nd rfl (by trivial) (me_str)) (mss_cons (ms_for PassesOwn.never rfl (mi_rng1 (by rfl) B.range (ma_cons (me_var (i:=3) rfl (by trivial)) (ma_nil))) (tgs_one (i:=8) rfl) (pg_name (i:=8) sc.nd rfl (by trivial)) (mss_cons (ms_set (i:=9) (o:=false) rfl sc.nd rfl (by trivial) (me_op om_mul (me_op om_mod (me_op om_fdiv (me_var (i:=0) rfl (by trivial)) (me_int)) (me_int)) (me_op om_add (me_var (i:=8) rfl (by trivial)) (me_int)))) (mss_cons (ms_if (mt_cmp (om_eq hu) (me_var (i:=8) rfl (by trivial)) (me_var (i:=4) rfl (by trivial)) (nomark _)) (mss_one (ms_set (i:=9) (o:=false) rfl sc.nd rfl (by trivial) (me_int))) (mss_nil)) (mss_one (ms_set (i:=7) (o:=false) rfl sc.nd rfl (by trivial) (me_op om_add (me_var (i:=7) rfl (by trivial)) (me_ix (om_ix hK hu) (me_var (i:=2) rfl (by trivial)) (me_op om_mod (me_op om_add (me_op om_fdiv (me_op om_fdiv (me_var (i:=0) rfl (by trivial)) (me_int)) (me_op om_add (me_op om_mul (me_var (i:=8) rfl (by trivial)) (me_var (i:=8) rfl (by trivial))) (me_int))) (me_op om_mul (me_var (i:=6) rfl (by trivial)) (me_var (i:=9) rfl (by trivial)))) (me_int)) (fun _ _=>rfl)))))))) (mss_cons (ms_put (i:=5) hu rfl rfl (by trivial) (me_var (i:=7) rfl (by trivial)) (me_op om_mod (me_var (i:=1) rfl (by trivial)) (me_int))) (mss_one (ms_set (i:=1) (o:=false) rfl sc.nd rfl (by trivial) (me_op om_fdiv (me_var (i:=1) rfl (by trivial)) (me_int)))))))) (mss_one (ms_retV (i:=5) rfl rfl (by trivial)))))))
theorem sc__law_rimmed : FnScope (["loose", "bare", "seed", "spots", "k", "ties", "pair"] : List Str) ["loose", "bare", "seed"] (defScope s__law_rimmed):=⟨rfl,rfl,rfl,by decide +kernel,rfl,by decide +kernel,by decide +kernel⟩
set_option maxHeartbeats 4000000 in
theorem cal__law_rimmed [KFrag] {P : Program} {w : World} {K : Frag} {mg : Str->Option Value} {base : Heap} {fad : Addr} {fd : FuncData} (hK : KFrag.K = K) (B : Bt mg)  (F : Fun K "_law_rimmed" "_law_rimmed" s__law_rimmed fad fd) (hm : mg "_law_rimmed" = some (.ref fad)) : CalOk P w K mg base 1 "_law_rimmed" 3 v__law_rimmed:=by
 have sc:=sc__law_rimmed
 refine cal_mk (ps:=["loose", "bare", "seed"]) (N:=(["loose", "bare", "seed", "spots", "k", "ties", "pair"] : List Str)) (k:=0) F hm (F.binds fun _ _ _ _ _ _ us hl=>match us,hl with | [_,_,_],_=>rfl) sc o__law_rimmed (by decide) (by decide) fun cdv A outer s H E hr=>?_
 have hu:=hu20 hr
 exact mss_cons (ms_set (i:=3) (o:=true) rfl sc.nd rfl (by trivial) (me_lst (ma_nil))) (mss_cons (ms_for PassesOwn.never rfl (mi_rng1 (by rfl) B.range (ma_cons (me_op om_add (me_callB (cl_len hK) (by rfl) B.len vb_len (ma_cons (me_var (i:=0) rfl (by trivial)) (ma_nil))) (me_op om_mul (me_int) (me_var (i:=1) rfl (by trivial)))) (ma_nil))) (tgs_one (i:=4) rfl) (pg_name (i:=4) sc.nd rfl (by trivial)) (mss_one (ms_ins (i:=3) rfl rfl (by trivial) (me_op om_mod (me_op om_add (me_op om_fdiv (me_var (i:=2) rfl (by trivial)) (me_op om_add (me_var (i:=4) rfl (by trivial)) (me_int))) (me_op om_mul (me_var (i:=4) rfl (by trivial)) (me_var (i:=4) rfl (by trivial)))) (me_op om_add (me_var (i:=4) rfl (by trivial)) (me_int))) (me_var (i:=4) rfl (by trivial))))) (mss_cons (ms_set (i:=5) (o:=true) rfl sc.nd rfl (by trivial) (me_lst (ma_nil))) (mss_cons (ms_for PassesOwn.never rfl (mi_rng1 (by rfl) B.range (ma_cons (me_callB (cl_len hK) (by rfl) B.len vb_len (ma_cons (me_var (i:=0) rfl (by trivial)) (ma_nil))) (ma_nil))) (tgs_one (i:=4) rfl) (pg_name (i:=4) sc.nd rfl (by trivial)) (mss_one (ms_app (i:=5) rfl rfl (by trivial) (me_tup (ma_cons (me_tup (ma_cons (me_int) (ma_cons (me_ix (om_ix hK hu) (me_var (i:=3) rfl (by trivial)) (me_var (i:=4) rfl (by trivial)) (fun _ _=>rfl)) (ma_nil)))) (ma_cons (me_ix (om_ix hK hu) (me_var (i:=0) rfl (by trivial)) (me_var (i:=4) rfl (by trivial)) (fun _ _=>rfl)) (ma_nil))))))) (mss_cons (ms_for PassesOwn.never rfl (mi_rng1 (by rfl) B.range (ma_cons (me_var (i:=1) rfl (by trivial)) (ma_nil))) (tgs_one (i:=4) rfl) (pg_name (i:=4) sc.nd rfl (by trivial)) (mss_cons (ms_set (i:=6) (o:=false) rfl sc.nd rfl (by trivial) (me_sl hK (me_var (i:=3) rfl (by trivial)) (mo_some (me_op om_add (me_callB (cl_len hK) (by rfl) B.len vb_len (ma_cons (me_var (i:=0) rfl (by trivial)) (ma_nil))) (me_op om_mul (me_int) (me_var (i:=4) rfl (by trivial))))) (mo_some (me_op om_add (me_op om_add (me_callB (cl_len hK) (by rfl) B.len vb_len (ma_cons (me_var (i:=0) rfl (by trivial)) (ma_nil))) (me_op om_mul (me_int) (me_var (i:=4) rfl (by trivial)))) (me_int))))) (mss_one (ms_app (i:=5) rfl rfl (by trivial) (me_tup (ma_cons (me_tup (ma_cons (me_int) (ma_cons (me_callB (om_min hu (by rfl)) (by rfl) B.min vb_min (ma_cons (me_var (i:=6) rfl (by trivial)) (ma_nil))) (ma_nil)))) (ma_cons (me_tup (ma_cons (me_int) (ma_cons (me_callB (om_max hu (by rfl)) (by rfl) B.max vb_max (ma_cons (me_var (i:=6) rfl (by trivial)) (ma_nil))) (ma_nil)))) (ma_nil)))))))) (mss_one (ms_retV (i:=5) rfl rfl (by trivial)))))))
theorem sc__law_tied : FnScope (["loose", "more", "one", "rest", "other"] : List Str) ["loose", "more"] (defScope s__law_tied):=⟨rfl,rfl,rfl,by decide +kernel,rfl,by decide +kernel,by decide +kernel⟩
set_option maxHeartbeats 4000000 in
theorem cal__law_tied [KFrag] {P : Program} {w : World} {K : Frag} {mg : Str->Option Value} {base : Heap} {fad : Addr} {fd : FuncData} (hK : KFrag.K = K) (B : Bt mg)  (F : Fun K "_law_tied" "_law_tied" s__law_tied fad fd) (hm : mg "_law_tied" = some (.ref fad)) : CalOk P w K mg base 1 "_law_tied" 2 v__law_tied:=by
 have sc:=sc__law_tied
 refine cal_mk (ps:=["loose", "more"]) (N:=(["loose", "more", "one", "rest", "other"] : List Str)) (k:=0) F hm (F.binds fun _ _ _ _ _ _ us hl=>match us,hl with | [_,_],_=>rfl) sc o__law_tied (by decide) (by decide) fun cdv A outer s H E hr=>?_
 have hu:=hu20 hr
 exact mss_cons (ms_set (i:=2) (o:=false) rfl sc.nd rfl (by trivial) (me_ix (om_ix hK hu) (me_var (i:=0) rfl (by trivial)) (me_op om_mod (me_var (i:=1) rfl (by trivial)) (me_callB (cl_len hK) (by rfl) B.len vb_len (ma_cons (me_var (i:=0) rfl (by trivial)) (ma_nil)))) (fun _ _=>rfl))) (mss_cons (ms_compif' (ownN:=(["end"] : List Str)) (show CompSc (["loose", "more", "one", "rest", "other"] : List Str) (defScope s__law_tied) _ (["end"] : List Str) from ⟨rfl,by decide +kernel,by decide +kernel,by decide +kernel,by decide +kernel,by decide +kernel,by decide +kernel⟩) (n:=5) (m:=1) rfl rfl rfl (mi_val (me_var (i:=0) rfl (by trivial))) (tgc_one 5) (fun _=>pg_name (i:=5) (show ((List.map (hideN (["end"] : List Str)) (["loose", "more", "one", "rest", "other"] : List Str) ++ (["end"] : List Str)) : List Str).Nodup from by decide +kernel) rfl (by trivial)) (fun _=>mt_cmp (om_ne hu) (me_var (i:=5) rfl (by trivial)) (me_var (i:=2) rfl (by trivial)) (nomark _)) (fun _=>me_var (i:=5) rfl (by trivial)) (fun _=>rfl) (iy:=3) (o:=false) rfl sc.nd rfl (by trivial) (Or.inl rfl) (by with_unfolding_all rfl)) (mss_cons (ms_set (i:=4) (o:=false) rfl sc.nd rfl (by trivial) (me_ix (om_ix hK hu) (me_var (i:=3) rfl (by trivial)) (me_op om_mod (me_op om_fdiv (me_var (i:=1) rfl (by trivial)) (me_callB (cl_len hK) (by rfl) B.len vb_len (ma_cons (me_var (i:=0) rfl (by trivial)) (ma_nil)))) (me_callB (cl_len hK) (by rfl) B.len vb_len (ma_cons (me_var (i:=3) rfl (by trivial)) (ma_nil)))) (fun _ _=>rfl))) (mss_one (ms_ret (me_tup (ma_cons (me_callB (om_min hu (by rfl)) (by rfl) B.min vb_min (ma_cons (me_var (i:=2) rfl (by trivial)) (ma_cons (me_var (i:=4) rfl (by trivial)) (ma_nil)))) (ma_cons (me_callB (om_max hu (by rfl)) (by rfl) B.max vb_max (ma_cons (me_var (i:=2) rfl (by trivial)) (ma_cons (me_var (i:=4) rfl (by trivial)) (ma_nil)))) (ma_nil))))))))
theorem sc__law_grown : FnScope (["stock", "cells", "seed", "names", "far", "pieces", "loose", "ties", "number", "bare", "rings", "cell", "more", "some"] : List Str) ["stock", "cells", "seed"] (defScope s__law_grown):=⟨rfl,rfl,rfl,by decide +kernel,rfl,by decide +kernel,by decide +kernel⟩
set_option maxHeartbeats 4000000 in
theorem cal__law_grown [KFrag] {P : Program} {w : World} {K : Frag} {mg : Str->Option Value} {base : Heap} {fad : Addr} {fd : FuncData} (hK : KFrag.K = K) (B : Bt mg) (c__law_tied : CalOk P w K mg base 1 "_law_tied" 2 v__law_tied) (c__law_rimmed : CalOk P w K mg base 1 "_law_rimmed" 3 v__law_rimmed) (F : Fun K "_law_grown" "_law_grown" s__law_grown fad fd) (hm : mg "_law_grown" = some (.ref fad)) : CalOk P w K mg base 2 "_law_grown" 3 v__law_grown:=by
 have sc:=sc__law_grown
 refine cal_mk (ps:=["stock", "cells", "seed"]) (N:=(["stock", "cells", "seed", "names", "far", "pieces", "loose", "ties", "number", "bare", "rings", "cell", "more", "some"] : List Str)) (k:=1) F hm (F.binds fun _ _ _ _ _ _ us hl=>match us,hl with | [_,_,_],_=>rfl) sc o__law_grown (by decide) (by decide) fun cdv A outer s H E hr=>?_
 have hu:=hu20 hr
 exact mss_cons (ms_set (i:=3) (o:=false) rfl sc.nd rfl (by trivial) (me_callTy (cl_list (by rfl)) (by rfl) B.list vb_list (ma_cons (me_var (i:=0) rfl (by trivial)) (ma_nil)))) (mss_cons (ms_set (i:=4) (o:=false) rfl sc.nd rfl (by trivial) (me_ix (om_ix hK hu) (me_lst (ma_cons (me_op om_pow (me_int) (me_int)) (ma_cons (me_op om_pow (me_int) (me_int)) (ma_cons (me_op om_pow (me_int) (me_int)) (ma_nil))))) (me_op om_mod (me_op om_fdiv (me_var (i:=2) rfl (by trivial)) (me_int)) (me_int)) (fun _ _=>rfl))) (mss_cons (ms_set (i:=5) (o:=true) rfl sc.nd rfl (by trivial) (me_lst (ma_nil))) (mss_cons (ms_set (i:=6) (o:=false) rfl sc.nd rfl (by trivial) (me_lst (ma_nil))) (mss_cons (ms_set (i:=7) (o:=true) rfl sc.nd rfl (by trivial) (me_lst (ma_nil))) (mss_cons (ms_set (i:=8) (o:=false) rfl sc.nd rfl (by trivial) (me_int)) (mss_cons (ms_set (i:=9) (o:=false) rfl sc.nd rfl (by trivial) (me_int)) (mss_cons (ms_set (i:=10) (o:=false) rfl sc.nd rfl (by trivial) (me_int)) (mss_cons (ms_forV (i:=1) rfl PassesOwn.never rfl rfl (by trivial) (tgs_one (i:=11) rfl) (pg_name (i:=11) sc.nd rfl (by trivial)) (mss_cons (ms_set (i:=12) (o:=false) rfl sc.nd rfl (by trivial) (me_op om_fdiv (me_var (i:=11) rfl (by trivial)) (me_int))) (mss_cons (ms_al (i:=13) (j:=6) rfl rfl sc.nd rfl (by trivial) rfl (by trivial)) (mss_cons (ms_if (mt_cmp (om_eq hu) (me_op om_mod (me_var (i:=11) rfl (by trivial)) (me_int)) (me_int) (nomark _)) (mss_one (ms_compif' (ownN:=(["end"] : List Str)) (show CompSc (["stock", "cells", "seed", "names", "far", "pieces", "loose", "ties", "number", "bare", "rings", "cell", "more", "some"] : List Str) (defScope s__law_grown) _ (["end"] : List Str) from ⟨rfl,by decide +kernel,by decide +kernel,by decide +kernel,by decide +kernel,by decide +kernel,by decide +kernel⟩) (n:=14) (m:=1) rfl rfl rfl (mi_val (me_var (i:=6) rfl (by trivial))) (tgc_one 14) (fun _=>pg_name (i:=14) (show ((List.map (hideN (["end"] : List Str)) (["stock", "cells", "seed", "names", "far", "pieces", "loose", "ties", "number", "bare", "rings", "cell", "more", "some"] : List Str) ++ (["end"] : List Str)) : List Str).Nodup from by decide +kernel) rfl (by trivial)) (fun _=>mt_cmp (om_eq hu) (me_ix (om_ix hK hu) (me_var (i:=14) rfl (by trivial)) (me_int) (fun _ _=>rfl)) (me_int) (nomark _)) (fun _=>me_var (i:=14) rfl (by trivial)) (fun _=>rfl) (iy:=13) (o:=false) rfl sc.nd rfl (by trivial) (Or.inl rfl) (by with_unfolding_all rfl))) (mss_nil)) (mss_one (ms_if (PW.pt (mw_and (mt_cmp (om_lt hu) (me_op om_mod (me_var (i:=11) rfl (by trivial)) (me_int)) (me_int) (nomark _)) (mw_and1 (mt_cmp (om_lt hu) (me_callB (cl_len hK) (by rfl) B.len vb_len (ma_cons (me_var (i:=5) rfl (by trivial)) (ma_nil))) (me_int) (nomark _))))) (mss_cons (ms_set (i:=8) (o:=false) rfl sc.nd rfl (by trivial) (me_op om_add (me_op om_add (me_var (i:=8) rfl (by trivial)) (me_int)) (me_op om_mod (me_op om_fdiv (me_var (i:=12) rfl (by trivial)) (me_callB (cl_len hK) (by rfl) B.len vb_len (ma_cons (me_var (i:=3) rfl (by trivial)) (ma_nil)))) (me_var (i:=4) rfl (by trivial))))) (mss_cons (ms_app (i:=5) rfl rfl (by trivial) (me_tup (ma_cons (me_var (i:=8) rfl (by trivial)) (ma_cons (me_ix (om_ix hK hu) (me_var (i:=3) rfl (by trivial)) (me_op om_mod (me_var (i:=12) rfl (by trivial)) (me_callB (cl_len hK) (by rfl) B.len vb_len (ma_cons (me_var (i:=3) rfl (by trivial)) (ma_nil)))) (fun _ _=>rfl)) (ma_nil))))) (mss_one (ms_set (i:=6) (o:=false) rfl sc.nd rfl (by trivial) (me_op om_add (me_var (i:=6) rfl (by trivial)) (me_comp' (ownN:=(["hook"] : List Str)) (show CompSc (["stock", "cells", "seed", "names", "far", "pieces", "loose", "ties", "number", "bare", "rings", "cell", "more", "some"] : List Str) (defScope s__law_grown) _ (["hook"] : List Str) from ⟨rfl,by decide +kernel,by decide +kernel,by decide +kernel,by decide +kernel,by decide +kernel,by decide +kernel⟩) (n:=14) (m:=1) rfl rfl rfl (mi_rng1 (by rfl) B.range (ma_cons (me_op om_add (me_ix (om_ix hK hu) (me_var (i:=0) rfl (by trivial)) (me_ix (om_ix hK hu) (me_var (i:=3) rfl (by trivial)) (me_op om_mod (me_var (i:=12) rfl (by trivial)) (me_callB (cl_len hK) (by rfl) B.len vb_len (ma_cons (me_var (i:=3) rfl (by trivial)) (ma_nil)))) (fun _ _=>rfl)) (fun _ _=>rfl)) (me_int)) (ma_nil))) (tgc_one 14) (fun _=>pg_name (i:=14) (show ((List.map (hideN (["hook"] : List Str)) (["stock", "cells", "seed", "names", "far", "pieces", "loose", "ties", "number", "bare", "rings", "cell", "more", "some"] : List Str) ++ (["hook"] : List Str)) : List Str).Nodup from by decide +kernel) rfl (by trivial)) (fun _=>me_tup (ma_cons (me_var (i:=8) rfl (by trivial)) (ma_cons (me_var (i:=14) rfl (by trivial)) (ma_nil)))) (fun _=>rfl))))))) (mss_one (ms_if (PW.pt (mw_and (mt_chain (om_le hu) (om_lt hu) (me_int) (me_op om_mod (me_var (i:=11) rfl (by trivial)) (me_int)) (me_int)) (mw_and1 (mt_cmp (om_gt hu) (me_callB (cl_len hK) (by rfl) B.len vb_len (ma_cons (me_var (i:=13) rfl (by trivial)) (ma_nil))) (me_int) (nomark _))))) (mss_cons (ms_app (i:=7) rfl rfl (by trivial) (me_callC c__law_tied hr (by decide) (by rfl) (ma_cons (me_var (i:=13) rfl (by trivial)) (ma_cons (me_var (i:=12) rfl (by trivial)) (ma_nil))))) (mss_one (ms_compif' (ownN:=(["end"] : List Str)) (show CompSc (["stock", "cells", "seed", "names", "far", "pieces", "loose", "ties", "number", "bare", "rings", "cell", "more", "some"] : List Str) (defScope s__law_grown) _ (["end"] : List Str) from ⟨rfl,by decide +kernel,by decide +kernel,by decide +kernel,by decide +kernel,by decide +kernel,by decide +kernel⟩) (n:=14) (m:=1) rfl rfl rfl (mi_val (me_var (i:=6) rfl (by trivial))) (tgc_one 14) (fun _=>pg_name (i:=14) (show ((List.map (hideN (["end"] : List Str)) (["stock", "cells", "seed", "names", "far", "pieces", "loose", "ties", "number", "bare", "rings", "cell", "more", "some"] : List Str) ++ (["end"] : List Str)) : List Str).Nodup from by decide +kernel) rfl (by trivial)) (fun _=>mt_cmp (om_notin hu) (me_var (i:=14) rfl (by trivial)) (me_ix (om_ix hK hu) (me_var (i:=7) rfl (by trivial)) (me_un om_neg (me_int)) (fun _ _=>rfl)) (by with_unfolding_all rfl)) (fun _=>me_var (i:=14) rfl (by trivial)) (fun _=>rfl) (iy:=6) (o:=false) rfl sc.nd rfl (by trivial) (Or.inl rfl) (by with_unfolding_all rfl)))) (mss_one (ms_if (mt_cmp (om_eq hu) (me_op om_mod (me_var (i:=11) rfl (by trivial)) (me_int)) (me_int) (nomark _)) (mss_one (ms_set (i:=9) (o:=false) rfl sc.nd rfl (by trivial) (me_op om_add (me_var (i:=9) rfl (by trivial)) (me_int)))) (mss_one (ms_if (mt_cmp (om_eq hu) (me_op om_mod (me_var (i:=11) rfl (by trivial)) (me_int)) (me_int) (nomark _)) (mss_one (ms_set (i:=10) (o:=false) rfl sc.nd rfl (by trivial) (me_op om_add (me_var (i:=10) rfl (by trivial)) (me_op om_mod (me_var (i:=12) rfl (by trivial)) (me_op om_pow (me_int) (me_int)))))) (mss_nil))))))))))))) (mss_cons (ms_set (i:=7) (o:=true) rfl sc.nd rfl (by trivial) (me_op om_add (me_var (i:=7) rfl (by trivial)) (me_callC c__law_rimmed hr (by decide) (by rfl) (ma_cons (me_var (i:=6) rfl (by trivial)) (ma_cons (me_var (i:=9) rfl (by trivial)) (ma_cons (me_var (i:=2) rfl (by trivial)) (ma_nil))))))) (mss_one (ms_ret (me_tup (ma_cons (me_callTy cl_tuple (by rfl) B.tuple vb_tuple (ma_cons (me_var (i:=5) rfl (by trivial)) (ma_nil))) (ma_cons (me_callTy cl_tuple (by rfl) B.tuple vb_tuple (ma_cons (me_callB (cl_sorted hu) (by rfl) B.sorted vb_sorted (ma_cons (me_var (i:=7) rfl (by trivial)) (ma_nil))) (ma_nil))) (ma_cons (me_var (i:=10) rfl (by trivial)) (ma_nil))))))))))))))))
theorem sc_is_whole : FnScope (["thing"] : List Str) ["thing"] (defScope s_is_whole):=⟨rfl,rfl,rfl,by decide +kernel,rfl,by decide +kernel,by decide +kernel⟩
set_option maxHeartbeats 4000000 in
theorem cal_is_whole [KFrag] {P : Program} {w : World} {K : Frag} {mg : Str->Option Value} {base : Heap} {fad : Addr} {fd : FuncData} (hK : KFrag.K = K) (B : Bt mg)  (F : Fun K "is_whole" "is_whole" s_is_whole fad fd) (hm : mg "is_whole" = some (.ref fad)) : CalOk P w K mg base 1 "is_whole" 1 v_is_whole:=by
 have sc:=sc_is_whole
 refine cal_mk (ps:=["thing"]) (N:=(["thing"] : List Str)) (k:=0) F hm (F.binds fun _ _ _ _ _ _ us hl=>match us,hl with | [_],_=>rfl) sc o_is_whole (by decide) (by decide) fun cdv A outer s H E hr=>?_
 have hu:=hu20 hr
 exact mss_one (ms_ret (me_and (me_isi .int (me_var (i:=0) rfl (by trivial)) (by rfl) B.isi vb_isinstance (by rfl) B.int vb_int) (me_one (me_not (me_isi .bool (me_var (i:=0) rfl (by trivial)) (by rfl) B.isi vb_isinstance (by rfl) B.bool vb_bool)))))
theorem sc_is_end : FnScope (["thing"] : List Str) ["thing"] (defScope s_is_end):=⟨rfl,rfl,rfl,by decide +kernel,rfl,by decide +kernel,by decide +kernel⟩
set_option maxHeartbeats 4000000 in
theorem cal_is_end [KFrag] {P : Program} {w : World} {K : Frag} {mg : Str->Option Value} {base : Heap} {fad : Addr} {fd : FuncData} (hK : KFrag.K = K) (B : Bt mg) (c_is_whole : CalOk P w K mg base 1 "is_whole" 1 v_is_whole) (F : Fun K "is_end" "is_end" s_is_end fad fd) (hm : mg "is_end" = some (.ref fad)) : CalOk P w K mg base 2 "is_end" 1 v_is_end:=by
 have sc:=sc_is_end
 refine cal_mk (ps:=["thing"]) (N:=(["thing"] : List Str)) (k:=1) F hm (F.binds fun _ _ _ _ _ _ us hl=>match us,hl with | [_],_=>rfl) sc o_is_end (by decide) (by decide) fun cdv A outer s H E hr=>?_
 have hu:=hu20 hr
 exact mss_one (ms_ret (me_and (me_isi .tuple (me_var (i:=0) rfl (by trivial)) (by rfl) B.isi vb_isinstance (by rfl) B.tuple vb_tuple) (me_and (me_cmp (om_eq hu) (me_callB (cl_len hK) (by rfl) B.len vb_len (ma_cons (me_var (i:=0) rfl (by trivial)) (ma_nil))) (me_int) (nomark _)) (me_and (me_callC c_is_whole hr (by decide) (by rfl) (ma_cons (me_ix (om_ix hK hu) (me_var (i:=0) rfl (by trivial)) (me_int) (fun _ _=>rfl)) (ma_nil))) (me_one (me_callC c_is_whole hr (by decide) (by rfl) (ma_cons (me_ix (om_ix hK hu) (me_var (i:=0) rfl (by trivial)) (me_int) (fun _ _=>rfl)) (ma_nil))))))))
theorem sc_mate : FnScope (["net", "end", "one", "other"] : List Str) ["net", "end"] (defScope s_mate):=⟨rfl,rfl,rfl,by decide +kernel,rfl,by decide +kernel,by decide +kernel⟩
set_option maxHeartbeats 4000000 in
theorem cal_mate [KFrag] {P : Program} {w : World} {K : Frag} {mg : Str->Option Value} {base : Heap} {fad : Addr} {fd : FuncData} (hK : KFrag.K = K) (B : Bt mg) (c_is_end : CalOk P w K mg base 2 "is_end" 1 v_is_end) (F : Fun K "mate" "mate" s_mate fad fd) (hm : mg "mate" = some (.ref fad)) : CalOk P w K mg base 3 "mate" 2 v_mate:=by
 have sc:=sc_mate
 refine cal_mk (ps:=["net", "end"]) (N:=(["net", "end", "one", "other"] : List Str)) (k:=2) F hm (F.binds fun _ _ _ _ _ _ us hl=>match us,hl with | [_,_],_=>rfl) sc o_mate (by decide) (by decide) fun cdv A outer s H E hr=>?_
 have hu:=hu20 hr
 exact mss_cons (f:=h_mate) (ms_if (mt_val (me_callC c_is_end hr (by decide) (by rfl) (ma_cons (me_var (i:=1) rfl (by trivial)) (ma_nil)))) (mss_one (ms_for PassesOwn.never rfl (mi_val (me_ix (om_ix hK hu) (me_var (i:=0) rfl (by trivial)) (me_int) (fun _ _=>rfl))) (tgs_tup _ (is:=[2,3]) (by decide)) (pg_tup rfl (pgs_cons (pg_name (i:=2) sc.nd rfl (by trivial)) (pgs_cons (pg_name (i:=3) sc.nd rfl (by trivial)) (pgs_nil)))) (mss_cons (ms_if (mt_cmp (om_eq hu) (me_var (i:=2) rfl (by trivial)) (me_var (i:=1) rfl (by trivial)) (nomark _)) (mss_one (ms_ret (me_var (i:=3) rfl (by trivial)))) (mss_nil)) (mss_one (ms_if (mt_cmp (om_eq hu) (me_var (i:=3) rfl (by trivial)) (me_var (i:=1) rfl (by trivial)) (nomark _)) (mss_one (ms_ret (me_var (i:=2) rfl (by trivial)))) (mss_nil)))))) (mss_nil)) (mss_one (ms_bad))
set_option maxHeartbeats 4000000 in
theorem rai_mate [KFrag] {P : Program} {w : World} {K : Frag} {mg : Str->Option Value} {base : Heap} {fad C : Addr} {fd : FuncData} (hK : KFrag.K = K) (B : Bt mg) (c_is_end : CalOk P w K mg base 2 "is_end" 1 v_is_end) (F : Fun K "mate" "mate" s_mate fad fd) (mC : mg "NoEnd" = some (.ref C)) (xC : excIn K C vMro "ValueError.__new__" = true) : FnOk P w K mg base (CX1 P w C) 3 fad fd ["net", "end"] (spX h_mate 4 2 C):=by
 have sc:=sc_mate
 refine fn_raise (ps:=["net", "end"]) (N:=(["net", "end", "one", "other"] : List Str)) (k:=2) F sc o_mate (by decide) (by decide) fun cdv A outer s H E hr=>?_
 have hu:=hu20 hr
 exact ⟨_,_,rfl,ms_if (mt_val (me_callC c_is_end hr (by decide) (by rfl) (ma_cons (me_var (i:=1) rfl (by trivial)) (ma_nil)))) (mss_one (ms_for PassesOwn.never rfl (mi_val (me_ix (om_ix hK hu) (me_var (i:=0) rfl (by trivial)) (me_int) (fun _ _=>rfl))) (tgs_tup _ (is:=[2,3]) (by decide)) (pg_tup rfl (pgs_cons (pg_name (i:=2) sc.nd rfl (by trivial)) (pgs_cons (pg_name (i:=3) sc.nd rfl (by trivial)) (pgs_nil)))) (mss_cons (ms_if (mt_cmp (om_eq hu) (me_var (i:=2) rfl (by trivial)) (me_var (i:=1) rfl (by trivial)) (nomark _)) (mss_one (ms_ret (me_var (i:=3) rfl (by trivial)))) (mss_nil)) (mss_one (ms_if (mt_cmp (om_eq hu) (me_var (i:=3) rfl (by trivial)) (me_var (i:=1) rfl (by trivial)) (nomark _)) (mss_one (ms_ret (me_var (i:=2) rfl (by trivial)))) (mss_nil)))))) (mss_nil),PS.imp (ps_raise rfl (by rfl) mC xC (pa_cons pe_str pa_nil)) fun D σ H hE=>⟨by decide,fun pins s h2 a us I hx=>raise_cx I hx hE⟩⟩
theorem sc__law_none : FnScope (["net", "end", "caught", "e"] : List Str) ["net", "end"] (defScope s__law_none):=⟨rfl,rfl,rfl,by decide +kernel,rfl,by decide +kernel,by decide +kernel⟩
set_option maxHeartbeats 4000000 in
theorem cal__law_none [KFrag] {P : Program} {w : World} {K : Frag} {mg : Str->Option Value} {base : Heap} {fad fm C c_MillError c_BadKind c_BadRow c_Lacking c_NoName c_NoNet c_NoPair c_NoRule c_NoTerm c_NoValue c_Spent c_Stuck c_Twice c_TwoRules c_Uneven c_Unfit : Addr} {fd fdm : FuncData} (B : Bt mg) (R : FnOk P w K mg base (CX1 P w C) 3 fm fdm ["net", "end"] (spX h_mate 4 2 C)) (hmm : mg "mate" = some (.ref fm)) (hkm : keepIn K (.ref fm) = true) (hbm : Binds K fdm ["net", "end"] []) (xc : XC K C) (xM : exmOne K (.ref C) (.ref c_MillError) = some true) (zV : mg "ValueError" = none) (m_NoEnd : mg "NoEnd" = some (.ref C)) (m_MillError : mg "MillError" = some (.ref c_MillError)) (m_BadKind : mg "BadKind" = some (.ref c_BadKind)) (m_BadRow : mg "BadRow" = some (.ref c_BadRow)) (m_Lacking : mg "Lacking" = some (.ref c_Lacking)) (m_NoName : mg "NoName" = some (.ref c_NoName)) (m_NoNet : mg "NoNet" = some (.ref c_NoNet)) (m_NoPair : mg "NoPair" = some (.ref c_NoPair)) (m_NoRule : mg "NoRule" = some (.ref c_NoRule)) (m_NoTerm : mg "NoTerm" = some (.ref c_NoTerm)) (m_NoValue : mg "NoValue" = some (.ref c_NoValue)) (m_Spent : mg "Spent" = some (.ref c_Spent)) (m_Stuck : mg "Stuck" = some (.ref c_Stuck)) (m_Twice : mg "Twice" = some (.ref c_Twice)) (m_TwoRules : mg "TwoRules" = some (.ref c_TwoRules)) (m_Uneven : mg "Uneven" = some (.ref c_Uneven)) (m_Unfit : mg "Unfit" = some (.ref c_Unfit)) (k1 : kitAny K (.ref C) [.ref c_BadKind,.ref c_BadRow,.ref c_Lacking,.ref c_NoName,.ref c_NoNet,.ref c_NoPair,.ref c_NoRule,.ref c_NoTerm,.ref c_NoValue] = some false) (k2 : kitAny K (.ref C) [.ref c_Spent,.ref c_Stuck,.ref c_Twice,.ref c_TwoRules,.ref c_Uneven,.ref c_Unfit] = some false) (k3 : kitOne K (.ref C) (.ref C) = some true) (k4 : kitOne K (.ref C) (.type "ValueError") = some true) (F : Fun K "_law_none" "_law_none" s__law_none fad fd) (hm : mg "_law_none" = some (.ref fad)) : CalOk P w K mg base 4 "_law_none" 2 v__law_none:=by
 have sc:=sc__law_none
 refine cal_none (ps:=["net", "end"]) (N:=(["net", "end", "caught", "e"] : List Str)) (k:=3) (C:=C) (cs1:=[c_BadKind,c_BadRow,c_Lacking,c_NoName,c_NoNet,c_NoPair,c_NoRule,c_NoTerm,c_NoValue]) (cs2:=[c_Spent,c_Stuck,c_Twice,c_TwoRules,c_Uneven,c_Unfit]) F hm (F.binds fun _ _ _ _ _ _ us hl=>match us,hl with | [_,_],_=>rfl) sc rfl rfl fun cdv A outer s H E hr=>?_
 exact pss_cons (ps_set (i:=2) sc.nd rfl (by trivial) pe_non) (pss_cons (ps_try (ie:=3) rfl rfl R hr (by rfl) hmm hkm hbm (ma_cons (me_var (i:=0) rfl (by trivial)) (ma_cons (me_var (i:=1) rfl (by trivial)) ma_nil)) (by rfl) m_MillError xM sc.nd rfl rfl (fun v=>pss_one (ps_set (i:=2) sc.nd rfl (by trivial) (pe_var (i:=3) rfl (by trivial))))) (pss_cons (ps_if (pt_val (pe_isiT (i:=2) (cs:=[c_BadKind,c_BadRow,c_Lacking,c_NoName,c_NoNet,c_NoPair,c_NoRule,c_NoTerm,c_NoValue]) xc k1 (show 9<=sizeLine from by decide) (by rfl) B.isi rfl (by trivial) (PA.imp (pa_cons (pe_glob (v:=.ref c_BadKind) (by rfl) m_BadKind rfl) (pa_cons (pe_glob (v:=.ref c_BadRow) (by rfl) m_BadRow rfl) (pa_cons (pe_glob (v:=.ref c_Lacking) (by rfl) m_Lacking rfl) (pa_cons (pe_glob (v:=.ref c_NoName) (by rfl) m_NoName rfl) (pa_cons (pe_glob (v:=.ref c_NoNet) (by rfl) m_NoNet rfl) (pa_cons (pe_glob (v:=.ref c_NoPair) (by rfl) m_NoPair rfl) (pa_cons (pe_glob (v:=.ref c_NoRule) (by rfl) m_NoRule rfl) (pa_cons (pe_glob (v:=.ref c_NoTerm) (by rfl) m_NoTerm rfl) (pa_cons (pe_glob (v:=.ref c_NoValue) (by rfl) m_NoValue rfl) (pa_nil)))))))))) fun _ _ _ h=>h))) (pss_one (ps_ret pe_bl)) pss_nil) (pss_cons (ps_if (pt_val (pe_isiT (i:=2) (cs:=[c_Spent,c_Stuck,c_Twice,c_TwoRules,c_Uneven,c_Unfit]) xc k2 (show 6<=sizeLine from by decide) (by rfl) B.isi rfl (by trivial) (PA.imp (pa_cons (pe_glob (v:=.ref c_Spent) (by rfl) m_Spent rfl) (pa_cons (pe_glob (v:=.ref c_Stuck) (by rfl) m_Stuck rfl) (pa_cons (pe_glob (v:=.ref c_Twice) (by rfl) m_Twice rfl) (pa_cons (pe_glob (v:=.ref c_TwoRules) (by rfl) m_TwoRules rfl) (pa_cons (pe_glob (v:=.ref c_Uneven) (by rfl) m_Uneven rfl) (pa_cons (pe_glob (v:=.ref c_Unfit) (by rfl) m_Unfit rfl) (pa_nil))))))) fun _ _ _ h=>h))) (pss_one (ps_ret pe_bl)) pss_nil) (pss_one (ps_ret (pe_and (pe_isi1 (i:=2) (v:=.ref C) xc k3 (fun u' r=>r) (by rfl) B.isi rfl (by trivial) (pe_glob (by rfl) m_NoEnd rfl) rfl rfl) (pe_one (pe_isi1 (i:=2) (v:=.ty "ValueError") xc k4 (fun u' r=>r) (by rfl) B.isi rfl (by trivial) (pe_bltn (by rfl) zV vb_ValueError rfl) rfl rfl))))))))
theorem sc__law_no_ends : FnScope (["net", "stock", "many", "cell", "last", "some", "number", "name", "k"] : List Str) ["net", "stock", "many", "cell"] (defScope s__law_no_ends):=⟨rfl,rfl,rfl,by decide +kernel,rfl,by decide +kernel,by decide +kernel⟩
set_option maxHeartbeats 4000000 in
theorem cal__law_no_ends [KFrag] {P : Program} {w : World} {K : Frag} {mg : Str->Option Value} {base : Heap} {fad : Addr} {fd : FuncData} (hK : KFrag.K = K) (B : Bt mg) (c__law_none : CalOk P w K mg base 4 "_law_none" 2 v__law_none) (F : Fun K "_law_no_ends" "_law_no_ends" s__law_no_ends fad fd) (hm : mg "_law_no_ends" = some (.ref fad)) : CalOk P w K mg base 5 "_law_no_ends" 4 v__law_no_ends:=by
 have sc:=sc__law_no_ends
 refine cal_mk (ps:=["net", "stock", "many", "cell"]) (N:=(["net", "stock", "many", "cell", "last", "some", "number", "name", "k"] : List Str)) (k:=4) F hm (F.binds fun _ _ _ _ _ _ us hl=>match us,hl with | [_,_,_,_],_=>rfl) sc o__law_no_ends (by decide) (by decide) fun cdv A outer s H E hr=>?_
 have hu:=hu20 hr
 exact mss_cons (ms_set (i:=4) (o:=false) rfl sc.nd rfl (by trivial) (me_int)) (mss_cons (ms_if (mt_cmp (om_gt hu) (me_callB (cl_len hK) (by rfl) B.len vb_len (ma_cons (me_ix (om_ix hK hu) (me_var (i:=0) rfl (by trivial)) (me_int) (fun _ _=>rfl)) (ma_nil))) (me_int) (nomark _)) (mss_one (ms_set (i:=4) (o:=false) rfl sc.nd rfl (by trivial) (me_ix (om_ix hK hu) (me_ix (om_ix hK hu) (me_ix (om_ix hK hu) (me_var (i:=0) rfl (by trivial)) (me_int) (fun _ _=>rfl)) (me_un om_neg (me_int)) (fun _ _=>rfl)) (me_int) (fun _ _=>rfl)))) (mss_nil)) (mss_cons (ms_set (i:=5) (o:=true) rfl sc.nd rfl (by trivial) (me_lstP (ma_cons (me_tup (ma_cons (me_int) (ma_cons (me_var (i:=2) rfl (by trivial)) (ma_nil)))) (ma_cons (me_tup (ma_cons (me_int) (ma_cons (me_un om_neg (me_int)) (ma_nil)))) (ma_cons (me_tup (ma_cons (me_int) (ma_cons (me_op om_add (me_op om_add (me_var (i:=2) rfl (by trivial)) (me_int)) (me_op om_mod (me_var (i:=3) rfl (by trivial)) (me_op om_pow (me_int) (me_int)))) (ma_nil)))) (ma_cons (me_tup (ma_cons (me_op om_add (me_op om_add (me_var (i:=4) rfl (by trivial)) (me_int)) (me_op om_mod (me_var (i:=3) rfl (by trivial)) (me_op om_pow (me_int) (me_int)))) (ma_cons (me_int) (ma_nil)))) (ma_cons (me_tup (ma_cons (me_un om_neg (me_int)) (ma_cons (me_int) (ma_nil)))) (ma_nil)))))))) (mss_cons (ms_if (mt_cmp (om_gt hu) (me_var (i:=4) rfl (by trivial)) (me_int) (nomark _)) (mss_cons (ms_unp (me_ix (om_ix hK hu) (me_ix (om_ix hK hu) (me_var (i:=0) rfl (by trivial)) (me_int) (fun _ _=>rfl)) (me_op om_mod (me_var (i:=3) rfl (by trivial)) (me_callB (cl_len hK) (by rfl) B.len vb_len (ma_cons (me_ix (om_ix hK hu) (me_var (i:=0) rfl (by trivial)) (me_int) (fun _ _=>rfl)) (ma_nil)))) (fun _ _=>rfl)) (tgs_tup _ (is:=[6,7]) (by decide)) (pg_tup rfl (pgs_cons (pg_name (i:=6) sc.nd rfl (by trivial)) (pgs_cons (pg_name (i:=7) sc.nd rfl (by trivial)) (pgs_nil))))) (mss_cons (ms_set (i:=5) (o:=true) rfl sc.nd rfl (by trivial) (me_op om_add (me_var (i:=5) rfl (by trivial)) (me_lstP (ma_cons (me_tup (ma_cons (me_var (i:=6) rfl (by trivial)) (ma_cons (me_op om_add (me_ix (om_ix hK hu) (me_var (i:=1) rfl (by trivial)) (me_var (i:=7) rfl (by trivial)) (fun _ _=>rfl)) (me_int)) (ma_nil)))) (ma_cons (me_tup (ma_cons (me_var (i:=6) rfl (by trivial)) (ma_cons (me_op om_add (me_op om_add (me_ix (om_ix hK hu) (me_var (i:=1) rfl (by trivial)) (me_var (i:=7) rfl (by trivial)) (fun _ _=>rfl)) (me_int)) (me_op om_mod (me_var (i:=3) rfl (by trivial)) (me_op om_pow (me_int) (me_int)))) (ma_nil)))) (ma_nil)))))) (mss_cons (ms_set (i:=5) (o:=true) rfl sc.nd rfl (by trivial) (me_op om_add (me_var (i:=5) rfl (by trivial)) (me_lstP (ma_cons (me_tup (ma_cons (me_var (i:=6) rfl (by trivial)) (ma_cons (me_un om_neg (me_int)) (ma_nil)))) (ma_cons (me_tup (ma_cons (me_un om_neg (me_var (i:=6) rfl (by trivial))) (ma_cons (me_int) (ma_nil)))) (ma_nil)))))) (mss_one (ms_if (mt_cmp (om_notin hu) (me_op om_add (me_var (i:=6) rfl (by trivial)) (me_int)) (me_comp' (ownN:=(["piece"] : List Str)) (show CompSc (["net", "stock", "many", "cell", "last", "some", "number", "name", "k"] : List Str) (defScope s__law_no_ends) _ (["piece"] : List Str) from ⟨rfl,by decide +kernel,by decide +kernel,by decide +kernel,by decide +kernel,by decide +kernel,by decide +kernel⟩) (n:=9) (m:=1) rfl rfl rfl (mi_val (me_ix (om_ix hK hu) (me_var (i:=0) rfl (by trivial)) (me_int) (fun _ _=>rfl))) (tgc_one 9) (fun _=>pg_name (i:=9) (show ((List.map (hideN (["piece"] : List Str)) (["net", "stock", "many", "cell", "last", "some", "number", "name", "k"] : List Str) ++ (["piece"] : List Str)) : List Str).Nodup from by decide +kernel) rfl (by trivial)) (fun _=>me_ix (om_ix hK hu) (me_var (i:=9) rfl (by trivial)) (me_int) (fun _ _=>rfl)) (fun _=>rfl)) (by with_unfolding_all rfl)) (mss_one (ms_app (i:=5) rfl rfl (by trivial) (me_tup (ma_cons (me_op om_add (me_var (i:=6) rfl (by trivial)) (me_int)) (ma_cons (me_int) (ma_nil)))))) (mss_nil)))))) (mss_nil)) (mss_cons (ms_for PassesOwn.never rfl (mi_rng1 (by rfl) B.range (ma_cons (me_callB (cl_len hK) (by rfl) B.len vb_len (ma_cons (me_var (i:=5) rfl (by trivial)) (ma_nil))) (ma_nil))) (tgs_one (i:=8) rfl) (pg_name (i:=8) sc.nd rfl (by trivial)) (mss_one (ms_if (mt_not (mt_val (me_callC c__law_none hr (by decide) (by rfl) (ma_cons (me_var (i:=0) rfl (by trivial)) (ma_cons (me_ix (om_ix hK hu) (me_var (i:=5) rfl (by trivial)) (me_op om_mod (me_op om_add (me_var (i:=3) rfl (by trivial)) (me_var (i:=8) rfl (by trivial))) (me_callB (cl_len hK) (by rfl) B.len vb_len (ma_cons (me_var (i:=5) rfl (by trivial)) (ma_nil)))) (fun _ _=>rfl)) (ma_nil)))))) (mss_one (ms_ret (me_bl))) (mss_nil)))) (mss_one (ms_ret (me_bl)))))))
theorem sc__law_cell_at : FnScope (["script", "k"] : List Str) ["script", "k"] (defScope s__law_cell_at):=⟨rfl,rfl,rfl,by decide +kernel,rfl,by decide +kernel,by decide +kernel⟩
set_option maxHeartbeats 4000000 in
theorem cal__law_cell_at [KFrag] {P : Program} {w : World} {K : Frag} {mg : Str->Option Value} {base : Heap} {fad : Addr} {fd : FuncData} (hK : KFrag.K = K) (B : Bt mg)  (F : Fun K "_law_cell_at" "_law_cell_at" s__law_cell_at fad fd) (hm : mg "_law_cell_at" = some (.ref fad)) : CalOk P w K mg base 1 "_law_cell_at" 2 v__law_cell_at:=by
 have sc:=sc__law_cell_at
 refine cal_mk (ps:=["script", "k"]) (N:=(["script", "k"] : List Str)) (k:=0) F hm (F.binds fun _ _ _ _ _ _ us hl=>match us,hl with | [_,_],_=>rfl) sc o__law_cell_at (by decide) (by decide) fun cdv A outer s H E hr=>?_
 have hu:=hu20 hr
 exact mss_cons (ms_if (mt_cmp (om_lt hu) (me_var (i:=1) rfl (by trivial)) (me_callB (cl_len hK) (by rfl) B.len vb_len (ma_cons (me_var (i:=0) rfl (by trivial)) (ma_nil))) (nomark _)) (mss_one (ms_ret (me_ix (om_ix hK hu) (me_var (i:=0) rfl (by trivial)) (me_var (i:=1) rfl (by trivial)) (fun _ _=>rfl)))) (mss_nil)) (mss_one (ms_ret (me_int)))
theorem sc__law_whole : FnScope (["found"] : List Str) ["found"] (defScope s__law_whole):=⟨rfl,rfl,rfl,by decide +kernel,rfl,by decide +kernel,by decide +kernel⟩
set_option maxHeartbeats 4000000 in
theorem cal__law_whole [KFrag] {P : Program} {w : World} {K : Frag} {mg : Str->Option Value} {base : Heap} {fad : Addr} {fd : FuncData} (hK : KFrag.K = K) (B : Bt mg)  (F : Fun K "_law_whole" "_law_whole" s__law_whole fad fd) (hm : mg "_law_whole" = some (.ref fad)) : CalOk P w K mg base 1 "_law_whole" 1 v__law_whole:=by
 have sc:=sc__law_whole
 refine cal_mk (ps:=["found"]) (N:=(["found"] : List Str)) (k:=0) F hm (F.binds fun _ _ _ _ _ _ us hl=>match us,hl with | [_],_=>rfl) sc o__law_whole (by decide) (by decide) fun cdv A outer s H E hr=>?_
 have hu:=hu20 hr
 exact mss_one (ms_ret (me_and (me_isi .int (me_var (i:=0) rfl (by trivial)) (by rfl) B.isi vb_isinstance (by rfl) B.int vb_int) (me_one (me_not (me_isi .bool (me_var (i:=0) rfl (by trivial)) (by rfl) B.isi vb_isinstance (by rfl) B.bool vb_bool)))))
theorem sc_rim_among : FnScope (["ends"] : List Str) ["ends"] (defScope s_rim_among):=⟨rfl,rfl,rfl,by decide +kernel,rfl,by decide +kernel,by decide +kernel⟩
set_option maxHeartbeats 4000000 in
theorem cal_rim_among [KFrag] {P : Program} {w : World} {K : Frag} {mg : Str->Option Value} {base : Heap} {fad : Addr} {fd : FuncData} (hK : KFrag.K = K) (B : Bt mg)  (F : Fun K "rim_among" "rim_among" s_rim_among fad fd) (hm : mg "rim_among" = some (.ref fad)) : CalOk P w K mg base 1 "rim_among" 1 v_rim_among:=by
 have sc:=sc_rim_among
 refine cal_mk (ps:=["ends"]) (N:=(["ends"] : List Str)) (k:=0) F hm (F.binds fun _ _ _ _ _ _ us hl=>match us,hl with | [_],_=>rfl) sc o_rim_among (by decide) (by decide) fun cdv A outer s H E hr=>?_
 have hu:=hu20 hr
 exact mss_one (ms_ret (me_callB (cl_len hK) (by rfl) B.len vb_len (ma_cons (me_compif' (ownN:=(["end"] : List Str)) (show CompSc (["ends"] : List Str) (defScope s_rim_among) _ (["end"] : List Str) from ⟨rfl,by decide +kernel,by decide +kernel,by decide +kernel,by decide +kernel,by decide +kernel,by decide +kernel⟩) (n:=1) (m:=1) rfl rfl rfl (mi_val (me_var (i:=0) rfl (by trivial))) (tgc_one 1) (fun _=>pg_name (i:=1) (show ((List.map (hideN (["end"] : List Str)) (["ends"] : List Str) ++ (["end"] : List Str)) : List Str).Nodup from by decide +kernel) rfl (by trivial)) (fun _=>mt_cmp (om_eq hu) (me_ix (om_ix hK hu) (me_var (i:=1) rfl (by trivial)) (me_int) (fun _ _=>rfl)) (me_int) (nomark _)) (fun _=>me_var (i:=1) rfl (by trivial)) (fun _=>rfl)) (ma_nil))))
theorem sc_ends_of : FnScope (["ties", "ends", "one", "other"] : List Str) ["ties"] (defScope s_ends_of):=⟨rfl,rfl,rfl,by decide +kernel,rfl,by decide +kernel,by decide +kernel⟩
set_option maxHeartbeats 4000000 in
theorem cal_ends_of [KFrag] {P : Program} {w : World} {K : Frag} {mg : Str->Option Value} {base : Heap} {fad : Addr} {fd : FuncData} (hK : KFrag.K = K) (B : Bt mg)  (F : Fun K "ends_of" "ends_of" s_ends_of fad fd) (hm : mg "ends_of" = some (.ref fad)) : CalOk P w K mg base 1 "ends_of" 1 v_ends_of:=by
 have sc:=sc_ends_of
 refine cal_mk (ps:=["ties"]) (N:=(["ties", "ends", "one", "other"] : List Str)) (k:=0) F hm (F.binds fun _ _ _ _ _ _ us hl=>match us,hl with | [_],_=>rfl) sc o_ends_of (by decide) (by decide) fun cdv A outer s H E hr=>?_
 have hu:=hu20 hr
 exact mss_cons (ms_set (i:=1) (o:=true) rfl sc.nd rfl (by trivial) (me_lst (ma_nil))) (mss_cons (ms_forV (i:=0) rfl PassesOwn.never rfl rfl (by trivial) (tgs_tup _ (is:=[2,3]) (by decide)) (pg_tup rfl (pgs_cons (pg_name (i:=2) sc.nd rfl (by trivial)) (pgs_cons (pg_name (i:=3) sc.nd rfl (by trivial)) (pgs_nil)))) (mss_cons (ms_app (i:=1) rfl rfl (by trivial) (me_var (i:=2) rfl (by trivial))) (mss_one (ms_app (i:=1) rfl rfl (by trivial) (me_var (i:=3) rfl (by trivial)))))) (mss_one (ms_retV (i:=1) rfl rfl (by trivial))))
theorem sc_rim : FnScope (["net"] : List Str) ["net"] (defScope s_rim):=⟨rfl,rfl,rfl,by decide +kernel,rfl,by decide +kernel,by decide +kernel⟩
set_option maxHeartbeats 4000000 in
theorem cal_rim [KFrag] {P : Program} {w : World} {K : Frag} {mg : Str->Option Value} {base : Heap} {fad : Addr} {fd : FuncData} (hK : KFrag.K = K) (B : Bt mg) (c_ends_of : CalOk P w K mg base 1 "ends_of" 1 v_ends_of) (c_rim_among : CalOk P w K mg base 1 "rim_among" 1 v_rim_among) (F : Fun K "rim" "rim" s_rim fad fd) (hm : mg "rim" = some (.ref fad)) : CalOk P w K mg base 2 "rim" 1 v_rim:=by
 have sc:=sc_rim
 refine cal_mk (ps:=["net"]) (N:=(["net"] : List Str)) (k:=1) F hm (F.binds fun _ _ _ _ _ _ us hl=>match us,hl with | [_],_=>rfl) sc o_rim (by decide) (by decide) fun cdv A outer s H E hr=>?_
 have hu:=hu20 hr
 exact mss_one (ms_ret (me_callC c_rim_among hr (by decide) (by rfl) (ma_cons (me_callC c_ends_of hr (by decide) (by rfl) (ma_cons (me_ix (om_ix hK hu) (me_var (i:=0) rfl (by trivial)) (me_int) (fun _ _=>rfl)) (ma_nil))) (ma_nil))))
theorem sc_greatest : FnScope (["net"] : List Str) ["net"] (defScope s_greatest):=⟨rfl,rfl,rfl,by decide +kernel,rfl,by decide +kernel,by decide +kernel⟩
set_option maxHeartbeats 4000000 in
theorem cal_greatest [KFrag] {P : Program} {w : World} {K : Frag} {mg : Str->Option Value} {base : Heap} {fad : Addr} {fd : FuncData} (hK : KFrag.K = K) (B : Bt mg)  (F : Fun K "greatest" "greatest" s_greatest fad fd) (hm : mg "greatest" = some (.ref fad)) : CalOk P w K mg base 1 "greatest" 1 v_greatest:=by
 have sc:=sc_greatest
 refine cal_mk (ps:=["net"]) (N:=(["net"] : List Str)) (k:=0) F hm (F.binds fun _ _ _ _ _ _ us hl=>match us,hl with | [_],_=>rfl) sc o_greatest (by decide) (by decide) fun cdv A outer s H E hr=>?_
 have hu:=hu20 hr
 exact mss_cons (ms_if (mt_not (mt_val (me_ix (om_ix hK hu) (me_var (i:=0) rfl (by trivial)) (me_int) (fun _ _=>rfl)))) (mss_one (ms_ret (me_int))) (mss_nil)) (mss_one (ms_ret (me_ix (om_ix hK hu) (me_ix (om_ix hK hu) (me_ix (om_ix hK hu) (me_var (i:=0) rfl (by trivial)) (me_int) (fun _ _=>rfl)) (me_un om_neg (me_int)) (fun _ _=>rfl)) (me_int) (fun _ _=>rfl))))
theorem sc__law_is_end : FnScope (["found", "due"] : List Str) ["found", "due"] (defScope s__law_is_end):=⟨rfl,rfl,rfl,by decide +kernel,rfl,by decide +kernel,by decide +kernel⟩
set_option maxHeartbeats 4000000 in
theorem cal__law_is_end [KFrag] {P : Program} {w : World} {K : Frag} {mg : Str->Option Value} {base : Heap} {fad : Addr} {fd : FuncData} (hK : KFrag.K = K) (B : Bt mg) (c__law_whole : CalOk P w K mg base 1 "_law_whole" 1 v__law_whole) (F : Fun K "_law_is_end" "_law_is_end" s__law_is_end fad fd) (hm : mg "_law_is_end" = some (.ref fad)) : CalOk P w K mg base 2 "_law_is_end" 2 v__law_is_end:=by
 have sc:=sc__law_is_end
 refine cal_mk (ps:=["found", "due"]) (N:=(["found", "due"] : List Str)) (k:=1) F hm (F.binds fun _ _ _ _ _ _ us hl=>match us,hl with | [_,_],_=>rfl) sc o__law_is_end (by decide) (by decide) fun cdv A outer s H E hr=>?_
 have hu:=hu20 hr
 exact mss_cons (ms_if (PW.pt (mw_or (mt_not (mt_val (me_isi .tuple (me_var (i:=0) rfl (by trivial)) (by rfl) B.isi vb_isinstance (by rfl) B.tuple vb_tuple))) (mw_or1 (mt_cmp (om_ne hu) (me_callB (cl_len hK) (by rfl) B.len vb_len (ma_cons (me_var (i:=0) rfl (by trivial)) (ma_nil))) (me_int) (nomark _))))) (mss_one (ms_ret (me_bl))) (mss_nil)) (mss_one (ms_ret (me_and (me_callC c__law_whole hr (by decide) (by rfl) (ma_cons (me_ix (om_ix hK hu) (me_var (i:=0) rfl (by trivial)) (me_int) (fun _ _=>rfl)) (ma_nil))) (me_and (me_callC c__law_whole hr (by decide) (by rfl) (ma_cons (me_ix (om_ix hK hu) (me_var (i:=0) rfl (by trivial)) (me_int) (fun _ _=>rfl)) (ma_nil))) (me_one (me_cmp (om_eq hu) (me_var (i:=0) rfl (by trivial)) (me_var (i:=1) rfl (by trivial)) (nomark _)))))))
theorem sc_law : FnScope (["script", "stock", "net", "many", "tie", "one", "other", "last"] : List Str) ["script"] (defScope s_law):=⟨rfl,rfl,rfl,by decide +kernel,rfl,by decide +kernel,by decide +kernel⟩
set_option maxHeartbeats 4000000 in
theorem ok_law [KFrag] {P : Program} {w : World} {K : Frag} {mg : Str->Option Value} {base : Heap} {fad : Addr} {fd : FuncData} (hK : KFrag.K = K) (B : Bt mg) (c__law_cell_at : CalOk P w K mg base 1 "_law_cell_at" 2 v__law_cell_at) (c__law_stock : CalOk P w K mg base 1 "_law_stock" 2 v__law_stock) (c__law_grown : CalOk P w K mg base 2 "_law_grown" 3 v__law_grown) (c__law_no_ends : CalOk P w K mg base 5 "_law_no_ends" 4 v__law_no_ends) (c_mate : CalOk P w K mg base 3 "mate" 2 v_mate) (c__law_is_end : CalOk P w K mg base 2 "_law_is_end" 2 v__law_is_end) (c_rim : CalOk P w K mg base 2 "rim" 1 v_rim) (c__law_whole : CalOk P w K mg base 1 "_law_whole" 1 v__law_whole) (c_greatest : CalOk P w K mg base 1 "greatest" 1 v_greatest) (F : Fun K "law" "law" s_law fad fd) : FnOk P w K mg base CX0 6 fad fd ["script"] (spD v_law 1):=by
 have sc:=sc_law
 refine fn_ok (ps:=["script"]) (N:=(["script", "stock", "net", "many", "tie", "one", "other", "last"] : List Str)) (k:=5) F sc o_law (by decide) (by decide) fun cdv A outer s H E hr=>?_
 have hu:=hu20 hr
 exact mss_cons (ms_set (i:=1) (o:=false) rfl sc.nd rfl (by trivial) (me_callC c__law_stock hr (by decide) (by rfl) (ma_cons (me_callC c__law_cell_at hr (by decide) (by rfl) (ma_cons (me_var (i:=0) rfl (by trivial)) (ma_cons (me_int) (ma_nil)))) (ma_cons (me_callC c__law_cell_at hr (by decide) (by rfl) (ma_cons (me_var (i:=0) rfl (by trivial)) (ma_cons (me_int) (ma_nil)))) (ma_nil))))) (mss_cons (ms_set (i:=2) (o:=false) rfl sc.nd rfl (by trivial) (me_callC c__law_grown hr (by decide) (by rfl) (ma_cons (me_var (i:=1) rfl (by trivial)) (ma_cons (me_sl hK (me_var (i:=0) rfl (by trivial)) (mo_some (me_int)) (mo_some (me_int))) (ma_cons (me_callC c__law_cell_at hr (by decide) (by rfl) (ma_cons (me_var (i:=0) rfl (by trivial)) (ma_cons (me_int) (ma_nil)))) (ma_nil)))))) (mss_cons (ms_set (i:=3) (o:=false) rfl sc.nd rfl (by trivial) (me_int)) (mss_cons (ms_for PassesOwn.never rfl (mi_val (me_ix (om_ix hK hu) (me_var (i:=2) rfl (by trivial)) (me_int) (fun _ _=>rfl))) (tgs_one (i:=4) rfl) (pg_name (i:=4) sc.nd rfl (by trivial)) (mss_one (ms_set (i:=3) (o:=false) rfl sc.nd rfl (by trivial) (me_op om_add (me_var (i:=3) rfl (by trivial)) (me_callB (cl_len hK) (by rfl) B.len vb_len (ma_cons (me_compif' (ownN:=(["end"] : List Str)) (show CompSc (["script", "stock", "net", "many", "tie", "one", "other", "last"] : List Str) (defScope s_law) _ (["end"] : List Str) from ⟨rfl,by decide +kernel,by decide +kernel,by decide +kernel,by decide +kernel,by decide +kernel,by decide +kernel⟩) (n:=8) (m:=1) rfl rfl rfl (mi_val (me_var (i:=4) rfl (by trivial))) (tgc_one 8) (fun _=>pg_name (i:=8) (show ((List.map (hideN (["end"] : List Str)) (["script", "stock", "net", "many", "tie", "one", "other", "last"] : List Str) ++ (["end"] : List Str)) : List Str).Nodup from by decide +kernel) rfl (by trivial)) (fun _=>mt_cmp (om_eq hu) (me_ix (om_ix hK hu) (me_var (i:=8) rfl (by trivial)) (me_int) (fun _ _=>rfl)) (me_int) (nomark _)) (fun _=>me_var (i:=8) rfl (by trivial)) (fun _=>rfl)) (ma_nil))))))) (mss_cons (ms_if (mt_not (mt_val (me_callC c__law_no_ends hr (by decide) (by rfl) (ma_cons (me_var (i:=2) rfl (by trivial)) (ma_cons (me_var (i:=1) rfl (by trivial)) (ma_cons (me_var (i:=3) rfl (by trivial)) (ma_cons (me_callC c__law_cell_at hr (by decide) (by rfl) (ma_cons (me_var (i:=0) rfl (by trivial)) (ma_cons (me_int) (ma_nil)))) (ma_nil)))))))) (mss_one (ms_ret (me_bl))) (mss_nil)) (mss_cons (ms_for PassesOwn.never rfl (mi_val (me_ix (om_ix hK hu) (me_var (i:=2) rfl (by trivial)) (me_int) (fun _ _=>rfl))) (tgs_tup _ (is:=[5,6]) (by decide)) (pg_tup rfl (pgs_cons (pg_name (i:=5) sc.nd rfl (by trivial)) (pgs_cons (pg_name (i:=6) sc.nd rfl (by trivial)) (pgs_nil)))) (mss_one (ms_if (PW.pt (mw_or (mt_not (mt_val (me_callC c__law_is_end hr (by decide) (by rfl) (ma_cons (me_callC c_mate hr (by decide) (by rfl) (ma_cons (me_var (i:=2) rfl (by trivial)) (ma_cons (me_var (i:=5) rfl (by trivial)) (ma_nil)))) (ma_cons (me_var (i:=6) rfl (by trivial)) (ma_nil)))))) (mw_or1 (mt_not (mt_val (me_callC c__law_is_end hr (by decide) (by rfl) (ma_cons (me_callC c_mate hr (by decide) (by rfl) (ma_cons (me_var (i:=2) rfl (by trivial)) (ma_cons (me_var (i:=6) rfl (by trivial)) (ma_nil)))) (ma_cons (me_var (i:=5) rfl (by trivial)) (ma_nil))))))))) (mss_one (ms_ret (me_bl))) (mss_nil)))) (mss_cons (ms_set (i:=7) (o:=false) rfl sc.nd rfl (by trivial) (me_callB (om_max hu (by rfl)) (by rfl) B.max vb_max (ma_cons (me_op om_add (me_comp' (ownN:=(["piece"] : List Str)) (show CompSc (["script", "stock", "net", "many", "tie", "one", "other", "last"] : List Str) (defScope s_law) _ (["piece"] : List Str) from ⟨rfl,by decide +kernel,by decide +kernel,by decide +kernel,by decide +kernel,by decide +kernel,by decide +kernel⟩) (n:=8) (m:=1) rfl rfl rfl (mi_val (me_ix (om_ix hK hu) (me_var (i:=2) rfl (by trivial)) (me_int) (fun _ _=>rfl))) (tgc_one 8) (fun _=>pg_name (i:=8) (show ((List.map (hideN (["piece"] : List Str)) (["script", "stock", "net", "many", "tie", "one", "other", "last"] : List Str) ++ (["piece"] : List Str)) : List Str).Nodup from by decide +kernel) rfl (by trivial)) (fun _=>me_ix (om_ix hK hu) (me_var (i:=8) rfl (by trivial)) (me_int) (fun _ _=>rfl)) (fun _=>rfl)) (me_lst (ma_cons (me_int) (ma_nil)))) (ma_nil)))) (mss_cons (ms_if (PW.pt (mw_or (mt_not (mt_val (me_callC c__law_whole hr (by decide) (by rfl) (ma_cons (me_callC c_rim hr (by decide) (by rfl) (ma_cons (me_var (i:=2) rfl (by trivial)) (ma_nil))) (ma_nil))))) (mw_or (mt_cmp (om_ne hu) (me_callC c_rim hr (by decide) (by rfl) (ma_cons (me_var (i:=2) rfl (by trivial)) (ma_nil))) (me_var (i:=3) rfl (by trivial)) (nomark _)) (mw_or (mt_not (mt_val (me_callC c__law_whole hr (by decide) (by rfl) (ma_cons (me_callC c_greatest hr (by decide) (by rfl) (ma_cons (me_var (i:=2) rfl (by trivial)) (ma_nil))) (ma_nil))))) (mw_or1 (mt_cmp (om_ne hu) (me_callC c_greatest hr (by decide) (by rfl) (ma_cons (me_var (i:=2) rfl (by trivial)) (ma_nil))) (me_var (i:=7) rfl (by trivial)) (nomark _))))))) (mss_one (ms_ret (me_bl))) (mss_nil)) (mss_one (ms_ret (me_callC c__law_no_ends hr (by decide) (by rfl) (ma_cons (me_var (i:=2) rfl (by trivial)) (ma_cons (me_var (i:=1) rfl (by trivial)) (ma_cons (me_var (i:=3) rfl (by trivial)) (ma_cons (me_callC c__law_cell_at hr (by decide) (by rfl) (ma_cons (me_var (i:=0) rfl (by trivial)) (ma_cons (me_int) (ma_nil)))) (ma_nil)))))))))))))))
theorem all_mk {l : OpenLaw} {w : World} {K : Frag} {h : Heap} {mg : Str->Option Value} {fa : Addr} (X : K.In h) (G : h.Ns mainGlobals mg) (hfa : mg "law" = some (.ref fa))
  {f0 : Addr} {oc0 kV0 dc0 pm0 cd0 ct0 : Value} {od0 an0 : Option Addr} {sl0 : Array (Option Value)} (a0 : nsIn K mainGlobals "_law_stock" = some (some (.ref f0))) (l0 : K.lookup f0 = some ⟨oc0,od0,.func (fnOf "_law_stock" "_law_stock" (defArgs s__law_stock) (defBody s__law_stock) (defScope s__law_stock) .none kV0 dc0 pm0 an0 cd0 ct0),sl0⟩) (c0 : codeIn K cd0 "_law_stock" = true) (k0 : keepIn K (.ref f0) = true)
  {f1 : Addr} {oc1 kV1 dc1 pm1 cd1 ct1 : Value} {od1 an1 : Option Addr} {sl1 : Array (Option Value)} (a1 : nsIn K mainGlobals "_law_rimmed" = some (some (.ref f1))) (l1 : K.lookup f1 = some ⟨oc1,od1,.func (fnOf "_law_rimmed" "_law_rimmed" (defArgs s__law_rimmed) (defBody s__law_rimmed) (defScope s__law_rimmed) .none kV1 dc1 pm1 an1 cd1 ct1),sl1⟩) (c1 : codeIn K cd1 "_law_rimmed" = true) (k1 : keepIn K (.ref f1) = true)
  {f2 : Addr} {oc2 kV2 dc2 pm2 cd2 ct2 : Value} {od2 an2 : Option Addr} {sl2 : Array (Option Value)} (a2 : nsIn K mainGlobals "_law_tied" = some (some (.ref f2))) (l2 : K.lookup f2 = some ⟨oc2,od2,.func (fnOf "_law_tied" "_law_tied" (defArgs s__law_tied) (defBody s__law_tied) (defScope s__law_tied) .none kV2 dc2 pm2 an2 cd2 ct2),sl2⟩) (c2 : codeIn K cd2 "_law_tied" = true) (k2 : keepIn K (.ref f2) = true)
  {f3 : Addr} {oc3 kV3 dc3 pm3 cd3 ct3 : Value} {od3 an3 : Option Addr} {sl3 : Array (Option Value)} (a3 : nsIn K mainGlobals "_law_grown" = some (some (.ref f3))) (l3 : K.lookup f3 = some ⟨oc3,od3,.func (fnOf "_law_grown" "_law_grown" (defArgs s__law_grown) (defBody s__law_grown) (defScope s__law_grown) .none kV3 dc3 pm3 an3 cd3 ct3),sl3⟩) (c3 : codeIn K cd3 "_law_grown" = true) (k3 : keepIn K (.ref f3) = true)
  {f4 : Addr} {oc4 kV4 dc4 pm4 cd4 ct4 : Value} {od4 an4 : Option Addr} {sl4 : Array (Option Value)} (a4 : nsIn K mainGlobals "is_whole" = some (some (.ref f4))) (l4 : K.lookup f4 = some ⟨oc4,od4,.func (fnOf "is_whole" "is_whole" (defArgs s_is_whole) (defBody s_is_whole) (defScope s_is_whole) .none kV4 dc4 pm4 an4 cd4 ct4),sl4⟩) (c4 : codeIn K cd4 "is_whole" = true) (k4 : keepIn K (.ref f4) = true)
  {f5 : Addr} {oc5 kV5 dc5 pm5 cd5 ct5 : Value} {od5 an5 : Option Addr} {sl5 : Array (Option Value)} (a5 : nsIn K mainGlobals "is_end" = some (some (.ref f5))) (l5 : K.lookup f5 = some ⟨oc5,od5,.func (fnOf "is_end" "is_end" (defArgs s_is_end) (defBody s_is_end) (defScope s_is_end) .none kV5 dc5 pm5 an5 cd5 ct5),sl5⟩) (c5 : codeIn K cd5 "is_end" = true) (k5 : keepIn K (.ref f5) = true)
  {f6 : Addr} {oc6 kV6 dc6 pm6 cd6 ct6 : Value} {od6 an6 : Option Addr} {sl6 : Array (Option Value)} (a6 : nsIn K mainGlobals "mate" = some (some (.ref f6))) (l6 : K.lookup f6 = some ⟨oc6,od6,.func (fnOf "mate" "mate" (defArgs s_mate) (defBody s_mate) (defScope s_mate) .none kV6 dc6 pm6 an6 cd6 ct6),sl6⟩) (c6 : codeIn K cd6 "mate" = true) (k6 : keepIn K (.ref f6) = true)
  {f7 : Addr} {oc7 kV7 dc7 pm7 cd7 ct7 : Value} {od7 an7 : Option Addr} {sl7 : Array (Option Value)} (a7 : nsIn K mainGlobals "_law_none" = some (some (.ref f7))) (l7 : K.lookup f7 = some ⟨oc7,od7,.func (fnOf "_law_none" "_law_none" (defArgs s__law_none) (defBody s__law_none) (defScope s__law_none) .none kV7 dc7 pm7 an7 cd7 ct7),sl7⟩) (c7 : codeIn K cd7 "_law_none" = true) (k7 : keepIn K (.ref f7) = true)
  {f8 : Addr} {oc8 kV8 dc8 pm8 cd8 ct8 : Value} {od8 an8 : Option Addr} {sl8 : Array (Option Value)} (a8 : nsIn K mainGlobals "_law_no_ends" = some (some (.ref f8))) (l8 : K.lookup f8 = some ⟨oc8,od8,.func (fnOf "_law_no_ends" "_law_no_ends" (defArgs s__law_no_ends) (defBody s__law_no_ends) (defScope s__law_no_ends) .none kV8 dc8 pm8 an8 cd8 ct8),sl8⟩) (c8 : codeIn K cd8 "_law_no_ends" = true) (k8 : keepIn K (.ref f8) = true)
  {f9 : Addr} {oc9 kV9 dc9 pm9 cd9 ct9 : Value} {od9 an9 : Option Addr} {sl9 : Array (Option Value)} (a9 : nsIn K mainGlobals "_law_cell_at" = some (some (.ref f9))) (l9 : K.lookup f9 = some ⟨oc9,od9,.func (fnOf "_law_cell_at" "_law_cell_at" (defArgs s__law_cell_at) (defBody s__law_cell_at) (defScope s__law_cell_at) .none kV9 dc9 pm9 an9 cd9 ct9),sl9⟩) (c9 : codeIn K cd9 "_law_cell_at" = true) (k9 : keepIn K (.ref f9) = true)
  {f10 : Addr} {oc10 kV10 dc10 pm10 cd10 ct10 : Value} {od10 an10 : Option Addr} {sl10 : Array (Option Value)} (a10 : nsIn K mainGlobals "_law_whole" = some (some (.ref f10))) (l10 : K.lookup f10 = some ⟨oc10,od10,.func (fnOf "_law_whole" "_law_whole" (defArgs s__law_whole) (defBody s__law_whole) (defScope s__law_whole) .none kV10 dc10 pm10 an10 cd10 ct10),sl10⟩) (c10 : codeIn K cd10 "_law_whole" = true) (k10 : keepIn K (.ref f10) = true)
  {f11 : Addr} {oc11 kV11 dc11 pm11 cd11 ct11 : Value} {od11 an11 : Option Addr} {sl11 : Array (Option Value)} (a11 : nsIn K mainGlobals "rim_among" = some (some (.ref f11))) (l11 : K.lookup f11 = some ⟨oc11,od11,.func (fnOf "rim_among" "rim_among" (defArgs s_rim_among) (defBody s_rim_among) (defScope s_rim_among) .none kV11 dc11 pm11 an11 cd11 ct11),sl11⟩) (c11 : codeIn K cd11 "rim_among" = true) (k11 : keepIn K (.ref f11) = true)
  {f12 : Addr} {oc12 kV12 dc12 pm12 cd12 ct12 : Value} {od12 an12 : Option Addr} {sl12 : Array (Option Value)} (a12 : nsIn K mainGlobals "ends_of" = some (some (.ref f12))) (l12 : K.lookup f12 = some ⟨oc12,od12,.func (fnOf "ends_of" "ends_of" (defArgs s_ends_of) (defBody s_ends_of) (defScope s_ends_of) .none kV12 dc12 pm12 an12 cd12 ct12),sl12⟩) (c12 : codeIn K cd12 "ends_of" = true) (k12 : keepIn K (.ref f12) = true)
  {f13 : Addr} {oc13 kV13 dc13 pm13 cd13 ct13 : Value} {od13 an13 : Option Addr} {sl13 : Array (Option Value)} (a13 : nsIn K mainGlobals "rim" = some (some (.ref f13))) (l13 : K.lookup f13 = some ⟨oc13,od13,.func (fnOf "rim" "rim" (defArgs s_rim) (defBody s_rim) (defScope s_rim) .none kV13 dc13 pm13 an13 cd13 ct13),sl13⟩) (c13 : codeIn K cd13 "rim" = true) (k13 : keepIn K (.ref f13) = true)
  {f14 : Addr} {oc14 kV14 dc14 pm14 cd14 ct14 : Value} {od14 an14 : Option Addr} {sl14 : Array (Option Value)} (a14 : nsIn K mainGlobals "greatest" = some (some (.ref f14))) (l14 : K.lookup f14 = some ⟨oc14,od14,.func (fnOf "greatest" "greatest" (defArgs s_greatest) (defBody s_greatest) (defScope s_greatest) .none kV14 dc14 pm14 an14 cd14 ct14),sl14⟩) (c14 : codeIn K cd14 "greatest" = true) (k14 : keepIn K (.ref f14) = true)
  {f15 : Addr} {oc15 kV15 dc15 pm15 cd15 ct15 : Value} {od15 an15 : Option Addr} {sl15 : Array (Option Value)} (a15 : nsIn K mainGlobals "_law_is_end" = some (some (.ref f15))) (l15 : K.lookup f15 = some ⟨oc15,od15,.func (fnOf "_law_is_end" "_law_is_end" (defArgs s__law_is_end) (defBody s__law_is_end) (defScope s__law_is_end) .none kV15 dc15 pm15 an15 cd15 ct15),sl15⟩) (c15 : codeIn K cd15 "_law_is_end" = true) (k15 : keepIn K (.ref f15) = true)
  {f16 : Addr} {oc16 kV16 dc16 pm16 cd16 ct16 : Value} {od16 an16 : Option Addr} {sl16 : Array (Option Value)} (a16 : nsIn K mainGlobals "law" = some (some (.ref f16))) (l16 : K.lookup f16 = some ⟨oc16,od16,.func (fnOf "law" "law" (defArgs s_law) (defBody s_law) (defScope s_law) .none kV16 dc16 pm16 an16 cd16 ct16),sl16⟩) (c16 : codeIn K cd16 "law" = true) (k16 : keepIn K (.ref f16) = true) (z_len : nsIn K mainGlobals "len" = some none) (z_min : nsIn K mainGlobals "min" = some none) (z_max : nsIn K mainGlobals "max" = some none) (z_list : nsIn K mainGlobals "list" = some none) (z_tuple : nsIn K mainGlobals "tuple" = some none) (z_sorted : nsIn K mainGlobals "sorted" = some none) (z_range : nsIn K mainGlobals "range" = some none) (z_isinstance : nsIn K mainGlobals "isinstance" = some none) (z_int : nsIn K mainGlobals "int" = some none) (z_bool : nsIn K mainGlobals "bool" = some none) (z_str : nsIn K mainGlobals "str" = some none) (z_dict : nsIn K mainGlobals "dict" = some none) (z_all : nsIn K mainGlobals "all" = some none) (z_enumerate : nsIn K mainGlobals "enumerate" = some none) (z_sum : nsIn K mainGlobals "sum" = some none) (z_zip : nsIn K mainGlobals "zip" = some none) (z_abs : nsIn K mainGlobals "abs" = some none) (z_reversed : nsIn K mainGlobals "reversed" = some none) {d_MillError : Addr} (g_MillError : nsIn K mainGlobals "MillError" = some (some (.ref d_MillError))) {d_NoEnd : Addr} (g_NoEnd : nsIn K mainGlobals "NoEnd" = some (some (.ref d_NoEnd))) {d_BadKind : Addr} (g_BadKind : nsIn K mainGlobals "BadKind" = some (some (.ref d_BadKind))) {d_BadRow : Addr} (g_BadRow : nsIn K mainGlobals "BadRow" = some (some (.ref d_BadRow))) {d_Lacking : Addr} (g_Lacking : nsIn K mainGlobals "Lacking" = some (some (.ref d_Lacking))) {d_NoName : Addr} (g_NoName : nsIn K mainGlobals "NoName" = some (some (.ref d_NoName))) {d_NoNet : Addr} (g_NoNet : nsIn K mainGlobals "NoNet" = some (some (.ref d_NoNet))) {d_NoPair : Addr} (g_NoPair : nsIn K mainGlobals "NoPair" = some (some (.ref d_NoPair))) {d_NoRule : Addr} (g_NoRule : nsIn K mainGlobals "NoRule" = some (some (.ref d_NoRule))) {d_NoTerm : Addr} (g_NoTerm : nsIn K mainGlobals "NoTerm" = some (some (.ref d_NoTerm))) {d_NoValue : Addr} (g_NoValue : nsIn K mainGlobals "NoValue" = some (some (.ref d_NoValue))) {d_Spent : Addr} (g_Spent : nsIn K mainGlobals "Spent" = some (some (.ref d_Spent))) {d_Stuck : Addr} (g_Stuck : nsIn K mainGlobals "Stuck" = some (some (.ref d_Stuck))) {d_Twice : Addr} (g_Twice : nsIn K mainGlobals "Twice" = some (some (.ref d_Twice))) {d_TwoRules : Addr} (g_TwoRules : nsIn K mainGlobals "TwoRules" = some (some (.ref d_TwoRules))) {d_Uneven : Addr} (g_Uneven : nsIn K mainGlobals "Uneven" = some (some (.ref d_Uneven))) {d_Unfit : Addr} (g_Unfit : nsIn K mainGlobals "Unfit" = some (some (.ref d_Unfit))) (xe__law_none : excIn K d_NoEnd vMro "ValueError.__new__" = true) (xm__law_none : exmOne K (.ref d_NoEnd) (.ref d_MillError) = some true) (y1__law_none : kitAny K (.ref d_NoEnd) [.ref d_BadKind,.ref d_BadRow,.ref d_Lacking,.ref d_NoName,.ref d_NoNet,.ref d_NoPair,.ref d_NoRule,.ref d_NoTerm,.ref d_NoValue] = some false) (y2__law_none : kitAny K (.ref d_NoEnd) [.ref d_Spent,.ref d_Stuck,.ref d_Twice,.ref d_TwoRules,.ref d_Uneven,.ref d_Unfit] = some false) (y3__law_none : kitOne K (.ref d_NoEnd) (.ref d_NoEnd) = some true) (y4__law_none : kitOne K (.ref d_NoEnd) (.type "ValueError") = some true) (w1__law_none : isClsIn K d_NoEnd = true) (w2__law_none : findIn K (.ref d_NoEnd) "__getattribute__" = some (some (.builtin "BaseException.__getattribute__"))) (w3__law_none : findIn K (.ref d_NoEnd) "__getattr__" = some none) (w4__law_none : findIn K (.ref d_NoEnd) "__class__" = some (some (.builtin "object.__class__"))) (w5__law_none : specialIn K (.builtin "object.__class__") "__get__" = some (some (.builtin "getset_descriptor.__get__"))) (w6__law_none : takesIn K (.builtin "object.__class__") = some true) (w7__law_none : mroIn K d_NoEnd (.type "object") = some true) (w8__law_none : mroIn K d_NoEnd (.type "BaseException") = some true) (z_ValueError : nsIn K mainGlobals "ValueError" = some none) :
  ∃ fd : FuncData,(∀ (s : Shared) (v : Value),BindsTo s fd ⟨[v],[]⟩ [("script",v)])/\∀ base : Heap,K.In base->base.Ns mainGlobals mg->FnOk l.prog w K mg base CX0 6 fa fd ["script"] (@spD ⟨K⟩ v_law 1):=by
 have e:=hfa.symm.trans (mg_of X G a16)
 cases e
 letI : KFrag:=⟨K⟩
 have B : Bt mg:=⟨mg_none_of X G z_len,mg_none_of X G z_min,mg_none_of X G z_max,mg_none_of X G z_list,mg_none_of X G z_tuple,mg_none_of X G z_sorted,mg_none_of X G z_range,mg_none_of X G z_isinstance,mg_none_of X G z_int,mg_none_of X G z_bool,mg_none_of X G z_str,mg_none_of X G z_dict,mg_none_of X G z_all,mg_none_of X G z_enumerate,mg_none_of X G z_sum,mg_none_of X G z_zip,mg_none_of X G z_abs,mg_none_of X G z_reversed⟩
 refine ⟨fnOf "law" "law" (defArgs s_law) (defBody s_law) (defScope s_law) .none kV16 dc16 pm16 an16 cd16 ct16,fun s v=>.of_eq rfl,fun base _ _=>?_⟩
 have h__law_stock:=cal__law_stock (P:=l.prog) (w:=w) (base:=base) rfl B  (fun_mk (st:=s__law_stock) l0 c0 k0) (mg_of X G a0)
 have h__law_rimmed:=cal__law_rimmed (P:=l.prog) (w:=w) (base:=base) rfl B  (fun_mk (st:=s__law_rimmed) l1 c1 k1) (mg_of X G a1)
 have h__law_tied:=cal__law_tied (P:=l.prog) (w:=w) (base:=base) rfl B  (fun_mk (st:=s__law_tied) l2 c2 k2) (mg_of X G a2)
 have h__law_grown:=cal__law_grown (P:=l.prog) (w:=w) (base:=base) rfl B h__law_tied h__law_rimmed (fun_mk (st:=s__law_grown) l3 c3 k3) (mg_of X G a3)
 have h_is_whole:=cal_is_whole (P:=l.prog) (w:=w) (base:=base) rfl B  (fun_mk (st:=s_is_whole) l4 c4 k4) (mg_of X G a4)
 have h_is_end:=cal_is_end (P:=l.prog) (w:=w) (base:=base) rfl B h_is_whole (fun_mk (st:=s_is_end) l5 c5 k5) (mg_of X G a5)
 have h_mate:=cal_mate (P:=l.prog) (w:=w) (base:=base) rfl B h_is_end (fun_mk (st:=s_mate) l6 c6 k6) (mg_of X G a6)
 have h__law_none:=cal__law_none (P:=l.prog) (w:=w) (base:=base) B (rai_mate rfl B h_is_end (fun_mk (st:=s_mate) l6 c6 k6) (mg_of X G g_NoEnd) xe__law_none) (mg_of X G a6) k6 ((fun_mk (st:=s_mate) l6 c6 k6).binds fun _ _ _ _ _ _ us hl=>match us,hl with | [_,_],_=>rfl) ⟨w1__law_none,w2__law_none,w3__law_none,w4__law_none,w5__law_none,w6__law_none,w7__law_none,w8__law_none⟩ xm__law_none (mg_none_of X G z_ValueError) (mg_of X G g_NoEnd) (mg_of X G g_MillError) (mg_of X G g_BadKind) (mg_of X G g_BadRow) (mg_of X G g_Lacking) (mg_of X G g_NoName) (mg_of X G g_NoNet) (mg_of X G g_NoPair) (mg_of X G g_NoRule) (mg_of X G g_NoTerm) (mg_of X G g_NoValue) (mg_of X G g_Spent) (mg_of X G g_Stuck) (mg_of X G g_Twice) (mg_of X G g_TwoRules) (mg_of X G g_Uneven) (mg_of X G g_Unfit) y1__law_none y2__law_none y3__law_none y4__law_none (fun_mk (st:=s__law_none) l7 c7 k7) (mg_of X G a7)
 have h__law_no_ends:=cal__law_no_ends (P:=l.prog) (w:=w) (base:=base) rfl B h__law_none (fun_mk (st:=s__law_no_ends) l8 c8 k8) (mg_of X G a8)
 have h__law_cell_at:=cal__law_cell_at (P:=l.prog) (w:=w) (base:=base) rfl B  (fun_mk (st:=s__law_cell_at) l9 c9 k9) (mg_of X G a9)
 have h__law_whole:=cal__law_whole (P:=l.prog) (w:=w) (base:=base) rfl B  (fun_mk (st:=s__law_whole) l10 c10 k10) (mg_of X G a10)
 have h_rim_among:=cal_rim_among (P:=l.prog) (w:=w) (base:=base) rfl B  (fun_mk (st:=s_rim_among) l11 c11 k11) (mg_of X G a11)
 have h_ends_of:=cal_ends_of (P:=l.prog) (w:=w) (base:=base) rfl B  (fun_mk (st:=s_ends_of) l12 c12 k12) (mg_of X G a12)
 have h_rim:=cal_rim (P:=l.prog) (w:=w) (base:=base) rfl B h_ends_of h_rim_among (fun_mk (st:=s_rim) l13 c13 k13) (mg_of X G a13)
 have h_greatest:=cal_greatest (P:=l.prog) (w:=w) (base:=base) rfl B  (fun_mk (st:=s_greatest) l14 c14 k14) (mg_of X G a14)
 have h__law_is_end:=cal__law_is_end (P:=l.prog) (w:=w) (base:=base) rfl B h__law_whole (fun_mk (st:=s__law_is_end) l15 c15 k15) (mg_of X G a15)
 exact ok_law rfl B h__law_cell_at h__law_stock h__law_grown h__law_no_ends h_mate h__law_is_end h_rim h__law_whole h_greatest (fun_mk (st:=s_law) l16 c16 k16)
theorem walk {l : OpenLaw} {q : Program} {loose : List Str} {XP : (Str->Option Value)->Heap->Prop} {YP : World->Heap->Prop} {d : DefRec} {K : Params->Frag} (main : ∀ ns : List Int,ns.length<=63->v_law [.scr (ns.map D.int)] = .ok (.bl true)) (hn : l.most = some 63) (hdf : d.params.defaults = [])
  (hY : ∀ (w : World) (h : Heap),YP w h->(K w.params).In h)
  (F : ∀ (w : World) (mg : Str->Option Value) (fa : Addr) (h : Heap),(K w.params).In h->h.Ns mainGlobals mg->mg d.name = some (.ref fa)->
   ∃ fd : FuncData,(∀ (s : Shared) (u : Value),BindsTo s fd ⟨[u],[]⟩ [("script",u)])/\∀ base : Heap,(K w.params).In base->base.Ns mainGlobals mg->FnOk l.prog w (K w.params) mg base CX0 6 fa fd ["script"] (@spD ⟨K w.params⟩ v_law 1)) :
  WalkO q loose XP YP l.row.toRowW d [] (fun f vs=>PySem.call f vs):=
 L2.walk_of (n:=63) (k:=6) (x := "script") (CX:=fun _=>CX0) (sp:=fun w=>@spD ⟨K w.params⟩ v_law 1) hn (by decide) hdf ⟨rfl,by decide,by decide⟩ hY F (fun w H a ns hl hO hS=>script_sp main hl hO hS) fun _ _ _ _ _ z=>z
end Lk01
end
section
set_option maxRecDepth 100000
namespace Lk01
open PySem L2 Mi
noncomputable abbrev Pt:=Int × Int
noncomputable def enP (p : Pt) : D:=.tup [.int p.1,.int p.2]
noncomputable abbrev Tie:=Pt × Pt
noncomputable def tieD (t : Tie) : D:=.tup [enP t.1,enP t.2]
noncomputable def okD (d : D) : Res D:=match d with | .undef=>.bad | d=>.ok d
theorem bVar_eq (i : Nat) (ρ : List D) : bVar i ρ = okD (ρ.getD i .undef):=rfl
theorem eqD_enP (p q : Pt) : eqD (enP p) (enP q) = decide (p = q):=by
 obtain ⟨a,b⟩:=p
 obtain ⟨c,d⟩:=q
 by_cases h1 : a = c <;> by_cases h2 : b = d <;> simp [enP,eqD,eqDs,h1,h2]
noncomputable def ltP (p q : Pt) : Prop:=p.1 < q.1\/p.1 = q.1/\p.2 < q.2
noncomputable instance (p q : Pt) : Decidable (ltP p q):=by unfold ltP;infer_instance
theorem ord_lt (p q : Pt) : ordD .lt (enP p) (enP q) = some (decide (ltP p q)):=by
 obtain ⟨a,b⟩:=p
 obtain ⟨c,d⟩:=q
 by_cases h1 : a = c <;> by_cases h2 : b = d <;> simp [enP,ordD,ordDs,eqD,h1,h2,Ordr.int,Ordr.nat,ltP]
theorem ord_gt (p q : Pt) : ordD .gt (enP p) (enP q) = some (decide (ltP q p)):=by
 obtain ⟨a,b⟩:=p
 obtain ⟨c,d⟩:=q
 by_cases h1 : a = c
 ·by_cases h2 : b = d <;> simp [enP,ordD,ordDs,eqD,h1,h2,Ordr.int,Ordr.nat,ltP]
 ·simp [enP,ordD,ordDs,eqD,h1,Ordr.int]
  simp only [ltP]
  lia
theorem cmp_eqP (p q : Pt) : cmpD .eq (enP p) (enP q) = .ok (.bl (decide (p = q))):=by
 rw [<- eqD_enP];rfl
theorem cmp_neP (p q : Pt) : cmpD .ne (enP p) (enP q) = .ok (.bl (!decide (p = q))):=by
 rw [<- eqD_enP];rfl
noncomputable def ends (T : List Tie) : List Pt:=T.flatMap fun t=>[t.1,t.2]
noncomputable abbrev Pc:=Int × Str
noncomputable def pcD (c : Pc) : D:=.tup [.int c.1,.str c.2]
theorem z2 : decide ((2 : Nat)<=lim) = true:=rfl
noncomputable def netD (Q : List Pc) (T : List Tie) (r : Int) : D:=.tup [.tup (Q.map pcD),.tup (T.map tieD),.int r]
theorem pure_pcs (Q : List Pc) : (D.tup (Q.map pcD)).pure = true:=by
 show D.pures (Q.map pcD) = true
 induction Q with
 | nil=>rfl
 | cons q Q ih=>rw [List.map_cons,D.pures,ih];rfl
theorem pure_ties (T : List Tie) : (D.tup (T.map tieD)).pure = true:=by
 show D.pures (T.map tieD) = true
 induction T with
 | nil=>rfl
 | cons q Q ih=>rw [List.map_cons,D.pures,ih];rfl
theorem pures_enP (l : List Pt) : D.pures (l.map enP) = true:=by
 induction l with
 | nil=>rfl
 | cons q Q ih=>rw [List.map_cons,D.pures,ih];rfl
end Lk01
end
section
set_option maxRecDepth 100000
namespace Lk01
open PySem L2 Mi
noncomputable def ibody : FS:=(sSeq (sSet false 9 (b2 (binD .mul) (b2 (binD .mod) (b2 (binD .fdiv) (bVar 0) (bC (.int 192))) (bC (.int 2))) (b2 (binD .add) (bVar 8) (bC (.int 2)))) true) (sSeq (sIf (bTB (b2 (cmpD .eq) (bVar 8) (bVar 4))) (sSet false 9 (bC (.int 1)) true) (sNil)) (sSet false 7 (b2 (binD .add) (bVar 7) (b2 getD (bVar 2) (b2 (binD .mod) (b2 (binD .add) (b2 (binD .fdiv) (b2 (binD .fdiv) (bVar 0) (bC (.int 384))) (b2 (binD .add) (b2 (binD .mul) (bVar 8) (bVar 8)) (bC (.int 1)))) (b2 (binD .mul) (bVar 6) (bVar 9))) (bC (.int 26))))) true)))
noncomputable def obody : FS:=(sSeq (sSet false 7 (bC (.str "")) true) (sSeq (sFor (bThen (bCons (bVar 3) (bNil)) rng1D) (tg1 8) (sSeq (sSet false 9 (b2 (binD .mul) (b2 (binD .mod) (b2 (binD .fdiv) (bVar 0) (bC (.int 192))) (bC (.int 2))) (b2 (binD .add) (bVar 8) (bC (.int 2)))) true) (sSeq (sIf (bTB (b2 (cmpD .eq) (bVar 8) (bVar 4))) (sSet false 9 (bC (.int 1)) true) (sNil)) (sSet false 7 (b2 (binD .add) (bVar 7) (b2 getD (bVar 2) (b2 (binD .mod) (b2 (binD .add) (b2 (binD .fdiv) (b2 (binD .fdiv) (bVar 0) (bC (.int 384))) (b2 (binD .add) (b2 (binD .mul) (bVar 8) (bVar 8)) (bC (.int 1)))) (b2 (binD .mul) (bVar 6) (bVar 9))) (bC (.int 26))))) true)))) (sSeq (sPut 5 (bVar 7) (b2 (binD .mod) (bVar 1) (bC (.int 7)))) (sSet false 1 (b2 (binD .fdiv) (bVar 1) (bC (.int 7))) true))))
noncomputable def abc : Str := "abcdefghijklmnopqrstuvwxyz"
theorem letter (i : Int) (h0 : 0<=i) (h1 : i < 26) : ∃ c : Str,getD (.str abc) (.int i) = .ok (.str c)/\c.length = 1:=by
 have hl : decide (abc.length<=lim) = true:=by decide +kernel
 have h26 : abc.cps.toList.length = 26:=by decide +kernel
 have hix : ixD abc.cps.toList.length i = some i.toNat:=by
  unfold ixD
  rw [if_pos h0,h26,if_pos (by lia)]
 have hlt : i.toNat < abc.cps.toList.length:=by rw [h26];lia
 refine ⟨⟨#[abc.cps.toList[i.toNat]]⟩,?_,rfl⟩
 show (if decide (abc.length<=lim) then Res.ofOpt (((ixD abc.cps.toList.length i).bind fun j=>abc.cps.toList[j]?).map fun c=>D.str ⟨#[c]⟩) else .bad) = _
 rw [hl,if_pos rfl,hix]
 simp only [Option.bind_some]
 rw [List.getElem?_eq_getElem hlt]
 rfl
theorem inner_loop {c0 c1 sz at_ k : Int} {dk : D} {ab : Str} (hab : ∀ i : Int,0<=i->i < 26->∃ c : Str,getD (.str ab) (.int i) = .ok (.str c)/\c.length = 1) (hk0 : 0<=k) (hk1 : k<=10) : ∀ (js : List Nat) (nm : Str) (x y : D),(∀ j ∈ js,j < 10)->nm.length + js.length<=1000->∃ nm' x' y',nm'.length<=nm.length + js.length/\
  forS (tg1 8) ibody (js.map fun (j : Nat)=>D.int (0 + (j : Int))) [.int c0,.int c1,.str ab,.int sz,.int at_,dk,.int k,.str nm,x,y] = .ok (.nx [.int c0,.int c1,.str ab,.int sz,.int at_,dk,.int k,.str nm',x',y'])
 | [],nm,x,y,_,_=>⟨nm,x,y,by simp,rfl⟩
 | j :: js,nm,x,y,hj,hl=>by
  have hj':=hj j (List.mem_cons_self ..)
  rw [List.length_cons] at hl
  generalize hjj : (0 + (j : Int)) = jj
  have b0 : 0<=jj:=by lia
  have b1 : jj < 10:=by lia
  have hsq : jj * jj < 100:=by
   have : jj * jj<=9 * 9:=Int.mul_le_mul (by lia) (by lia) b0 (by lia)
   lia
  have hsq0 : 0<=jj * jj:=Int.mul_nonneg b0 b0
  have f1:=fdiv_ok c0 192 (by decide) (by decide)
  have f2:=mod_ok (c0 / 192) 2 (by decide)
  have f3:=add_ok jj 2
  have f4:=mul_ok (c0 / 192 % 2) (jj + 2) (small_ok _ (by lia) (by lia))
  have f5 : cmpD .eq (.int jj) (.int at_) = .ok (.bl (jj == at_)):=rfl
  have f6:=fdiv_ok c0 384 (by decide) (by decide)
  have f7:=mul_ok jj jj (small_ok _ (by lia) (by lia))
  have f8:=add_ok (jj * jj) 1
  have f9:=fdiv_ok (c0 / 384) (jj * jj + 1) (by lia) (by lia)
  have pi : ∀ i : Int,(D.int i).pure = true:=fun _=>rfl
  have ps : ∀ i : Str,(D.str i).pure = true:=fun _=>rfl
  rw [List.map_cons,forS,hjj]
  have rest : ∀ st : Int,∃ (cc : Str) (nm' : Str) (x' y' : D),nm'.length<=nm.length + (js.length + 1)/\(sSet false 7 (b2 (binD .add) (bVar 7) (b2 getD (bVar 2) (b2 (binD .mod) (b2 (binD .add) (b2 (binD .fdiv) (b2 (binD .fdiv) (bVar 0) (bC (.int 384))) (b2 (binD .add) (b2 (binD .mul) (bVar 8) (bVar 8)) (bC (.int 1)))) (b2 (binD .mul) (bVar 6) (bVar 9))) (bC (.int 26))))) true) [.int c0,.int c1,.str ab,.int sz,.int at_,dk,.int k,.str nm,.int jj,.int st] = .ok (.nx [.int c0,.int c1,.str ab,.int sz,.int at_,dk,.int k,.str (nm ++ cc),.int jj,.int st])/\
    forS (tg1 8) ibody (js.map fun (j : Nat)=>D.int (0 + (j : Int))) [.int c0,.int c1,.str ab,.int sz,.int at_,dk,.int k,.str (nm ++ cc),.int jj,.int st] = .ok (.nx [.int c0,.int c1,.str ab,.int sz,.int at_,dk,.int k,.str nm',x',y']):=by
   intro st
   have g1:=mul_okL k st (small_ok _ (by lia) (by lia))
   have g2:=add_ok (c0 / 384 / (jj * jj + 1)) (k * st)
   have g3:=mod_ok (c0 / 384 / (jj * jj + 1) + k * st) 26 (by decide)
   obtain ⟨cc,g4,g5⟩:=hab ((c0 / 384 / (jj * jj + 1) + k * st) % 26) (by lia) (by lia)
   have g6:=str_add nm cc (by rw [g5,lim_eq];lia)
   obtain ⟨nm',x',y',h1,h2⟩:=inner_loop (c0:=c0) (c1:=c1) (sz:=sz) (at_:=at_) (dk:=dk) hab hk0 hk1 js (nm ++ cc) (.int jj) (.int st) (fun j hj2=>hj j (List.mem_cons_of_mem _ hj2)) (by rw [str_len,g5];lia)
   refine ⟨cc,nm',x',y',by rw [str_len,g5] at h1;lia,?_,h2⟩
   exact set_ok (b2_ok rfl (b2_ok rfl (b2_ok (b2_ok (b2_ok (b2_ok rfl rfl f6) (b2_ok (b2_ok rfl rfl f7) rfl f8) f9) (b2_ok rfl rfl g1) g2) rfl g3) g4) g6)
  have step : ∃ st : Int,ibody [.int c0,.int c1,.str ab,.int sz,.int at_,dk,.int k,.str nm,.int jj,y] = (sSet false 7 (b2 (binD .add) (bVar 7) (b2 getD (bVar 2) (b2 (binD .mod) (b2 (binD .add) (b2 (binD .fdiv) (b2 (binD .fdiv) (bVar 0) (bC (.int 384))) (b2 (binD .add) (b2 (binD .mul) (bVar 8) (bVar 8)) (bC (.int 1)))) (b2 (binD .mul) (bVar 6) (bVar 9))) (bC (.int 26))))) true) [.int c0,.int c1,.str ab,.int sz,.int at_,dk,.int k,.str nm,.int jj,.int st]:=by
   cases he : (jj == at_) with
   | true=>
    refine ⟨1,?_⟩
    exact seq_ok (set_ok (b2_ok (b2_ok (b2_ok rfl rfl f1) rfl f2) (b2_ok rfl rfl f3) f4)) (seq_ok (if_ok (tb_ok (b2_ok rfl rfl (f5.trans (by rw [he])))) rfl) rfl)
   | false=>
    refine ⟨c0 / 192 % 2 * (jj + 2),?_⟩
    exact seq_ok (set_ok (b2_ok (b2_ok (b2_ok rfl rfl f1) rfl f2) (b2_ok rfl rfl f3) f4)) (seq_ok (if_ok (tb_ok (b2_ok rfl rfl (f5.trans (by rw [he])))) rfl) rfl)
  obtain ⟨st,step⟩:=step
  obtain ⟨cc,nm',x',y',h1,s7,h2⟩:=rest st
  refine ⟨nm',x',y',h1,?_⟩
  have tgx : tg1 8 (.int jj) [.int c0,.int c1,.str ab,.int sz,.int at_,dk,.int k,.str nm,x,y] = .ok [.int c0,.int c1,.str ab,.int sz,.int at_,dk,.int k,.str nm,.int jj,y]:=rfl
  rw [tgx,Res.ok_bind,step,s7,Res.ok_bind]
  exact h2
end Lk01
end
section
set_option maxRecDepth 100000
namespace Lk01
open PySem L2 Mi
noncomputable def StockOk (kvs : List (D × D)) : Prop:=∀ p ∈ kvs,∃ (s : Str) (v : Int),p = (.str s,.int v)/\0<=v/\v<=6
theorem stock_put {s : Str} {v : Int} (h0 : 0<=v) (h1 : v<=6) : ∀ {kvs : List (D × D)},StockOk kvs->StockOk (putD kvs (.str s) (.int v))/\(putD kvs (.str s) (.int v)).length<=kvs.length + 1/\putD kvs (.str s) (.int v) ≠ []
 | [],h=>⟨fun p hp=>⟨s,v,by simpa [putD] using hp,h0,h1⟩,by simp [putD],by simp [putD]⟩
 | (k,w) :: r,h=>by
  obtain ⟨i1,i2,i3⟩:=stock_put (s:=s) h0 h1 (kvs:=r) fun p hp=>h p (List.mem_cons_of_mem _ hp)
  rw [putD]
  split
  ·obtain ⟨s',v',e,_⟩:=h _ (List.mem_cons_self ..)
   cases e
   refine ⟨fun p hp=>?_,by simp,by simp⟩
   rcases List.mem_cons.mp hp with rfl | hp
   ·exact ⟨s',v,rfl,h0,h1⟩
   ·exact h p (List.mem_cons_of_mem _ hp)
  ·refine ⟨fun p hp=>?_,by simp only [List.length_cons];lia,by simp⟩
   rcases List.mem_cons.mp hp with rfl | hp
   ·exact h _ (List.mem_cons_self ..)
   ·exact i1 p hp
theorem stock_fit {kvs : List (D × D)} (h : StockOk kvs) (s : Str) : fitK kvs (.str s) = true:=by
 unfold fitK
 rw [show keyOk (.str s) = true from rfl,Bool.true_and,List.all_eq_true]
 intro p hp
 obtain ⟨s',v',rfl,_⟩:=h p hp
 rfl
theorem range_all (n : Nat) : ∀ j ∈ List.range n,j < n:=fun j hj=>List.mem_range.mp hj
theorem outer_loop {c0 sz at_ : Int} {ab : Str} (hab : ∀ i : Int,0<=i->i < 26->∃ c : Str,getD (.str ab) (.int i) = .ok (.str c)/\c.length = 1) (hs0 : 0<=sz) (hs1 : sz<=9) : ∀ (ks : List Nat) (c1 : Int) (kvs : List (D × D)) (x6 x7 x8 x9 : D),(∀ k ∈ ks,k < 10)->StockOk kvs->kvs.length + ks.length<=1000->
  ∃ c1' kvs' y6 y7 y8 y9,StockOk kvs'/\(ks ≠ []\/kvs ≠ []->kvs' ≠ [])/\kvs'.length<=kvs.length + ks.length/\
  forS (tg1 6) obody (ks.map fun (j : Nat)=>D.int (0 + (j : Int))) [.int c0,.int c1,.str ab,.int sz,.int at_,.dct kvs,x6,x7,x8,x9] = .ok (.nx [.int c0,c1',.str ab,.int sz,.int at_,.dct kvs',y6,y7,y8,y9])
 | [],c1,kvs,x6,x7,x8,x9,_,hk,_=>⟨.int c1,kvs,x6,x7,x8,x9,hk,fun h=>h.elim (fun z=>absurd rfl z) id,by simp,rfl⟩
 | k :: ks,c1,kvs,x6,x7,x8,x9,hks,hk,hl=>by
  have hk':=hks k (List.mem_cons_self ..)
  rw [List.length_cons] at hl
  generalize hkk : (0 + (k : Int)) = kk
  obtain ⟨nm,u8,u9,_,hin⟩:=inner_loop (c0:=c0) (c1:=c1) (sz:=sz) (at_:=at_) (k:=kk) (dk:=.dct kvs) hab (by lia) (by lia) (List.range sz.toNat) "" x8 x9 (fun j hj=>by have:=range_all _ j hj;lia) (by
   rw [List.length_range]
   have : ("" : Str).length = 0:=rfl
   lia)
  obtain ⟨i1,i2,i3⟩:=stock_put (s:=nm) (v:=c1 % 7) (by lia) (by lia) hk
  obtain ⟨c1',kvs',y6,y7,y8,y9,j1,j2,j3,j4⟩:=outer_loop hab hs0 hs1 ks (c1 / 7) (putD kvs (.str nm) (.int (c1 % 7))) (.int kk) (.str nm) u8 u9 (fun j hj=>hks j (List.mem_cons_of_mem _ hj)) i1 (by lia)
  refine ⟨c1',kvs',y6,y7,y8,y9,j1,fun _=>j2 (.inr i3),by simp only [List.length_cons];lia,?_⟩
  rw [List.map_cons,hkk]
  have m7:=mod_ok c1 7 (by decide)
  have d7:=fdiv_ok c1 7 (by decide) (by decide)
  refine fors_cons (ρ1:=[.int c0,.int c1,.str ab,.int sz,.int at_,.dct kvs,.int kk,x7,x8,x9]) rfl ?_ j4
  refine seq_ok (ρ':=[.int c0,.int c1,.str ab,.int sz,.int at_,.dct kvs,.int kk,.str "",x8,x9]) (set_ok rfl) ?_
  refine seq_ok (ρ':=[.int c0,.int c1,.str ab,.int sz,.int at_,.dct kvs,.int kk,.str nm,u8,u9]) (for_ok (rng_ok (n:=sz) (cons_ok rfl rfl) hs0 (by lia)) hin) ?_
  refine seq_ok (ρ':=[.int c0,.int c1,.str ab,.int sz,.int at_,.dct (putD kvs (.str nm) (.int (c1 % 7))),.int kk,.str nm,u8,u9]) (put_ok (kvs:=kvs) (b2_ok rfl rfl m7) rfl rfl (by rw [lim_eq];lia) (stock_fit hk nm) rfl) ?_
  exact set_ok (b2_ok rfl rfl d7)
theorem stock_eq (c0 c1 : Int) : ∃ kvs,StockOk kvs/\kvs ≠ []/\kvs.length<=5/\v__law_stock [.int c0,.int c1] = .ok (.dct kvs):=by
 have m8:=mod_ok c0 8 (by decide)
 have a1:=add_ok 1 (c0 % 8)
 have f8:=fdiv_ok c0 8 (by decide) (by decide)
 have ms:=mod_ok (c0 / 8) (1 + c0 % 8) (by lia)
 have f64:=fdiv_ok c0 64 (by decide) (by decide)
 have m3:=mod_ok (c0 / 64) 3 (by decide)
 have a3:=add_ok 3 (c0 / 64 % 3)
 obtain ⟨c1',kvs',y6,y7,y8,y9,j1,j2,j3,j4⟩:=outer_loop (c0:=c0) (sz:=1 + c0 % 8) (at_:=c0 / 8 % (1 + c0 % 8)) (ab:=abc) letter (by lia) (by lia) (List.range (3 + c0 / 64 % 3).toNat) c1 [] .undef .undef .undef .undef (fun j hj=>by have:=range_all _ j hj;lia) (fun p hp=>by cases hp) (by rw [List.length_range];simp;lia)
 refine ⟨kvs',j1,j2 (.inl fun z=>?_),by rw [List.length_range] at j3;simp at j3;lia,?_⟩
 ·have:=congrArg List.length z
  rw [List.length_range] at this
  simp at this
  lia
 ·have e : b__law_stock [.int c0,.int c1,.undef,.undef,.undef,.undef,.undef,.undef,.undef,.undef] = .ok (.rt (.dct kvs')):=by
   refine seq_ok (ρ':=[.int c0,.int c1,.str abc,.undef,.undef,.undef,.undef,.undef,.undef,.undef]) (set_ok rfl) ?_
   refine seq_ok (ρ':=[.int c0,.int c1,.str abc,.int (1 + c0 % 8),.undef,.undef,.undef,.undef,.undef,.undef]) (set_ok (b2_ok rfl (b2_ok rfl rfl m8) a1)) ?_
   refine seq_ok (ρ':=[.int c0,.int c1,.str abc,.int (1 + c0 % 8),.int (c0 / 8 % (1 + c0 % 8)),.undef,.undef,.undef,.undef,.undef]) (set_ok (b2_ok (b2_ok rfl rfl f8) rfl ms)) ?_
   refine seq_ok (ρ':=[.int c0,.int c1,.str abc,.int (1 + c0 % 8),.int (c0 / 8 % (1 + c0 % 8)),.dct [],.undef,.undef,.undef,.undef]) (setV_ok rfl rfl) ?_
   refine seq_ok (for_ok (rng_ok (n:=3 + c0 / 64 % 3) (cons_ok (b2_ok rfl (b2_ok (b2_ok rfl rfl f64) rfl m3) a3) rfl) (by lia) (by lia)) j4) ?_
   rfl
  show (do let r <- b__law_stock _;endD r) = _
  rw [show ([D.int c0,D.int c1] ++ List.replicate (10 - 2) D.undef) = [.int c0,.int c1,.undef,.undef,.undef,.undef,.undef,.undef,.undef,.undef] from rfl,e]
  rfl
end Lk01
end
section
set_option maxRecDepth 100000
namespace Lk01
open PySem L2 Mi
theorem pts_get (L : List Pt) (i : Int) (h0 : 0<=i) (h1 : i < L.length) : ∃ p ∈ L,getD (.lst (L.map enP)) (.int i) = .ok (enP p):=by
 obtain ⟨h,e⟩:=lst_get (L.map enP) i h0 (by simpa using h1)
 rw [List.length_map] at h
 refine ⟨L[i.toNat],List.getElem_mem _,?_⟩
 rw [e]
 simp
theorem best2 (o : Ordr) (a b : Pt) (r : Pt->Pt->Prop) [∀ x y,Decidable (r x y)] (h : ∀ x y,ordD o (enP x) (enP y) = some (decide (r x y))) : minmax o [enP a,enP b] = .ok (enP (if r b a then b else a)):=by
 show bestD o [enP a,enP b] = _
 have hall : ([enP a,enP b].all fun x=>x.eqok eqdepth && [enP a,enP b].all fun y=>(ordD o x y).isSome) = true:=by
  simp only [List.all_cons,List.all_nil,h,Option.isSome_some,Bool.and_true]
  rfl
 rw [bestD,if_pos hall]
 simp only [List.foldl_cons,List.foldl_nil,h,Option.getD_some]
 by_cases hr : r b a
 ·simp [hr]
 ·simp [hr]
theorem filt_len {α : Type} [DecidableEq α] {L : List α} (hn : L.Nodup) {a : α} (ha : a ∈ L) : (L.filter fun x=>!decide (x = a)).length + 1 = L.length:=by
 induction L with
 | nil=>cases ha
 | cons x L ih=>
  rw [List.nodup_cons] at hn
  rw [List.filter_cons]
  by_cases h : x = a
  ·subst h
   have : (L.filter fun y=>!decide (y = x)) = L:=List.filter_eq_self.mpr fun y hy=>by
    have : y ≠ x:=fun z=>hn.1 (z ▸ hy)
    simp [this]
   simp [this]
  ·rw [if_pos (by simp [h])]
   rcases List.mem_cons.mp ha with rfl | ha
   ·exact absurd rfl h
   ·have:=ih hn.2 ha
    simp only [List.length_cons]
    lia
theorem tied_eq (L : List Pt) (more : Int) (hn : L.Nodup) (h2 : 2<=L.length) (hl : L.length<=100000) : ∃ a b,a ∈ L/\b ∈ L/\ltP a b/\v__law_tied [.lst (L.map enP),.int more] = .ok (tieD (a,b)):=by
 have hpos : (0 : Int) < (L.length : Int):=by lia
 have g0:=mod_ok more L.length hpos
 obtain ⟨one,h1,e1⟩:=pts_get L (more % L.length) (Int.emod_nonneg _ (by lia)) (Int.emod_lt_of_pos _ hpos)
 have hf:=filt_len hn h1
 let R:=L.filter fun x=>!decide (x = one)
 have hR : R.length + 1 = L.length:=hf
 have hRp : (0 : Int) < (R.length : Int):=by lia
 have g1:=fdiv_ok more L.length hpos (by lia)
 have g2:=mod_ok (more / L.length) R.length hRp
 obtain ⟨other,h3,e3⟩:=pts_get R (more / L.length % R.length) (Int.emod_nonneg _ (by lia)) (Int.emod_lt_of_pos _ hRp)
 have h4 : other ∈ L/\other ≠ one:=by
  have:=List.mem_filter.mp h3
  exact ⟨this.1,by simpa using this.2⟩
 have lL : lenD [.lst (L.map enP)] = .ok (.int L.length):=by rw [len_ok,List.length_map]
 have lR : lenD [.lst (R.map enP)] = .ok (.int R.length):=by rw [len_ok,List.length_map]
 have mn:=best2 .lt one other ltP ord_lt
 have mx:=best2 .gt one other (fun x y=>ltP y x) ord_gt
 have tri : ltP one other\/ltP other one:=by
  have : one ≠ other:=fun z=>h4.2 z.symm
  simp only [ltP]
  by_cases hh : one.1 = other.1
  ·have : one.2 ≠ other.2:=fun z=>this (Prod.ext hh z)
   lia
  ·lia
 have asym : ltP other one->¬ ltP one other:=by
  simp only [ltP]
  lia
 have body : b__law_tied [.lst (L.map enP),.int more,.undef,.undef,.undef] = .ok (.rt (.tup [enP (if ltP other one then other else one),enP (if ltP one other then other else one)])):=by
  refine seq_ok (ρ':=[.lst (L.map enP),.int more,enP one,.undef,.undef]) (setP_ok (b2_ok rfl (b2_ok rfl (call_ok (cons_ok rfl rfl) lL) g0) e1) rfl) ?_
  refine seq_ok (ρ':=[.lst (L.map enP),.int more,enP one,.lst (R.map enP),.undef]) (set_ok (comp_ok (items_ok rfl rfl) (by rw [List.length_map,lim_eq];lia) ?_)) ?_
  ·rw [cfold_map _ enP (fun x=>!decide (x = one)) enP]
   ·rfl
   ·intro acc p
    exact cstep_one (ρ:=[.lst (L.map enP),.int more,enP one,.undef,.undef]) rfl (tb_ok (b2_ok rfl rfl (cmp_neP p one))) fun _=>⟨rfl,rfl⟩
  refine seq_ok (ρ':=[.lst (L.map enP),.int more,enP one,.lst (R.map enP),enP other]) (setP_ok (b2_ok rfl (b2_ok (b2_ok rfl (call_ok (cons_ok rfl rfl) lL) g1) (call_ok (cons_ok rfl rfl) lR) g2) e3) rfl) ?_
  exact ret_ok (tup_ok (cons_ok (call_ok (cons_ok rfl (cons_ok rfl rfl)) mn) (cons_ok (call_ok (cons_ok rfl (cons_ok rfl rfl)) mx) rfl)) (by rw [lim_eq];simp)) rfl
 have ev : v__law_tied [.lst (L.map enP),.int more] = .ok (.tup [enP (if ltP other one then other else one),enP (if ltP one other then other else one)]):=by
  show (do let r <- b__law_tied _;endD r) = _
  rw [show ([D.lst (L.map enP),D.int more] ++ List.replicate (5 - 2) D.undef) = [.lst (L.map enP),.int more,.undef,.undef,.undef] from rfl,body]
  rfl
 rcases tri with h | h
 ·have n : ¬ ltP other one:=fun z=>asym z h
  rw [if_neg n,if_pos h] at ev
  exact ⟨one,other,h1,h4.1,h,ev⟩
 ·rw [if_pos h,if_neg (asym h)] at ev
  exact ⟨other,one,h4.1,h1,h,ev⟩
end Lk01
end
section
set_option maxRecDepth 100000
namespace Lk01
open PySem L2 Mi
noncomputable def rb1 : FS:=(sIns 3 (b2 (binD .mod) (b2 (binD .add) (b2 (binD .fdiv) (bVar 2) (b2 (binD .add) (bVar 4) (bC (.int 1)))) (b2 (binD .mul) (bVar 4) (bVar 4))) (b2 (binD .add) (bVar 4) (bC (.int 1)))) (bVar 4))
noncomputable def rb2 : FS:=(sApp 5 (bTup (bCons (bTup (bCons (bC (.int 0)) (bCons (b2 getD (bVar 3) (bVar 4)) (bNil)))) (bCons (b2 getD (bVar 0) (bVar 4)) (bNil)))))
noncomputable def rb3 : FS:=(sSeq (sSet false 6 (bSlc (bVar 3) (bSome (b2 (binD .add) (bCall lenD (bCons (bVar 0) (bNil))) (b2 (binD .mul) (bC (.int 2)) (bVar 4)))) (bSome (b2 (binD .add) (b2 (binD .add) (bCall lenD (bCons (bVar 0) (bNil))) (b2 (binD .mul) (bC (.int 2)) (bVar 4))) (bC (.int 2))))) true) (sApp 5 (bTup (bCons (bTup (bCons (bC (.int 0)) (bCons (bCall (minmax .lt) (bCons (bVar 6) (bNil))) (bNil)))) (bCons (bTup (bCons (bC (.int 0)) (bCons (bCall (minmax .gt) (bCons (bVar 6) (bNil))) (bNil)))) (bNil))))))
theorem spots_loop {a0 a1 a5 a6 : D} {seed : Int} : ∀ (n k : Nat) (S : List Int) (x4 : D),S.length = k->(∀ s ∈ S,0<=s/\s < k)->S.Nodup->k + n<=10000->∃ (S' : List Int) (y4 : D),S'.length = k + n/\(∀ s ∈ S',0<=s/\s < (k + n : Nat))/\S'.Nodup/\
  forS (tg1 4) rb1 ((List.range' k n).map fun (j : Nat)=>D.int (0 + (j : Int))) [a0,a1,.int seed,.lst (S.map D.int),x4,a5,a6] = .ok (.nx [a0,a1,.int seed,.lst (S'.map D.int),y4,a5,a6])
 | 0,k,S,x4,h1,h2,h3,_=>⟨S,x4,h1,by simpa using h2,h3,rfl⟩
 | n + 1,k,S,x4,h1,h2,h3,hl=>by
  rw [List.range'_succ,List.map_cons]
  generalize hkk : (0 + (k : Int)) = kk
  have hkk' : kk = (k : Int):=by lia
  have hsq : kk * kk<=10000 * 10000:=Int.mul_le_mul (by lia) (by lia) (by lia) (by lia)
  have hsq0 : 0<=kk * kk:=Int.mul_nonneg (by lia) (by lia)
  have g1:=add_ok kk 1
  have g2:=fdiv_ok seed (kk + 1) (by lia) (by lia)
  have g3:=mul_ok kk kk (small_ok _ (by lia) (by lia))
  have g4:=add_ok (seed / (kk + 1)) (kk * kk)
  have g5:=mod_ok (seed / (kk + 1) + kk * kk) (kk + 1) (by lia)
  generalize hj : (seed / (kk + 1) + kk * kk) % (kk + 1) = j at g5
  have j0 : 0<=j:=by rw [<- hj];exact Int.emod_nonneg _ (by lia)
  have j1 : j < kk + 1:=by rw [<- hj];exact Int.emod_lt_of_pos _ (by lia)
  have hperm : (S.take j.toNat ++ kk :: S.drop j.toNat).Perm (kk :: S):=by
   refine List.perm_middle.trans ?_
   rw [List.take_append_drop]
  obtain ⟨S',y4,i1,i2,i3,i4⟩:=spots_loop (a0:=a0) (a1:=a1) (a5:=a5) (a6:=a6) (seed:=seed) n (k + 1) (S.take j.toNat ++ kk :: S.drop j.toNat) (.int kk) (by rw [hperm.length_eq,List.length_cons,h1]) (fun s hs=>by
   rcases List.mem_cons.mp (hperm.mem_iff.mp hs) with rfl | hs
   ·lia
   ·have:=h2 s hs
    lia) (hperm.nodup_iff.mpr (List.nodup_cons.mpr ⟨fun z=>by have:=h2 _ z;lia,h3⟩)) (by lia)
  refine ⟨S',y4,by lia,fun s hs=>by have:=i2 s hs;lia,i3,?_⟩
  refine fors_cons (ρ1:=[a0,a1,.int seed,.lst (S.map D.int),.int kk,a5,a6]) rfl (ins_ok (xs:=S.map D.int) (b2_ok (b2_ok (b2_ok rfl (b2_ok rfl rfl g1) g2) (b2_ok rfl rfl g3) g4) (b2_ok rfl rfl g1) g5) rfl rfl (by rw [List.length_map,lim_eq];lia) rfl j0 (by rw [List.length_map];lia)) ?_
  rw [<- i4]
  have : (S.map D.int).take j.toNat ++ D.int kk :: (S.map D.int).drop j.toNat = (S.take j.toNat ++ kk :: S.drop j.toNat).map D.int:=by simp
  rw [<- this]
  rfl
end Lk01
end
section
set_option maxRecDepth 100000
namespace Lk01
open PySem L2 Mi
noncomputable def rim (s : Int) : Pt:=(0,s)
theorem ends_snoc (T : List Tie) (t : Tie) : ends (T ++ [t]) = ends T ++ [t.1,t.2]:=by simp [ends]
theorem loop2 {bare seed : Int} {a6 : D} {L : List Pt} {S : List Int} (hL : ∀ p ∈ L,0 < p.1) : ∀ (n k : Nat) (T : List Tie) (x4 : D),L.length = k + n->k + n<=S.length->T.length + n<=10000->∃ (T' : List Tie) (y4 : D),(ends T').Perm (ends T ++ (L.drop k ++ ((S.drop k).take n).map rim))/\(∀ t ∈ T',t ∈ T\/ltP t.1 t.2)/\T'.length = T.length + n/\
  forS (tg1 4) rb2 ((List.range' k n).map fun (j : Nat)=>D.int (0 + (j : Int))) [.lst (L.map enP),.int bare,.int seed,.lst (S.map D.int),x4,.lst (T.map tieD),a6] = .ok (.nx [.lst (L.map enP),.int bare,.int seed,.lst (S.map D.int),y4,.lst (T'.map tieD),a6])
 | 0,k,T,x4,h1,_,_=>⟨T,x4,by rw [List.drop_of_length_le (by lia)];simp,fun t ht=>.inl ht,rfl,rfl⟩
 | n + 1,k,T,x4,h1,h2,h3=>by
  have hk1 : k < L.length:=by lia
  have hk2 : k < S.length:=by lia
  have e1 : getD (.lst (S.map D.int)) (.int (0 + (k : Int))) = .ok (.int S[k]):=by
   obtain ⟨h,e⟩:=lst_get (S.map D.int) (0 + (k : Int)) (by lia) (by rw [List.length_map];lia)
   rw [e]
   simp
  have e2 : getD (.lst (L.map enP)) (.int (0 + (k : Int))) = .ok (enP L[k]):=by
   obtain ⟨h,e⟩:=lst_get (L.map enP) (0 + (k : Int)) (by lia) (by rw [List.length_map];lia)
   rw [e]
   simp
  have hpos:=hL L[k] (List.getElem_mem _)
  obtain ⟨T',y4,i1,i2,i3,i4⟩:=loop2 (bare:=bare) (seed:=seed) (a6:=a6) (S:=S) hL n (k + 1) (T ++ [(rim S[k],L[k])]) (.int (0 + (k : Int))) (by lia) (by lia) (by simp;lia)
  refine ⟨T',y4,?_,fun t ht=>?_,by rw [i3];simp;lia,?_⟩
  ·refine i1.trans ?_
   rw [ends_snoc,List.append_assoc]
   refine List.Perm.append_left _ ?_
   rw [List.drop_eq_getElem_cons hk1,List.drop_eq_getElem_cons hk2,List.take_succ_cons,List.map_cons]
   show (rim S[k] :: L[k] :: (L.drop (k + 1) ++ ((S.drop (k + 1)).take n).map rim)).Perm (L[k] :: (L.drop (k + 1) ++ rim S[k] :: ((S.drop (k + 1)).take n).map rim))
   exact (List.Perm.swap ..).trans (List.Perm.cons _ List.perm_middle.symm)
  ·rcases i2 t ht with h | h
   ·rcases List.mem_append.mp h with h | h
    ·exact .inl h
    ·have : t = (rim S[k],L[k]):=by simpa using h
     subst this
     exact .inr (.inl hpos)
   ·exact .inr h
  ·rw [List.range'_succ,List.map_cons]
   refine fors_cons (ρ1:=[.lst (L.map enP),.int bare,.int seed,.lst (S.map D.int),.int (0 + (k : Int)),.lst (T.map tieD),a6]) rfl (app_ok (xs:=T.map tieD) (tup_ok (cons_ok (tup_ok (cons_ok rfl (cons_ok (b2_ok rfl rfl e1) rfl)) (by rw [lim_eq];simp)) (cons_ok (b2_ok rfl rfl e2) rfl)) (by rw [lim_eq];simp)) rfl (by rw [List.length_map,lim_eq];lia) rfl) ?_
   rw [<- i4,List.map_append]
   rfl
theorem sl_ok {a : FE} {l h : List D->Res (Option Int)} {ρ : List D} {x : D} {i j : Option Int} {d : D} (h1 : a ρ = .ok x) (h2 : l ρ = .ok i) (h3 : h ρ = .ok j) (h4 : slcD x i j = .ok d) : bSlc a l h ρ = .ok d:=by
 unfold bSlc
 rw [h1,Res.ok_bind,h2,Res.ok_bind,h3,Res.ok_bind,h4]
theorem some_ok {a : FE} {ρ : List D} {i : Int} (h1 : a ρ = .ok (.int i)) : bSome a ρ = .ok (some i):=by
 unfold bSome
 rw [h1,Res.ok_bind]
 rfl
theorem bestI (o : Ordr) (a b : Int) (r : Int->Int->Prop) [∀ x y,Decidable (r x y)] (h : ∀ x y,ordD o (.int x) (.int y) = some (decide (r x y))) : minmax o [.lst [.int a,.int b]] = .ok (.int (if r b a then b else a)):=by
 show bestD o [.int a,.int b] = _
 have hall : ([D.int a,D.int b].all fun x=>x.eqok eqdepth && [D.int a,D.int b].all fun y=>(ordD o x y).isSome) = true:=by
  simp only [List.all_cons,List.all_nil,h,Option.isSome_some,Bool.and_true]
  rfl
 rw [bestD,if_pos hall]
 simp only [List.foldl_cons,List.foldl_nil,h,Option.getD_some]
 by_cases hr : r b a
 ·simp [hr]
 ·simp [hr]
theorem loop3 {bare seed : Int} {L : List Pt} {S : List Int} (hS : S.Nodup) (hb : S.length<=10000) : ∀ (n k : Nat) (T : List Tie) (x4 x6 : D),L.length + 2 * (k + n) = S.length->T.length + n<=10000->∃ (T' : List Tie) (y4 y6 : D),(ends T').Perm (ends T ++ (S.drop (L.length + 2 * k)).map rim)/\(∀ t ∈ T',t ∈ T\/ltP t.1 t.2)/\T'.length = T.length + n/\
  forS (tg1 4) rb3 ((List.range' k n).map fun (j : Nat)=>D.int (0 + (j : Int))) [.lst (L.map enP),.int bare,.int seed,.lst (S.map D.int),x4,.lst (T.map tieD),x6] = .ok (.nx [.lst (L.map enP),.int bare,.int seed,.lst (S.map D.int),y4,.lst (T'.map tieD),y6])
 | 0,k,T,x4,x6,h1,_=>⟨T,x4,x6,by rw [List.drop_of_length_le (by lia)];simp,fun t ht=>.inl ht,rfl,rfl⟩
 | n + 1,k,T,x4,x6,h1,h3=>by
  have hi : L.length + 2 * k < S.length:=by lia
  have hi2 : L.length + 2 * k + 1 < S.length:=by lia
  have hd : S.drop (L.length + 2 * k) = S[L.length + 2 * k] :: S[L.length + 2 * k + 1] :: S.drop (L.length + 2 * (k + 1)):=by
   rw [List.drop_eq_getElem_cons hi,List.drop_eq_getElem_cons hi2]
   rfl
  generalize ha : S[L.length + 2 * k] = a at hd
  generalize hb' : S[L.length + 2 * k + 1] = b at hd
  have hab : a ≠ b:=by
   have:=(List.drop_sublist (L.length + 2 * k) S).nodup hS
   rw [hd,List.nodup_cons] at this
   intro z
   subst z
   exact this.1 (List.mem_cons_self ..)
  have lL : lenD [.lst (L.map enP)] = .ok (.int L.length):=by rw [len_ok,List.length_map]
  generalize hkk : (0 + (k : Int)) = kk
  have m2:=mul_okL 2 kk (small_ok _ (by lia) (by lia))
  have a1:=add_ok L.length (2 * kk)
  have a2:=add_ok (L.length + 2 * kk) 2
  have sl : slcD (.lst (S.map D.int)) (some (L.length + 2 * kk)) (some (L.length + 2 * kk + 2)) = .ok (.lst [.int a,.int b]):=by
   simp only [slcD,pures_ints,if_true]
   congr 2
   have e1 : sIxD (S.map D.int).length 0 (some ((L.length : Int) + 2 * kk)) = L.length + 2 * k:=by
    simp only [sIxD,List.length_map]
    rw [if_neg (by lia)]
    lia
   have e2 : sIxD (S.map D.int).length (S.map D.int).length (some ((L.length : Int) + 2 * kk + 2)) = L.length + 2 * k + 2:=by
    simp only [sIxD,List.length_map]
    rw [if_neg (by lia)]
    lia
   unfold cutD
   rw [e1,e2,<- List.map_drop,hd,show L.length + 2 * k + 2 - (L.length + 2 * k) = 2 by lia]
   rfl
  have mn:=bestI .lt a b (fun x y=>x < y) fun x y=>rfl
  have mx:=bestI .gt a b (fun x y=>y < x) fun x y=>rfl
  have main : ∃ u v : Int,(u = a/\v = b\/u = b/\v = a)/\u < v/\minmax .lt [.lst [.int a,.int b]] = .ok (.int u)/\minmax .gt [.lst [.int a,.int b]] = .ok (.int v):=by
   by_cases hlt : b < a
   ·rw [if_pos hlt] at mn
    rw [if_neg (by lia)] at mx
    exact ⟨b,a,.inr ⟨rfl,rfl⟩,hlt,mn,mx⟩
   ·rw [if_neg hlt] at mn
    rw [if_pos (by lia)] at mx
    exact ⟨a,b,.inl ⟨rfl,rfl⟩,by lia,mn,mx⟩
  obtain ⟨u,v,huv,hlt,mn,mx⟩:=main
  obtain ⟨T',y4,y6,i1,i2,i3,i4⟩:=loop3 (bare:=bare) (seed:=seed) (L:=L) hS hb n (k + 1) (T ++ [(rim u,rim v)]) (.int kk) (.lst [.int a,.int b]) (by lia) (by simp;lia)
  refine ⟨T',y4,y6,?_,fun t ht=>?_,by rw [i3];simp;lia,?_⟩
  ·refine i1.trans ?_
   rw [ends_snoc,List.append_assoc]
   refine List.Perm.append_left _ ?_
   rw [hd]
   rcases huv with ⟨rfl,rfl⟩ | ⟨rfl,rfl⟩
   ·exact List.Perm.refl _
   ·exact List.Perm.swap ..
  ·rcases i2 t ht with h | h
   ·rcases List.mem_append.mp h with h | h
    ·exact .inl h
    ·have : t = (rim u,rim v):=by simpa using h
     subst this
     exact .inr (.inr ⟨rfl,hlt⟩)
   ·exact .inr h
  ·rw [List.range'_succ,List.map_cons,hkk]
   refine fors_cons (ρ1:=[.lst (L.map enP),.int bare,.int seed,.lst (S.map D.int),.int kk,.lst (T.map tieD),x6]) rfl (seq_ok (ρ':=[.lst (L.map enP),.int bare,.int seed,.lst (S.map D.int),.int kk,.lst (T.map tieD),.lst [.int a,.int b]]) (set_ok (sl_ok rfl (some_ok (b2_ok (call_ok (cons_ok rfl rfl) lL) (b2_ok rfl rfl m2) a1)) (some_ok (b2_ok (b2_ok (call_ok (cons_ok rfl rfl) lL) (b2_ok rfl rfl m2) a1) rfl a2)) sl)) (app_ok (xs:=T.map tieD) (tup_ok (cons_ok (tup_ok (cons_ok rfl (cons_ok (call_ok (cons_ok rfl rfl) mn) rfl)) (by rw [lim_eq];simp)) (cons_ok (tup_ok (cons_ok rfl (cons_ok (call_ok (cons_ok rfl rfl) mx) rfl)) (by rw [lim_eq];simp)) rfl)) (by rw [lim_eq];simp)) rfl (by rw [List.length_map,lim_eq];lia) rfl)) ?_
   rw [<- i4,List.map_append]
   rfl
theorem rimmed_eq (L : List Pt) (bare : Nat) (seed : Int) (hL : ∀ p ∈ L,0 < p.1) (hl : L.length + 2 * bare<=5000) : ∃ (R : List Tie) (S : List Int),S.Nodup/\(∀ s ∈ S,0<=s/\s < S.length)/\(ends R).Perm (L ++ S.map rim)/\(∀ t ∈ R,ltP t.1 t.2)/\R.length = L.length + bare/\v__law_rimmed [.lst (L.map enP),.int bare,.int seed] = .ok (.lst (R.map tieD)):=by
 have lL : lenD [.lst (L.map enP)] = .ok (.int L.length):=by rw [len_ok,List.length_map]
 have m2:=mul_okL 2 (bare : Int) (small_ok _ (by lia) (by lia))
 have a1:=add_ok L.length (2 * (bare : Int))
 obtain ⟨S,y4,s1,s2,s3,s4⟩:=spots_loop (a0:=.lst (L.map enP)) (a1:=.int bare) (a5:=.undef) (a6:=.undef) (seed:=seed) (L.length + 2 * bare) 0 [] .undef rfl (by simp) List.nodup_nil (by lia)
 obtain ⟨T1,z4,t1,t2,t3,t4⟩:=loop2 (bare:=bare) (seed:=seed) (a6:=.undef) (L:=L) (S:=S) hL L.length 0 [] y4 (by lia) (by lia) (by simp;lia)
 obtain ⟨T2,w4,w6,u1,u2,u3,u4⟩:=loop3 (bare:=bare) (seed:=seed) (L:=L) (S:=S) s3 (by lia) bare 0 T1 z4 .undef (by lia) (by rw [t3];simp;lia)
 refine ⟨T2,S,s3,fun s hs=>by have:=s2 s hs;lia,?_,fun t ht=>?_,by rw [u3,t3];simp,?_⟩
 ·refine u1.trans ?_
  have t1' : (ends T1).Perm (L ++ (S.take L.length).map rim):=by simpa [ends] using t1
  refine (t1'.append_right _).trans ?_
  rw [List.append_assoc,<- List.map_append]
  simp only [Nat.mul_zero,Nat.add_zero]
  rw [List.take_append_drop]
 ·rcases u2 t ht with h | h
  ·rcases t2 t h with h | h
   ·cases h
   ·exact h
  ·exact h
 ·have e : b__law_rimmed [.lst (L.map enP),.int bare,.int seed,.undef,.undef,.undef,.undef] = .ok (.rt (.lst (T2.map tieD))):=by
   refine seq_ok (ρ':=[.lst (L.map enP),.int bare,.int seed,.lst [],.undef,.undef,.undef]) (setV_ok rfl rfl) ?_
   refine seq_ok (ρ':=[.lst (L.map enP),.int bare,.int seed,.lst (S.map D.int),y4,.undef,.undef]) (for_ok (rng_ok (n:=L.length + 2 * (bare : Int)) (cons_ok (b2_ok (call_ok (cons_ok rfl rfl) lL) (b2_ok rfl rfl m2) a1) rfl) (by lia) (by lia)) ?_) ?_
   ·rw [<- s4,show ((L.length : Int) + 2 * (bare : Int)).toNat = L.length + 2 * bare by lia,List.range_eq_range']
    rfl
   refine seq_ok (ρ':=[.lst (L.map enP),.int bare,.int seed,.lst (S.map D.int),y4,.lst [],.undef]) (setV_ok rfl rfl) ?_
   refine seq_ok (ρ':=[.lst (L.map enP),.int bare,.int seed,.lst (S.map D.int),z4,.lst (T1.map tieD),.undef]) (for_ok (rng_ok (n:=L.length) (cons_ok (call_ok (cons_ok rfl rfl) lL) rfl) (by lia) (by lia)) ?_) ?_
   ·rw [<- t4,show ((L.length : Int)).toNat = L.length by lia,List.range_eq_range']
    rfl
   refine seq_ok (ρ':=[.lst (L.map enP),.int bare,.int seed,.lst (S.map D.int),w4,.lst (T2.map tieD),w6]) (for_ok (rng_ok (n:=bare) (cons_ok rfl rfl) (by lia) (by lia)) ?_) ?_
   ·rw [<- u4,show ((bare : Int)).toNat = bare by lia,List.range_eq_range']
    rfl
   rfl
  show (do let r <- b__law_rimmed _;endD r) = _
  rw [show ([D.lst (L.map enP),D.int bare,D.int seed] ++ List.replicate (7 - 3) D.undef) = [.lst (L.map enP),.int bare,.int seed,.undef,.undef,.undef,.undef] from rfl,e]
  rfl
end Lk01
end
section
set_option maxRecDepth 100000
namespace Lk01
open PySem L2 Mi
noncomputable def gbr : FS:=(sIf (bAnd (bTB (b2 (cmpD (.ord .lt)) (b2 (binD .mod) (bVar 11) (bC (.int 8))) (bC (.int 4)))) (bTB (b2 (cmpD (.ord .lt)) (bCall lenD (bCons (bVar 5) (bNil))) (bC (.int 14))))) (sSeq (sSet false 8 (b2 (binD .add) (b2 (binD .add) (bVar 8) (bC (.int 1))) (b2 (binD .mod) (b2 (binD .fdiv) (bVar 12) (bCall lenD (bCons (bVar 3) (bNil)))) (bVar 4))) true) (sSeq (sApp 5 (bTup (bCons (bVar 8) (bCons (b2 getD (bVar 3) (b2 (binD .mod) (bVar 12) (bCall lenD (bCons (bVar 3) (bNil))))) (bNil))))) (sSet false 6 (b2 (binD .add) (bVar 6) (bComp 14 (bThen (bCons (b2 (binD .add) (b2 getD (bVar 0) (b2 getD (bVar 3) (b2 (binD .mod) (bVar 12) (bCall lenD (bCons (bVar 3) (bNil)))))) (bC (.int 1))) (bNil)) rng1D) oneT (bTrue) (bTup (bCons (bVar 8) (bCons (bVar 14) (bNil)))) false)) true))) (sIf (bAnd (bTB (bCh (cmpD (.ord .le)) (cmpD (.ord .lt)) (bC (.int 4)) (b2 (binD .mod) (bVar 11) (bC (.int 8))) (bC (.int 6)))) (bTB (b2 (cmpD (.ord .gt)) (bCall lenD (bCons (bVar 13) (bNil))) (bC (.int 1))))) (sSeq (sApp 7 (bCall (argN 2 v__law_tied) (bCons (bVar 13) (bCons (bVar 12) (bNil))))) (sSet false 6 (bComp 14 (bItems (bVar 6) false) oneT (bTB (b2 (cmpD .notin) (bVar 14) (b2 getD (bVar 7) (b1 negD (bC (.int 1)))))) (bVar 14) false) true)) (sIf (bTB (b2 (cmpD .eq) (b2 (binD .mod) (bVar 11) (bC (.int 8))) (bC (.int 6)))) (sSet false 9 (b2 (binD .add) (bVar 9) (bC (.int 1))) true) (sIf (bTB (b2 (cmpD .eq) (b2 (binD .mod) (bVar 11) (bC (.int 8))) (bC (.int 7)))) (sSet false 10 (b2 (binD .add) (bVar 10) (b2 (binD .mod) (bVar 12) (b2 (binD .pow) (bC (.int 10)) (bC (.int 50))))) true) (sNil)))))
noncomputable def gbody : FS:=(sSeq (sSet false 12 (b2 (binD .fdiv) (bVar 11) (bC (.int 8))) true) (sSeq (sAl 13 6) (sSeq (sIf (bTB (b2 (cmpD .eq) (b2 (binD .mod) (bVar 11) (bC (.int 8))) (bC (.int 5)))) (sSet false 13 (bComp 14 (bItems (bVar 6) false) oneT (bTB (b2 (cmpD .eq) (b2 getD (bVar 14) (bC (.int 1))) (bC (.int 0)))) (bVar 14) false) true) (sNil)) gbr)))
structure Gr (kvs : List (D × D)) (Q : List Pc) (L : List Pt) (T : List Tie) (num : Int) : Prop where
 nd : (ends T ++ L).Nodup
 qn : (Q.map (·.1)).Nodup
 qb : ∀ pc ∈ Q,0 < pc.1/\pc.1<=num
 n0 : 0<=num
 chf : ∀ pc ∈ Q,(pc.1,(0 : Int)) ∈ ends T ++ L
 num : ∀ e ∈ ends T ++ L,e.1 ∈ Q.map (·.1)
 lt : ∀ t ∈ T,ltP t.1 t.2
 ll : L.length<=7 * Q.length
 ql : Q.length<=14
 qs : Q.Pairwise fun a b=>a.1 < b.1
 hk : ∀ e ∈ ends T ++ L,∃ pc ∈ Q,e.1 = pc.1/\0<=e.2/\∃ v : Nat,lookD kvs (.str pc.2) = some (.int v)/\e.2<=v
 sk : ∀ pc ∈ Q,∃ v : Nat,v<=6/\lookD kvs (.str pc.2) = some (.int v)
theorem Gr.perm {kvs : List (D × D)} {Q : List Pc} {L L' : List Pt} {T T' : List Tie} {num : Int} (g : Gr kvs Q L T num) (p : (ends T' ++ L').Perm (ends T ++ L)) (hlt : ∀ t ∈ T',ltP t.1 t.2) (hl : L'.length<=L.length) : Gr kvs Q L' T' num:=
 ⟨p.nodup_iff.mpr g.nd,g.qn,g.qb,g.n0,fun pc h=>p.mem_iff.mpr (g.chf pc h),fun e h=>g.num e (p.mem_iff.mp h),hlt,Nat.le_trans hl g.ll,g.ql,g.qs,fun e h=>g.hk e (p.mem_iff.mp h),g.sk⟩
theorem Gr.ln {kvs : List (D × D)} {Q : List Pc} {L : List Pt} {T : List Tie} {num : Int} (g : Gr kvs Q L T num) : L.Nodup:=(List.nodup_append.mp g.nd).2.1
theorem Gr.tie {kvs : List (D × D)} {Q : List Pc} {L : List Pt} {T : List Tie} {num : Int} (g : Gr kvs Q L T num) {a b : Pt} (ha : a ∈ L) (hb : b ∈ L) (h : ltP a b) : Gr kvs Q (L.filter fun x=>!(decide (a = x) || decide (b = x))) (T ++ [(a,b)]) num:=by
 have hab : a ≠ b:=fun z=>by subst z;simp only [ltP] at h;lia
 have split : ∀ {L : List Pt},L.Nodup->a ∈ L->b ∈ L->(a :: b :: L.filter fun x=>!(decide (a = x) || decide (b = x))).Perm L:=by
  intro L hn ha hb
  refine (List.perm_iff_count).mpr fun x=>?_
  rw [List.count_cons,List.count_cons]
  have hc : ∀ {M : List Pt} (y : Pt),M.Nodup->List.count y M = if y ∈ M then 1 else 0:=fun {M} y hm=>List.Nodup.count hm
  rw [hc x hn,hc x (List.filter_sublist.nodup hn)]
  simp only [List.mem_filter,Bool.not_eq_true',Bool.or_eq_false_iff,decide_eq_false_iff_not,beq_iff_eq]
  by_cases h1 : a = x
  ·subst h1
   have : ¬ b = a:=fun z=>hab z.symm
   simp [ha,this]
  ·by_cases h2 : b = x
   ·subst h2
    simp [hb,h1]
   ·simp [h1,h2]
 refine g.perm ?_ (fun t ht=>?_) (List.length_filter_le ..)
 ·rw [ends_snoc,List.append_assoc]
  exact List.Perm.append_left _ (split g.ln ha hb)
 ·rcases List.mem_append.mp ht with ht | ht
  ·exact g.lt t ht
  ·have : t = (a,b):=by simpa using ht
   subst this
   exact h
theorem Gr.piece {kvs : List (D × D)} {Q : List Pc} {L : List Pt} {T : List Tie} {num : Int} (g : Gr kvs Q L T num) {n : Int} {s : Str} {v : Nat} (hn : num < n) (hv : v<=6) (hlk : lookD kvs (.str s) = some (.int v)) (hq : Q.length < 14) : Gr kvs (Q ++ [(n,s)]) (L ++ (List.range (v + 1)).map fun (h : Nat)=>((n,(h : Int)) : Pt)) T n:=by
 have old : ∀ e ∈ ends T ++ L,e.1<=num:=fun e he=>by
  obtain ⟨pc,h1,h2⟩:=List.mem_map.mp (g.num e he)
  have:=g.qb pc h1
  lia
 have newm : ∀ e ∈ (List.range (v + 1)).map (fun (h : Nat)=>((n,(h : Int)) : Pt)),e.1 = n:=fun e he=>by
  obtain ⟨h,_,rfl⟩:=List.mem_map.mp he
  rfl
 refine ⟨?_,?_,fun pc h=>?_,by have:=g.n0;lia,fun pc h=>?_,fun e he=>?_,g.lt,?_,by simp;lia,List.pairwise_append.mpr ⟨g.qs,by simp,fun a ha b hb=>by have:=g.qb a ha;rw [show b = (n,s) from by simpa using hb];show a.1 < n;lia⟩,fun e he=>?_,fun pc h=>?_⟩
 ·rw [<- List.append_assoc]
  refine List.nodup_append.mpr ⟨g.nd,?_,fun a ha b hb z=>?_⟩
  ·refine List.Pairwise.map _ ?_ List.nodup_range
   intro a b hab z
   have : (a : Int) = b:=congrArg Prod.snd z
   lia
  ·subst z
   have:=old a ha
   rw [newm a hb] at this
   lia
 ·rw [List.map_append]
  refine List.nodup_append.mpr ⟨g.qn,by simp,fun a ha b hb z=>?_⟩
  subst z
  obtain ⟨pc,h1,h2⟩:=List.mem_map.mp ha
  have:=g.qb pc h1
  have : a = n:=by simpa using hb
  lia
 ·rcases List.mem_append.mp h with h | h
  ·have:=g.qb pc h
   lia
  ·have : pc = (n,s):=by simpa using h
   subst this
   have:=g.n0
   show 0 < n/\n<=n
   lia
 ·rw [<- List.append_assoc]
  rcases List.mem_append.mp h with h | h
  ·exact List.mem_append_left _ (g.chf pc h)
  ·have : pc = (n,s):=by simpa using h
   subst this
   exact List.mem_append_right _ (List.mem_map.mpr ⟨0,by simp,rfl⟩)
 ·rw [<- List.append_assoc] at he
  rw [List.map_append]
  rcases List.mem_append.mp he with he | he
  ·exact List.mem_append_left _ (g.num e he)
  ·rw [newm e he]
   exact List.mem_append_right _ (by simp)
 ·have:=g.ll
  simp
  lia
 ·rw [<- List.append_assoc] at he
  rcases List.mem_append.mp he with he | he
  ·obtain ⟨pc,h1,h2⟩:=g.hk e he
   exact ⟨pc,List.mem_append_left _ h1,h2⟩
  ·obtain ⟨h,h1,rfl⟩:=List.mem_map.mp he
   have:=List.mem_range.mp h1
   exact ⟨(n,s),List.mem_append_right _ (by simp),rfl,by show (0 : Int)<=(h : Int);lia,v,hlk,by show (h : Int)<=v;lia⟩
 ·rcases List.mem_append.mp h with h | h
  ·exact g.sk pc h
  ·have : pc = (n,s):=by simpa using h
   subst this
   exact ⟨v,hv,hlk⟩
end Lk01
end
section
set_option maxRecDepth 100000
namespace Lk01
open PySem L2 Mi
section
variable {kvs : List (D × D)} {cells : D} {seed far : Int} {NS : List Str}
@[reducible] noncomputable def St (kvs : List (D × D)) (cells : D) (seed : Int) (NS : List Str) (far : Int) (Q : List Pc) (L : List Pt) (T : List Tie) (num bare rings : Int) (c m sm : D) : List D:=
 [.dct kvs,cells,.int seed,.lst (NS.map D.str),.int far,.lst (Q.map pcD),.lst (L.map enP),.lst (T.map tieD),.int num,.int bare,.int rings,c,m,sm]
theorem pre_ok {Q : List Pc} {L : List Pt} {T : List Tie} {num bare rings c : Int} {m sm : D} (hl : L.length<=10000) : ∃ SM : List Pt,SM.Sublist L/\∀ r,gbr (St kvs cells seed NS far Q L T num bare rings (.int c) (.int (c / 8)) (.lst (SM.map enP))) = r->gbody (St kvs cells seed NS far Q L T num bare rings (.int c) m sm) = r:=by
 have f8:=fdiv_ok c 8 (by decide) (by decide)
 have m8:=mod_ok c 8 (by decide)
 have ce : cmpD .eq (.int (c % 8)) (.int 5) = .ok (.bl (c % 8 == 5)):=rfl
 have s1 : sSet false 12 (b2 (binD .fdiv) (bVar 11) (bC (.int 8))) true (St kvs cells seed NS far Q L T num bare rings (.int c) m sm) = .ok (.nx (St kvs cells seed NS far Q L T num bare rings (.int c) (.int (c / 8)) sm)):=set_ok (b2_ok rfl rfl f8)
 have s2 : sAl 13 6 (St kvs cells seed NS far Q L T num bare rings (.int c) (.int (c / 8)) sm) = .ok (.nx (St kvs cells seed NS far Q L T num bare rings (.int c) (.int (c / 8)) (.lst (L.map enP)))):=al_ok rfl
 have tc : bTB (b2 (cmpD .eq) (b2 (binD .mod) (bVar 11) (bC (.int 8))) (bC (.int 5))) (St kvs cells seed NS far Q L T num bare rings (.int c) (.int (c / 8)) (.lst (L.map enP))) = .ok (c % 8 == 5):=tb_ok (b2_ok (b2_ok rfl rfl m8) rfl ce)
 unfold gbody
 cases h : (c % 8 == 5) with
 | true=>
  rw [h] at tc
  refine ⟨L.filter fun x=>x.2 == 0,List.filter_sublist,fun r hr=>?_⟩
  have cf : bComp 14 (bItems (bVar 6) false) oneT (bTB (b2 (cmpD .eq) (b2 getD (bVar 14) (bC (.int 1))) (bC (.int 0)))) (bVar 14) false (St kvs cells seed NS far Q L T num bare rings (.int c) (.int (c / 8)) (.lst (L.map enP))) = .ok (.lst ((L.filter fun x=>x.2 == 0).map enP)):=by
   refine comp_ok (items_ok rfl rfl) (by rw [List.length_map,lim_eq];lia) ?_
   rw [cfold_map _ enP (fun x=>x.2 == 0) enP]
   ·rfl
   ·intro acc p
    have e1 : b2 getD (bVar 14) (bC (.int 1)) (St kvs cells seed NS far Q L T num bare rings (.int c) (.int (c / 8)) (.lst (L.map enP)) ++ [enP p]) = .ok (.int p.2):=b2_ok (x:=enP p) (y:=.int 1) rfl rfl rfl
    have e2 : cmpD .eq (.int p.2) (.int 0) = .ok (.bl (p.2 == 0)):=rfl
    exact cstep_one (ρ:=St kvs cells seed NS far Q L T num bare rings (.int c) (.int (c / 8)) (.lst (L.map enP))) rfl (tb_ok (b2_ok e1 rfl e2)) fun _=>⟨rfl,rfl⟩
  have s3 : sIf (bTB (b2 (cmpD .eq) (b2 (binD .mod) (bVar 11) (bC (.int 8))) (bC (.int 5)))) (sSet false 13 (bComp 14 (bItems (bVar 6) false) oneT (bTB (b2 (cmpD .eq) (b2 getD (bVar 14) (bC (.int 1))) (bC (.int 0)))) (bVar 14) false) true) sNil (St kvs cells seed NS far Q L T num bare rings (.int c) (.int (c / 8)) (.lst (L.map enP))) = .ok (.nx (St kvs cells seed NS far Q L T num bare rings (.int c) (.int (c / 8)) (.lst ((L.filter fun x=>x.2 == 0).map enP)))):=if_t tc (set_ok cf)
  exact seq_ok s1 (seq_ok s2 (seq_ok s3 hr))
 | false=>
  rw [h] at tc
  refine ⟨L,List.Sublist.refl _,fun r hr=>?_⟩
  exact seq_ok s1 (seq_ok s2 (seq_ok (if_f tc rfl) hr))
theorem str_get (NS : List Str) (i : Int) (h0 : 0<=i) (h1 : i < NS.length) : ∃ s ∈ NS,getD (.lst (NS.map D.str)) (.int i) = .ok (.str s):=by
 obtain ⟨h,e⟩:=lst_get (NS.map D.str) i h0 (by simpa using h1)
 rw [List.length_map] at h
 refine ⟨NS[i.toNat],List.getElem_mem _,?_⟩
 rw [e]
 simp
theorem stock_get {s : Str} : ∀ {kvs : List (D × D)},StockOk kvs->D.str s ∈ keysD kvs->∃ v : Nat,v<=6/\lookD kvs (.str s) = some (.int v)
 | [],_,hm=>by cases hm
 | p :: r,h,hm=>by
  obtain ⟨s',v,rfl,h0,h1⟩:=h _ (List.mem_cons_self ..)
  rw [lookD]
  by_cases e : eqD (.str s') (.str s) = true
  ·rw [if_pos e]
   exact ⟨v.toNat,by lia,by congr 2;lia⟩
  ·rw [if_neg e]
   refine stock_get (fun p hp=>h p (List.mem_cons_of_mem _ hp)) ?_
   rcases List.mem_cons.mp (show D.str s ∈ D.str s' :: keysD r from hm) with z | z
   ·cases z
    exact absurd (by simp [eqD]) e
   ·exact z
theorem lenQ (Q : List Pc) : lenD [.lst (Q.map pcD)] = .ok (.int Q.length):=by rw [len_ok,List.length_map]
theorem lenS (Q : List Str) : lenD [.lst (Q.map D.str)] = .ok (.int Q.length):=by rw [len_ok,List.length_map]
theorem lenE (Q : List Pt) : lenD [.lst (Q.map enP)] = .ok (.int Q.length):=by rw [len_ok,List.length_map]
end
end Lk01
end
section
set_option maxRecDepth 100000
namespace Lk01
open PySem L2 Mi
section
variable {kvs : List (D × D)} {cells : D} {seed far : Int} {NS : List Str}
set_option maxHeartbeats 4000000 in
theorem step_ok (hfar : 0 < far) (hst : StockOk kvs) (hNS : keysD kvs = NS.map D.str) (hne : NS ≠ []) (hNl : NS.length<=1000) {Q : List Pc} {L : List Pt} {T : List Tie} {num rings c : Int} {bare : Nat} {m sm : D} (g : Gr kvs Q L T num) (hT : T.length<=1000) (hb : bare<=1000) :
  ∃ (Q' : List Pc) (L' : List Pt) (T' : List Tie) (num' rings' : Int) (bare' : Nat) (m' sm' : D),Gr kvs Q' L' T' num'/\T'.length<=T.length + 1/\bare'<=bare + 1/\gbody (St kvs cells seed NS far Q L T num bare rings (.int c) m sm) = .ok (.nx (St kvs cells seed NS far Q' L' T' num' bare' rings' (.int c) m' sm')):=by
 have hll:=g.ll
 have hql:=g.ql
 obtain ⟨SM,hSM,pre⟩:=pre_ok (kvs:=kvs) (cells:=cells) (seed:=seed) (far:=far) (NS:=NS) (Q:=Q) (L:=L) (T:=T) (num:=num) (bare:=bare) (rings:=rings) (c:=c) (m:=m) (sm:=sm) (by lia)
 have m8:=mod_ok c 8 (by decide)
 have c4 : cmpD (.ord .lt) (.int (c % 8)) (.int 4) = .ok (.bl (decide (c % 8 < 4))):=rfl
 have c60 : cmpD (.ord .lt) (.int Q.length) (.int 14) = .ok (.bl (decide ((Q.length : Int) < 14))):=rfl
 have c46 : cmpD (.ord .le) (.int 4) (.int (c % 8)) = .ok (.bl (decide (4<=c % 8))):=rfl
 have c66 : cmpD (.ord .lt) (.int (c % 8)) (.int 6) = .ok (.bl (decide (c % 8 < 6))):=rfl
 have c1 : cmpD (.ord .gt) (.int SM.length) (.int 1) = .ok (.bl (decide ((1 : Int) < SM.length))):=rfl
 have e6 : cmpD .eq (.int (c % 8)) (.int 6) = .ok (.bl (c % 8 == 6)):=rfl
 have e7 : cmpD .eq (.int (c % 8)) (.int 7) = .ok (.bl (c % 8 == 7)):=rfl
 have hNp : (0 : Int) < (NS.length : Int):=by
  cases NS with
  | nil=>exact absurd rfl hne
  | cons _ _=>simp
 -- the first test
 have t1 : ∀ b,b = (decide (c % 8 < 4) && decide ((Q.length : Int) < 14))->bAnd (bTB (b2 (cmpD (.ord .lt)) (b2 (binD .mod) (bVar 11) (bC (.int 8))) (bC (.int 4)))) (bTB (b2 (cmpD (.ord .lt)) (bCall lenD (bCons (bVar 5) (bNil))) (bC (.int 14)))) (St kvs cells seed NS far Q L T num bare rings (.int c) (.int (c / 8)) (.lst (SM.map enP))) = .ok b:=by
  rintro b rfl
  cases h1 : decide (c % 8 < 4) with
  | true=>rw [h1] at c4;exact and_t (tb_ok (b2_ok (b2_ok rfl rfl m8) rfl c4)) (tb_ok (b2_ok (call_ok (cons_ok rfl rfl) (lenQ Q)) rfl c60))
  | false=>rw [h1] at c4;exact and_f (tb_ok (b2_ok (b2_ok rfl rfl m8) rfl c4))
 have t2 : ∀ b,b = (decide (4<=c % 8) && decide (c % 8 < 6) && decide ((1 : Int) < SM.length))->bAnd (bTB (bCh (cmpD (.ord .le)) (cmpD (.ord .lt)) (bC (.int 4)) (b2 (binD .mod) (bVar 11) (bC (.int 8))) (bC (.int 6)))) (bTB (b2 (cmpD (.ord .gt)) (bCall lenD (bCons (bVar 13) (bNil))) (bC (.int 1)))) (St kvs cells seed NS far Q L T num bare rings (.int c) (.int (c / 8)) (.lst (SM.map enP))) = .ok b:=by
  rintro b rfl
  cases h1 : decide (4<=c % 8) with
  | false=>rw [h1] at c46;exact and_f (tb_ok (ch_f rfl (b2_ok rfl rfl m8) c46))
  | true=>
   rw [h1] at c46
   cases h2 : decide (c % 8 < 6) with
   | false=>rw [h2] at c66;exact and_f (tb_ok (ch_t rfl (b2_ok rfl rfl m8) c46 rfl c66))
   | true=>rw [h2] at c66;exact and_t (tb_ok (ch_t rfl (b2_ok rfl rfl m8) c46 rfl c66)) (tb_ok (b2_ok (call_ok (cons_ok rfl rfl) (lenE SM)) rfl c1))
 have fin : ∀ {r : Res Fl},gbr (St kvs cells seed NS far Q L T num bare rings (.int c) (.int (c / 8)) (.lst (SM.map enP))) = r->gbody (St kvs cells seed NS far Q L T num bare rings (.int c) m sm) = r:=fun {r} h=>pre r h
 cases hA : (decide (c % 8 < 4) && decide ((Q.length : Int) < 14)) with
 | true=>
  rw [Bool.and_eq_true,decide_eq_true_eq,decide_eq_true_eq] at hA
  have T1:=t1 true (by rw [decide_eq_true hA.1,decide_eq_true hA.2];rfl)
  have gm:=mod_ok (c / 8) NS.length hNp
  obtain ⟨s,hs,es⟩:=str_get NS (c / 8 % NS.length) (Int.emod_nonneg _ (by lia)) (Int.emod_lt_of_pos _ hNp)
  obtain ⟨v,hv,ev⟩:=stock_get (s:=s) hst (by rw [hNS];exact List.mem_map.mpr ⟨s,hs,rfl⟩)
  have gs : getD (.dct kvs) (.str s) = .ok (.int v):=by
   show (if keyOk (.str s) then Res.ofOpt (lookD kvs (.str s)) else .bad) = _
   rw [ev]
   rfl
  have f1:=fdiv_ok (c / 8) NS.length hNp (by lia)
  have f3:=mod_ok (c / 8 / NS.length) far hfar
  have f4:=add_ok num 1
  have f5:=add_ok (num + 1) (c / 8 / NS.length % far)
  have h9 : 0<=c / 8 / NS.length % far:=Int.emod_nonneg _ (by lia)
  generalize hn : num + 1 + c / 8 / NS.length % far = n at f5
  have G:=g.piece (n:=n) (s:=s) (v:=v) (by lia) hv ev (by lia)
  refine ⟨_,_,T,n,rings,bare,.int (c / 8),.lst (SM.map enP),G,by lia,by lia,fin ?_⟩
  have s1 : sSet false 8 (b2 (binD .add) (b2 (binD .add) (bVar 8) (bC (.int 1))) (b2 (binD .mod) (b2 (binD .fdiv) (bVar 12) (bCall lenD (bCons (bVar 3) (bNil)))) (bVar 4))) true (St kvs cells seed NS far Q L T num bare rings (.int c) (.int (c / 8)) (.lst (SM.map enP))) = .ok (.nx (St kvs cells seed NS far Q L T n bare rings (.int c) (.int (c / 8)) (.lst (SM.map enP)))):=
   set_ok (b2_ok (b2_ok rfl rfl f4) (b2_ok (b2_ok rfl (call_ok (cons_ok rfl rfl) (lenS NS)) f1) rfl f3) f5)
  have s2 : sApp 5 (bTup (bCons (bVar 8) (bCons (b2 getD (bVar 3) (b2 (binD .mod) (bVar 12) (bCall lenD (bCons (bVar 3) (bNil))))) (bNil)))) (St kvs cells seed NS far Q L T n bare rings (.int c) (.int (c / 8)) (.lst (SM.map enP))) = .ok (.nx (St kvs cells seed NS far (Q ++ [(n,s)]) L T n bare rings (.int c) (.int (c / 8)) (.lst (SM.map enP)))):=by
   have d0 : bTup (bCons (bVar 8) (bCons (b2 getD (bVar 3) (b2 (binD .mod) (bVar 12) (bCall lenD (bCons (bVar 3) (bNil))))) (bNil))) (St kvs cells seed NS far Q L T n bare rings (.int c) (.int (c / 8)) (.lst (SM.map enP))) = .ok (.tup [.int n,.str s]):=tup_ok (cons_ok rfl (cons_ok (b2_ok rfl (b2_ok rfl (call_ok (cons_ok rfl rfl) (lenS NS)) gm) es) rfl)) (by rw [lim_eq];simp)
   refine (app_ok (i:=5) (ρ:=St kvs cells seed NS far Q L T n bare rings (.int c) (.int (c / 8)) (.lst (SM.map enP))) (xs:=Q.map pcD) (d:=.tup [.int n,.str s]) d0 rfl (by rw [List.length_map,lim_eq];lia) rfl).trans ?_
   show _ = Res.ok (Fl.nx [.dct kvs,cells,.int seed,.lst (NS.map D.str),.int far,.lst ((Q ++ [(n,s)]).map pcD),.lst (L.map enP),.lst (T.map tieD),.int n,.int bare,.int rings,.int c,.int (c / 8),.lst (SM.map enP)])
   rw [List.map_append]
   rfl
  have cf : bComp 14 (bThen (bCons (b2 (binD .add) (b2 getD (bVar 0) (b2 getD (bVar 3) (b2 (binD .mod) (bVar 12) (bCall lenD (bCons (bVar 3) (bNil)))))) (bC (.int 1))) (bNil)) rng1D) oneT (bTrue) (bTup (bCons (bVar 8) (bCons (bVar 14) (bNil)))) false (St kvs cells seed NS far (Q ++ [(n,s)]) L T n bare rings (.int c) (.int (c / 8)) (.lst (SM.map enP))) = .ok (.lst (((List.range (v + 1)).map fun (h : Nat)=>((n,(h : Int)) : Pt)).map enP)):=by
   refine comp_ok (rng_ok (n:=(v : Int) + 1) (cons_ok (b2_ok (b2_ok rfl (b2_ok rfl (b2_ok rfl (call_ok (cons_ok rfl rfl) (lenS NS)) gm) es) gs) rfl (add_ok v 1)) rfl) (by lia) (by lia)) (by rw [List.length_map,List.length_range,lim_eq];lia) ?_
   rw [cfold_map _ (fun (k : Nat)=>D.int (0 + (k : Int))) (fun _=>true) (fun (k : Nat)=>enP (n,(k : Int)))]
   ·rw [show ((v : Int) + 1).toNat = v + 1 by lia]
    rw [List.filter_eq_self.mpr (fun _ _=>rfl),List.map_map,List.nil_append]
    rfl
   ·intro acc k
    refine cstep_one (ρ:=St kvs cells seed NS far (Q ++ [(n,s)]) L T n bare rings (.int c) (.int (c / 8)) (.lst (SM.map enP))) (b:=true) rfl rfl fun _=>⟨?_,rfl⟩
    have d1 : bTup (bCons (bVar 8) (bCons (bVar 14) (bNil))) (St kvs cells seed NS far (Q ++ [(n,s)]) L T n bare rings (.int c) (.int (c / 8)) (.lst (SM.map enP)) ++ [D.int (0 + (k : Int))]) = .ok (.tup [.int n,.int (0 + (k : Int))]):=tup_ok (cons_ok rfl (cons_ok rfl rfl)) (by rw [lim_eq];simp)
    refine d1.trans ?_
    rw [Int.zero_add]
    rfl
  have s3 : sSet false 6 (b2 (binD .add) (bVar 6) (bComp 14 (bThen (bCons (b2 (binD .add) (b2 getD (bVar 0) (b2 getD (bVar 3) (b2 (binD .mod) (bVar 12) (bCall lenD (bCons (bVar 3) (bNil)))))) (bC (.int 1))) (bNil)) rng1D) oneT (bTrue) (bTup (bCons (bVar 8) (bCons (bVar 14) (bNil)))) false)) true (St kvs cells seed NS far (Q ++ [(n,s)]) L T n bare rings (.int c) (.int (c / 8)) (.lst (SM.map enP))) = .ok (.nx (St kvs cells seed NS far (Q ++ [(n,s)]) (L ++ (List.range (v + 1)).map fun (h : Nat)=>((n,(h : Int)) : Pt)) T n bare rings (.int c) (.int (c / 8)) (.lst (SM.map enP)))):=by
   refine (set_ok (b2_ok rfl cf (add_lst (L.map enP) _ (by simp only [List.length_map,List.length_range,lim_eq];lia) (pures_enP _) (pures_enP _)))).trans ?_
   rw [<- List.map_append]
   rfl
  exact if_t T1 (seq_ok s1 (seq_ok s2 s3))
 | false=>
  have T1:=t1 false hA.symm
  cases hB : (decide (4<=c % 8) && decide (c % 8 < 6) && decide ((1 : Int) < SM.length)) with
  | true=>
   have T2:=t2 true hB.symm
   rw [Bool.and_eq_true,decide_eq_true_eq] at hB
   obtain ⟨a,b,ha,hb',hlt,et⟩:=tied_eq SM (c / 8) (hSM.nodup g.ln) (by lia) (by have:=hSM.length_le;lia)
   have G:=g.tie (hSM.mem ha) (hSM.mem hb') hlt
   refine ⟨Q,_,T ++ [(a,b)],num,rings,bare,.int (c / 8),.lst (SM.map enP),G,by simp,by lia,fin (if_f T1 (if_t T2 ?_))⟩
   have s1 : sApp 7 (bCall (argN 2 v__law_tied) (bCons (bVar 13) (bCons (bVar 12) (bNil)))) (St kvs cells seed NS far Q L T num bare rings (.int c) (.int (c / 8)) (.lst (SM.map enP))) = .ok (.nx (St kvs cells seed NS far Q L (T ++ [(a,b)]) num bare rings (.int c) (.int (c / 8)) (.lst (SM.map enP)))):=by
    have d0 : bCall (argN 2 v__law_tied) (bCons (bVar 13) (bCons (bVar 12) (bNil))) (St kvs cells seed NS far Q L T num bare rings (.int c) (.int (c / 8)) (.lst (SM.map enP))) = .ok (tieD (a,b)):=call_ok (cons_ok rfl (cons_ok rfl rfl)) ((argN_ok rfl).trans et)
    refine (app_ok (i:=7) (ρ:=St kvs cells seed NS far Q L T num bare rings (.int c) (.int (c / 8)) (.lst (SM.map enP))) (xs:=T.map tieD) (d:=tieD (a,b)) d0 rfl (by rw [List.length_map,lim_eq];lia) rfl).trans ?_
    show _ = Res.ok (Fl.nx [.dct kvs,cells,.int seed,.lst (NS.map D.str),.int far,.lst (Q.map pcD),.lst (L.map enP),.lst ((T ++ [(a,b)]).map tieD),.int num,.int bare,.int rings,.int c,.int (c / 8),.lst (SM.map enP)])
    rw [List.map_append]
    rfl
   have gl : getD (.lst ((T ++ [(a,b)]).map tieD)) (.int (-1)) = .ok (tieD (a,b)):=by
    show Res.ofOpt ((ixD ((T ++ [(a,b)]).map tieD).length (-1)).bind fun j=>((T ++ [(a,b)]).map tieD)[j]?) = _
    have : ixD ((T ++ [(a,b)]).map tieD).length (-1) = some T.length:=by
     unfold ixD
     rw [if_neg (by decide),if_pos (by simp only [List.length_map,List.length_append,List.length_cons,List.length_nil];lia)]
     congr 1
     simp only [List.length_map,List.length_append,List.length_cons,List.length_nil]
     lia
    rw [this]
    simp
   have cf : bComp 14 (bItems (bVar 6) false) oneT (bTB (b2 (cmpD .notin) (bVar 14) (b2 getD (bVar 7) (b1 negD (bC (.int 1)))))) (bVar 14) false (St kvs cells seed NS far Q L (T ++ [(a,b)]) num bare rings (.int c) (.int (c / 8)) (.lst (SM.map enP))) = .ok (.lst ((L.filter fun x=>!(decide (a = x) || decide (b = x))).map enP)):=by
    refine comp_ok (items_ok rfl rfl) (by rw [List.length_map,lim_eq];lia) ?_
    rw [cfold_map _ enP (fun x=>!(decide (a = x) || decide (b = x))) enP]
    ·rfl
    ·intro acc p
     have cn : cmpD .notin (enP p) (tieD (a,b)) = .ok (.bl (!(decide (a = p) || decide (b = p)))):=by
      show (if (enP p).eqok eqdepth && D.eqoks eqdepth [enP a,enP b] then Res.ok (D.bl (!([enP a,enP b].any fun y=>eqD y (enP p)))) else .bad) = _
      rw [if_pos (show (D.eqok eqdepth (enP p) && D.eqoks eqdepth [enP a,enP b]) = true from rfl)]
      simp only [List.any_cons,List.any_nil,eqD_enP,Bool.or_false]
     exact cstep_one (ρ:=St kvs cells seed NS far Q L (T ++ [(a,b)]) num bare rings (.int c) (.int (c / 8)) (.lst (SM.map enP))) rfl (tb_ok (b2_ok (x:=enP p) rfl (b2_ok rfl (y:=.int (-1)) rfl gl) cn)) fun _=>⟨rfl,rfl⟩
   exact seq_ok s1 (set_ok cf)
  | false=>
   have T2:=t2 false hB.symm
   cases h6 : (c % 8 == 6) with
   | true=>
    rw [h6] at e6
    refine ⟨Q,L,T,num,rings,bare + 1,.int (c / 8),.lst (SM.map enP),g,by lia,by lia,fin (if_f T1 (if_f T2 (if_t (tb_ok (b2_ok (b2_ok rfl rfl m8) rfl e6)) ?_)))⟩
    exact set_ok (b2_ok rfl rfl (add_ok bare 1))
   | false=>
    rw [h6] at e6
    cases h7 : (c % 8 == 7) with
    | true=>
     rw [h7] at e7
     have f2 : binD .pow (.int 10) (.int 50) = .ok (.int (10 ^ 50)):=pow_ok 50 (by decide)
     have f3:=mod_ok (c / 8) (10 ^ 50) (by decide)
     refine ⟨Q,L,T,num,rings + c / 8 % 10 ^ 50,bare,.int (c / 8),.lst (SM.map enP),g,by lia,by lia,fin (if_f T1 (if_f T2 (if_f (tb_ok (b2_ok (b2_ok rfl rfl m8) rfl e6)) (if_t (tb_ok (b2_ok (b2_ok rfl rfl m8) rfl e7)) ?_))))⟩
     exact set_ok (b2_ok rfl (b2_ok rfl (b2_ok rfl rfl f2) f3) (add_ok rings _))
    | false=>
     rw [h7] at e7
     exact ⟨Q,L,T,num,rings,bare,.int (c / 8),.lst (SM.map enP),g,by lia,by lia,fin (if_f T1 (if_f T2 (if_f (tb_ok (b2_ok (b2_ok rfl rfl m8) rfl e6)) (if_f (tb_ok (b2_ok (b2_ok rfl rfl m8) rfl e7)) rfl))))⟩
end
end Lk01
end
section
set_option maxRecDepth 100000
namespace Lk01
open PySem L2 Mi
section
variable {kvs : List (D × D)} {cells : D} {seed far : Int} {NS : List Str}
theorem grow_loop (hfar : 0 < far) (hst : StockOk kvs) (hNS : keysD kvs = NS.map D.str) (hne : NS ≠ []) (hNl : NS.length<=1000) : ∀ (cs : List Int) {Q : List Pc} {L : List Pt} {T : List Tie} {num rings : Int} {bare : Nat} {x m sm : D},Gr kvs Q L T num->T.length + cs.length<=1000->bare + cs.length<=1000->
  ∃ (Q' : List Pc) (L' : List Pt) (T' : List Tie) (num' rings' : Int) (bare' : Nat) (x' m' sm' : D),Gr kvs Q' L' T' num'/\T'.length<=T.length + cs.length/\bare'<=bare + cs.length/\forS (tg1 11) gbody (cs.map D.int) (St kvs cells seed NS far Q L T num bare rings x m sm) = .ok (.nx (St kvs cells seed NS far Q' L' T' num' bare' rings' x' m' sm'))
 | [],Q,L,T,num,rings,bare,x,m,sm,g,_,_=>⟨Q,L,T,num,rings,bare,x,m,sm,g,by simp,by simp,rfl⟩
 | c :: cs,Q,L,T,num,rings,bare,x,m,sm,g,h1,h2=>by
  rw [List.length_cons] at h1 h2
  obtain ⟨Q1,L1,T1,n1,r1,b1,m1,s1,g1,i1,i2,e1⟩:=step_ok (cells:=cells) (seed:=seed) (rings:=rings) (c:=c) (m:=m) (sm:=sm) hfar hst hNS hne hNl g (bare:=bare) (by lia) (by lia)
  obtain ⟨Q2,L2,T2,n2,r2,b2,x2,m2,s2,g2,j1,j2,e2⟩:=grow_loop hfar hst hNS hne hNl cs (rings:=r1) (bare:=b1) (x:=.int c) (m:=m1) (sm:=s1) g1 (by lia) (by lia)
  refine ⟨Q2,L2,T2,n2,r2,b2,x2,m2,s2,g2,by simp only [List.length_cons];lia,by simp only [List.length_cons];lia,?_⟩
  exact fors_cons (ρ1:=St kvs cells seed NS far Q L T num bare rings (.int c) m sm) rfl e1 e2
end
theorem gr0 {kvs : List (D × D)} : Gr kvs [] [] [] 0:=⟨by simp [ends],by simp,by simp,by lia,by simp,by simp [ends],by simp,by simp,by simp,by simp,by simp [ends],by simp⟩
end Lk01
end
section
set_option maxRecDepth 100000
namespace Lk01
open PySem L2 Mi
noncomputable def untie : D->Tie
 | .tup [.tup [.int a,.int b],.tup [.int c,.int d]]=>((a,b),(c,d))
 | _=>((0,0),(0,0))
theorem untie_tie (t : Tie) : untie (tieD t) = t:=rfl
theorem sort_ties (U : List Tie) : ∃ V : List Tie,V.Perm U/\sortD (U.map tieD) = V.map tieD:=by
 refine ⟨(sortD (U.map tieD)).map untie,?_,?_⟩
 ·have h:=(sortD_perm (U.map tieD)).map untie
  rw [List.map_map] at h
  have e : U.map (untie ∘ tieD) = U:=by
   conv=>rhs;rw [<- List.map_id U]
   exact List.map_congr_left fun t _=>untie_tie t
  rw [e] at h
  exact h
 ·rw [List.map_map]
  conv=>lhs;rw [<- List.map_id (sortD (U.map tieD))]
  refine List.map_congr_left fun d hd=>?_
  obtain ⟨t,_,rfl⟩:=List.mem_map.mp ((sortD_perm (U.map tieD)).mem_iff.mp hd)
  rfl
theorem ord_tie (s t : Tie) : ∃ k,ordD .lt (tieD s) (tieD t) = some k/\(s.1 ≠ t.1->k = decide (ltP s.1 t.1)):=by
 have e : ordD .lt (tieD s) (tieD t) = (if eqD (enP s.1) (enP t.1) then (if eqD (enP s.2) (enP t.2) then some (Ordr.lt.nat 0 0) else ordD .lt (enP s.2) (enP t.2)) else ordD .lt (enP s.1) (enP t.1)):=rfl
 rw [e,eqD_enP,eqD_enP,ord_lt,ord_lt]
 by_cases h1 : s.1 = t.1
 ·rw [if_pos (by simp [h1])]
  by_cases h2 : s.2 = t.2
  ·rw [if_pos (by simp [h2])]
   exact ⟨_,rfl,fun h=>absurd h1 h⟩
  ·rw [if_neg (by simp [h2])]
   exact ⟨_,rfl,fun h=>absurd h1 h⟩
 ·rw [if_neg (by simp [h1])]
  exact ⟨_,rfl,fun _=>rfl⟩
theorem comparable_ties (U : List Tie) : comparable (U.map tieD) = true:=by
 unfold comparable
 refine List.all_eq_true.mpr fun d hd=>?_
 obtain ⟨t,ht,rfl⟩:=List.mem_map.mp hd
 have hk : kindD ((U.map tieD).headD .non) = 5:=by
  cases U with
  | nil=>cases ht
  | cons u U=>rfl
 have h5 : kindD (tieD t) = 5:=rfl
 have hp : (tieD t).plain = true:=rfl
 have hq : (tieD t).eqok eqdepth = true:=rfl
 rw [hk,h5,hp,hq]
 refine List.all_eq_true.mpr fun b hb=>?_
 obtain ⟨u,_,rfl⟩:=List.mem_map.mp hb
 obtain ⟨k,e,_⟩:=ord_tie t u
 rw [e]
 rfl
theorem ends_app (T R : List Tie) : ends (T ++ R) = ends T ++ ends R:=by simp [ends]
theorem ends_perm {V U : List Tie} (h : V.Perm U) : (ends V).Perm (ends U):=by
 unfold ends
 induction h with
 | nil=>exact .nil
 | cons x _ ih=>simpa using ih
 | swap x y l=>
  simp only [List.flatMap_cons]
  rw [<- List.append_assoc,<- List.append_assoc]
  exact List.Perm.append_right _ List.perm_append_comm
 | trans _ _ ih1 ih2=>exact ih1.trans ih2
noncomputable def many (T : List Tie) : Nat:=((ends T).filter fun e=>e.1 == 0).length
structure Net (kvs : List (D × D)) (Q : List Pc) (T : List Tie) : Prop where
 nd : (ends T).Nodup
 small : T.length<=1000
 qs : Q.Pairwise fun a b=>a.1 < b.1
 qpos : ∀ pc ∈ Q,0 < pc.1
 ql : Q.length<=14
 hk : ∀ e ∈ ends T,e.1 ≠ 0->∃ pc ∈ Q,e.1 = pc.1/\0<=e.2/\∃ v : Nat,lookD kvs (.str pc.2) = some (.int v)/\e.2<=v
 sk : ∀ pc ∈ Q,∃ v : Nat,v<=6/\lookD kvs (.str pc.2) = some (.int v)
 rims : ∀ e ∈ ends T,e.1 = 0->0<=e.2/\e.2 < (many T : Int)
theorem net_of {kvs : List (D × D)} {Q : List Pc} {L : List Pt} {T R : List Tie} {num : Int} {S : List Int} (g : Gr kvs Q L T num) (hS : S.Nodup) (hS2 : ∀ s ∈ S,0<=s/\s < S.length) (pR : (ends R).Perm (L ++ S.map rim)) (hsm : (T ++ R).length<=1000) :
  ∃ V : List Tie,sortedD [.lst ((T ++ R).map tieD)] = .ok (.lst (V.map tieD))/\Net kvs Q V:=by
 obtain ⟨V,pV,eV⟩:=sort_ties (T ++ R)
 have pE : (ends V).Perm (ends T ++ L ++ S.map rim):=by
  refine (ends_perm pV).trans ?_
  rw [ends_app,List.append_assoc]
  exact List.Perm.append_left _ pR
 have pos : ∀ e ∈ ends T ++ L,0 < e.1:=fun e he=>by
  obtain ⟨pc,h1,h2⟩:=List.mem_map.mp (g.num e he)
  have:=(g.qb pc h1).1
  lia
 have nd : (ends V).Nodup:=by
  refine pE.nodup_iff.mpr (List.nodup_append.mpr ⟨g.nd,?_,fun a ha b hb z=>?_⟩)
  ·refine List.Pairwise.map _ ?_ hS
   intro a b hab z
   exact hab (congrArg Prod.snd z)
  ·obtain ⟨s,_,rfl⟩:=List.mem_map.mp hb
   have:=pos a ha
   rw [z] at this
   exact absurd this (Int.lt_irrefl 0)
 have lV : V.length = (T ++ R).length:=pV.length_eq
 have hm : many V = S.length:=by
  unfold many
  rw [(pE.filter _).length_eq,List.filter_append]
  have e1 : (ends T ++ L).filter (fun e=>e.1 == 0) = []:=List.filter_eq_nil_iff.mpr fun e he=>by
   have:=pos e he
   simp
   lia
  have e2 : (S.map rim).filter (fun e=>e.1 == 0) = S.map rim:=List.filter_eq_self.mpr fun e he=>by
   obtain ⟨s,_,rfl⟩:=List.mem_map.mp he
   rfl
  rw [e1,e2,List.nil_append,List.length_map]
 refine ⟨V,?_,nd,by rw [lV];exact hsm,g.qs,fun pc h=>(g.qb pc h).1,g.ql,fun e he hne=>?_,g.sk,fun e he h0=>?_⟩
 ·show (if comparable ((T ++ R).map tieD) then Res.ok (D.lst (sortD ((T ++ R).map tieD))) else .bad) = _
  rw [comparable_ties,if_pos rfl,eV]
 ·rcases List.mem_append.mp (pE.mem_iff.mp he) with h | h
  ·exact g.hk e h
  ·obtain ⟨s,_,rfl⟩:=List.mem_map.mp h
   exact absurd rfl hne
 ·rcases List.mem_append.mp (pE.mem_iff.mp he) with h | h
  ·have:=pos e h
   lia
  ·obtain ⟨s,hs,rfl⟩:=List.mem_map.mp h
   rw [hm]
   exact hS2 s hs
end Lk01
end
section
set_option maxRecDepth 100000
namespace Lk01
open PySem L2 Mi
theorem net_pure (Q : List Pc) (V : List Tie) (r : Int) : (netD Q V r).pure = true:=by
 show ((D.tup (Q.map pcD)).pure && ((D.tup (V.map tieD)).pure && (true && true))) = true
 rw [pure_pcs,pure_ties]
 rfl
theorem stock_names : ∀ {kvs : List (D × D)},StockOk kvs->∃ NS : List Str,keysD kvs = NS.map D.str
 | [],_=>⟨[],rfl⟩
 | p :: kvs,h=>by
  obtain ⟨s,v,e,_⟩:=h p (List.mem_cons_self ..)
  obtain ⟨NS,ih⟩:=stock_names (kvs:=kvs) fun q hq=>h q (List.mem_cons_of_mem _ hq)
  refine ⟨s :: NS,?_⟩
  subst e
  show D.str s :: keysD kvs = _
  rw [ih]
  rfl
theorem stock_list {kvs : List (D × D)} (h : StockOk kvs) : listD [.dct kvs] = .ok (.lst (keysD kvs)):=by
 have e : kvs.all (fun p=>!isTup p.1) = true:=List.all_eq_true.mpr fun p hp=>by
  obtain ⟨s,v,rfl,_⟩:=h p hp
  rfl
 show (if kvs.all (fun p=>!isTup p.1) then Res.ok (D.lst (keysD kvs)) else .bad) = _
 rw [e,if_pos rfl]
theorem pures_ties (T : List Tie) : D.pures (T.map tieD) = true:=pure_ties T
theorem far_ok (seed : Int) : ∃ far : Int,0 < far/\∀ (a b : D) (c : D) (r : List D),b2 getD (bLst (bCons (b2 (binD .pow) (bC (.int 10)) (bC (.int 9))) (bCons (b2 (binD .pow) (bC (.int 10)) (bC (.int 9))) (bCons (b2 (binD .pow) (bC (.int 10)) (bC (.int 50))) (bNil))))) (b2 (binD .mod) (b2 (binD .fdiv) (bVar 2) (bC (.int 3))) (bC (.int 3))) (a :: b :: .int seed :: c :: r) = .ok (.int far):=by
 have p9 : binD .pow (.int 10) (.int 9) = .ok (.int (10 ^ 9)):=pow_ok 9 (by decide)
 have p50 : binD .pow (.int 10) (.int 50) = .ok (.int (10 ^ 50)):=pow_ok 50 (by decide)
 have f3:=fdiv_ok seed 3 (by decide) (by decide)
 have m3:=mod_ok (seed / 3) 3 (by decide)
 have h0 : 0<=seed / 3 % 3:=Int.emod_nonneg _ (by decide)
 have h1 : seed / 3 % 3 < 3:=Int.emod_lt_of_pos _ (by decide)
 have key : ∀ (far : Int) ,getD (.lst [.int (10 ^ 9),.int (10 ^ 9),.int (10 ^ 50)]) (.int (seed / 3 % 3)) = .ok (.int far)->∀ (a b : D) (c : D) (r : List D),b2 getD (bLst (bCons (b2 (binD .pow) (bC (.int 10)) (bC (.int 9))) (bCons (b2 (binD .pow) (bC (.int 10)) (bC (.int 9))) (bCons (b2 (binD .pow) (bC (.int 10)) (bC (.int 50))) (bNil))))) (b2 (binD .mod) (b2 (binD .fdiv) (bVar 2) (bC (.int 3))) (bC (.int 3))) (a :: b :: .int seed :: c :: r) = .ok (.int far):=by
  intro far hg a b c r
  refine b2_ok (x:=.lst [.int (10 ^ 9),.int (10 ^ 9),.int (10 ^ 50)]) ?_ (b2_ok (b2_ok (x:=.int seed) rfl rfl f3) rfl m3) hg
  have hc : (bCons (b2 (binD .pow) (bC (.int 10)) (bC (.int 9))) (bCons (b2 (binD .pow) (bC (.int 10)) (bC (.int 9))) (bCons (b2 (binD .pow) (bC (.int 10)) (bC (.int 50))) (bNil)))) (a :: b :: .int seed :: c :: r) = .ok [.int (10 ^ 9),.int (10 ^ 9),.int (10 ^ 50)]:=cons_ok (b2_ok rfl rfl p9) (cons_ok (b2_ok rfl rfl p9) (cons_ok (b2_ok rfl rfl p50) rfl))
  unfold bLst
  rw [hc,Res.ok_bind,if_pos (by rw [lim_eq];decide)]
  rfl
 have h : seed / 3 % 3 = 0\/seed / 3 % 3 = 1\/seed / 3 % 3 = 2:=by lia
 rcases h with h | h | h
 ·exact ⟨10 ^ 9,by decide,key _ (by rw [h];rfl)⟩
 ·exact ⟨10 ^ 9,by decide,key _ (by rw [h];rfl)⟩
 ·exact ⟨10 ^ 50,by decide,key _ (by rw [h];rfl)⟩
theorem grown_eq {kvs : List (D × D)} (hst : StockOk kvs) (hne : kvs ≠ []) (hl : kvs.length<=5) (cs : List Int) (hc : cs.length<=200) (seed : Int) : ∃ (Q : List Pc) (V : List Tie) (r : Int),Net kvs Q V/\v__law_grown [.dct kvs,.lst (cs.map D.int),.int seed] = .ok (netD Q V r):=by
 obtain ⟨NS,hNS⟩:=stock_names hst
 have lNS : NS.length = kvs.length:=by
  have:=congrArg List.length hNS
  simpa [keysD] using this.symm
 have nNS : NS ≠ []:=fun z=>hne (by rw [z] at lNS;exact List.length_eq_zero_iff.mp lNS.symm)
 obtain ⟨far,hfar,efar⟩:=far_ok seed
 obtain ⟨Q,L,T,num,rings,bare,x,m,sm,g,i1,i2,e1⟩:=grow_loop (cells:=.lst (cs.map D.int)) (seed:=seed) hfar hst hNS nNS (by lia) cs (rings:=0) (bare:=0) (x:=.undef) (m:=.undef) (sm:=.undef) gr0 (by simp;lia) (by lia)
 have lL : L.length<=420:=by have:=g.ll;have:=g.ql;lia
 have posL : ∀ p ∈ L,0 < p.1:=fun p hp=>by
  obtain ⟨pc,h1,h2⟩:=List.mem_map.mp (g.num p (List.mem_append_right _ hp))
  have:=(g.qb pc h1).1
  lia
 simp only [List.length_nil] at i1
 obtain ⟨R,S,r1,rb,r2,r3,r4,r5⟩:=rimmed_eq L bare seed posL (by lia)
 have lTR : (T ++ R).length<=1000:=by rw [List.length_append,r4];lia
 obtain ⟨V,v2,v3⟩:=net_of g r1 rb r2 lTR
 have hadd : binD .add (.lst (T.map tieD)) (.lst (R.map tieD)) = .ok (.lst ((T ++ R).map tieD)):=by
  rw [List.map_append]
  refine add_lst _ _ ?_ (pures_ties T) (pures_ties R)
  rw [List.length_map,List.length_map,lim_eq]
  rw [List.length_append] at lTR
  lia
 have hrim : argN 3 v__law_rimmed [.lst (L.map enP),.int bare,.int seed] = .ok (.lst (R.map tieD)):=(argN_ok rfl).trans r5
 have hli:=stock_list hst
 rw [hNS] at hli
 have hin : inner (.lst ((T ++ R).map tieD)) = true:=pures_ties _
 refine ⟨Q,V,rings,v3,?_⟩
 have fin : b__law_grown [.dct kvs,.lst (cs.map D.int),.int seed,.undef,.undef,.undef,.undef,.undef,.undef,.undef,.undef,.undef,.undef,.undef] = .ok (.rt (netD Q V rings)):=by
  refine seq_ok (ρ':=[.dct kvs,.lst (cs.map D.int),.int seed,.lst (NS.map D.str),.undef,.undef,.undef,.undef,.undef,.undef,.undef,.undef,.undef,.undef]) (set_ok (call_ok (cons_ok rfl rfl) hli)) ?_
  refine seq_ok (ρ':=[.dct kvs,.lst (cs.map D.int),.int seed,.lst (NS.map D.str),.int far,.undef,.undef,.undef,.undef,.undef,.undef,.undef,.undef,.undef]) (setP_ok (efar _ _ _ _) rfl) ?_
  refine seq_ok (ρ':=[.dct kvs,.lst (cs.map D.int),.int seed,.lst (NS.map D.str),.int far,.lst [],.undef,.undef,.undef,.undef,.undef,.undef,.undef,.undef]) (setV_ok rfl rfl) ?_
  refine seq_ok (ρ':=[.dct kvs,.lst (cs.map D.int),.int seed,.lst (NS.map D.str),.int far,.lst [],.lst [],.undef,.undef,.undef,.undef,.undef,.undef,.undef]) (set_ok rfl) ?_
  refine seq_ok (ρ':=[.dct kvs,.lst (cs.map D.int),.int seed,.lst (NS.map D.str),.int far,.lst [],.lst [],.lst [],.undef,.undef,.undef,.undef,.undef,.undef]) (setV_ok rfl rfl) ?_
  refine seq_ok (ρ':=[.dct kvs,.lst (cs.map D.int),.int seed,.lst (NS.map D.str),.int far,.lst [],.lst [],.lst [],.int 0,.undef,.undef,.undef,.undef,.undef]) (set_ok rfl) ?_
  refine seq_ok (ρ':=[.dct kvs,.lst (cs.map D.int),.int seed,.lst (NS.map D.str),.int far,.lst [],.lst [],.lst [],.int 0,.int 0,.undef,.undef,.undef,.undef]) (set_ok rfl) ?_
  refine seq_ok (ρ':=[.dct kvs,.lst (cs.map D.int),.int seed,.lst (NS.map D.str),.int far,.lst [],.lst [],.lst [],.int 0,.int 0,.int 0,.undef,.undef,.undef]) (set_ok rfl) ?_
  refine seq_ok (forV_ok (d:=.lst (cs.map D.int)) (xs:=cs.map D.int) rfl rfl e1) ?_
  refine seq_ok (ρ':=[.dct kvs,.lst (cs.map D.int),.int seed,.lst (NS.map D.str),.int far,.lst (Q.map pcD),.lst (L.map enP),.lst ((T ++ R).map tieD),.int num,.int bare,.int rings,x,m,sm])
   (setV_ok (i:=7) (b2_ok (x:=.lst (T.map tieD)) (y:=.lst (R.map tieD)) rfl (call_ok (xs:=[.lst (L.map enP),.int bare,.int seed]) (cons_ok rfl (cons_ok rfl (cons_ok rfl rfl))) hrim) hadd) hin) ?_
  refine ret_ok (d:=netD Q V rings) (tup_ok (xs:=[.tup (Q.map pcD),.tup (V.map tieD),.int rings]) (cons_ok (call_ok (xs:=[.lst (Q.map pcD)]) (cons_ok rfl rfl) rfl) (cons_ok (call_ok (xs:=[.lst (V.map tieD)]) (cons_ok (call_ok (xs:=[.lst ((T ++ R).map tieD)]) (cons_ok rfl rfl) v2) rfl) rfl) (cons_ok rfl rfl))) ?_) ?_
  ·rw [lim_eq]
   show 3<=1000000
   lia
  ·rw [net_pure]
   rfl
 show (do let r <- b__law_grown _;endD r) = _
 rw [show ([D.dct kvs,D.lst (cs.map D.int),D.int seed] ++ List.replicate (14 - 3) D.undef) = [.dct kvs,.lst (cs.map D.int),.int seed,.undef,.undef,.undef,.undef,.undef,.undef,.undef,.undef,.undef,.undef,.undef] from rfl,fin]
 rfl
noncomputable def cellAt (ns : List Int) (k : Nat) : Int:=ns.getD k 0
theorem cell_eq (ns : List Int) (k : Nat) : argN 2 v__law_cell_at [.scr (ns.map D.int),.int k] = .ok (.int (cellAt ns k)):=by
 refine (argN_ok rfl).trans ?_
 have hl : lenD [.scr (ns.map D.int)] = .ok (.int ns.length):=by
  show Res.ok (D.int ((ns.map D.int).length : Int)) = _
  rw [List.length_map]
 have hc : cmpD (.ord .lt) (.int k) (.int ns.length) = .ok (.bl (decide ((k : Int) < ns.length))):=rfl
 show (do let r <- b__law_cell_at [.scr (ns.map D.int),.int k];endD r) = _
 by_cases h : k < ns.length
 ·have hg : getD (.scr (ns.map D.int)) (.int k) = .ok (.int (cellAt ns k)):=by
   show Res.ofOpt ((ixD (ns.map D.int).length k).bind fun j=>(ns.map D.int)[j]?) = _
   have : ixD (ns.map D.int).length k = some k:=by
    unfold ixD
    rw [if_pos (by lia),if_pos (by rw [List.length_map];lia)]
    rfl
   rw [this]
   show Res.ofOpt ((ns.map D.int)[k]?) = _
   rw [List.getElem?_map,List.getElem?_eq_getElem h]
   show Res.ok (D.int ns[k]) = _
   rw [cellAt,List.getD_eq_getElem?_getD,List.getElem?_eq_getElem h]
   rfl
  have e : b__law_cell_at [.scr (ns.map D.int),.int k] = .ok (.rt (.int (cellAt ns k))):=by
   have ht : (bTB (b2 (cmpD (.ord .lt)) (bVar 1) (bCall lenD (bCons (bVar 0) (bNil))))) [.scr (ns.map D.int),.int k] = .ok true:=by
    refine tb_ok (b2_ok rfl (call_ok (cons_ok rfl rfl) hl) (hc.trans ?_))
    rw [decide_eq_true (by lia)]
   unfold b__law_cell_at sSeq
   rw [if_t (r:=.ok (.rt (.int (cellAt ns k)))) ht (ret_ok (b2_ok rfl rfl hg) rfl)]
   rfl
  rw [e]
  rfl
 ·have e : b__law_cell_at [.scr (ns.map D.int),.int k] = .ok (.rt (.int (cellAt ns k))):=by
   refine seq_ok (if_f (r:=.ok (.nx [.scr (ns.map D.int),.int k])) (tb_ok (b2_ok rfl (call_ok (cons_ok rfl rfl) hl) (hc.trans ?_))) rfl) (ret_ok (d:=.int (cellAt ns k)) ?_ rfl)
   ·rw [decide_eq_false (by lia)]
   ·rw [cellAt,List.getD_eq_getElem?_getD,List.getElem?_eq_none (by lia)]
    rfl
  rw [e]
  rfl
end Lk01
end
section
set_option maxRecDepth 100000
namespace Lk01
open PySem L2 Mi
theorem tr_ok {f : FE} {ρ : List D} {k : Bool} (h : f ρ = .ok (.bl k)) : bTr f ρ = .ok k:=by
 unfold bTr
 rw [h,Res.ok_bind]
 rfl
theorem nt_ok {f : FT} {ρ : List D} {k : Bool} (h : f ρ = .ok k) : bNot f ρ = .ok (!k):=by
 unfold bNot
 rw [h,Res.ok_bind]
 rfl
theorem or_f {a b : FT} {ρ : List D} {r : Res Bool} (h1 : a ρ = .ok false) (h2 : b ρ = r) : bOr a b ρ = r:=by
 unfold bOr
 rw [h1,Res.ok_bind,if_neg (by simp),h2]
theorem fors_rt {t : D->List D->Res (List D)} {body : FS} {x : D} {xs : List D} {ρ ρ1 : List D} {d : D} (h1 : t x ρ = .ok ρ1) (h2 : body ρ1 = .ok (.rt d)) : forS t body (x :: xs) ρ = .ok (.rt d):=by
 rw [forS,h1,Res.ok_bind,h2,Res.ok_bind]
theorem seq_rt {f g : FS} {ρ : List D} {d : D} (h1 : f ρ = .ok (.rt d)) : sSeq f g ρ = .ok (.rt d):=by
 unfold sSeq
 rw [h1,Res.ok_bind]
theorem whole_l (i : Int) : argN 1 v__law_whole [.int i] = .ok (.bl true):=rfl
theorem is_end_eq (p : Pt) : argN 1 v_is_end [enP p] = .ok (.bl true):=rfl
noncomputable def mtb : FS:=sSeq (sIf (bTB (b2 (cmpD .eq) (bVar 2) (bVar 1))) (sRet (bVar 3) false) (sNil)) (sIf (bTB (b2 (cmpD .eq) (bVar 3) (bVar 1))) (sRet (bVar 2) false) (sNil))
theorem mtb_1 {n : D} {e : Pt} {t : Tie} (h : t.1 = e) : mtb [n,enP e,enP t.1,enP t.2] = .ok (.rt (enP t.2)):=by
 have c:=cmp_eqP t.1 e
 rw [decide_eq_true h] at c
 exact seq_rt (if_t (tb_ok (b2_ok rfl rfl c)) (ret_ok (d:=enP t.2) rfl rfl))
theorem mtb_2 {n : D} {e : Pt} {t : Tie} (h : t.1 ≠ e) (h2 : t.2 = e) : mtb [n,enP e,enP t.1,enP t.2] = .ok (.rt (enP t.1)):=by
 have c:=cmp_eqP t.1 e
 rw [decide_eq_false h] at c
 have c2:=cmp_eqP t.2 e
 rw [decide_eq_true h2] at c2
 exact seq_ok (ρ':=[n,enP e,enP t.1,enP t.2]) (if_f (tb_ok (b2_ok rfl rfl c)) rfl) (if_t (tb_ok (b2_ok rfl rfl c2)) (ret_ok (d:=enP t.1) rfl rfl))
theorem mtb_0 {n : D} {e : Pt} {t : Tie} (h : t.1 ≠ e) (h2 : t.2 ≠ e) : mtb [n,enP e,enP t.1,enP t.2] = .ok (.nx [n,enP e,enP t.1,enP t.2]):=by
 have c:=cmp_eqP t.1 e
 rw [decide_eq_false h] at c
 have c2:=cmp_eqP t.2 e
 rw [decide_eq_false h2] at c2
 exact seq_ok (ρ':=[n,enP e,enP t.1,enP t.2]) (if_f (tb_ok (b2_ok rfl rfl c)) rfl) (if_f (tb_ok (b2_ok rfl rfl c2)) rfl)
theorem ends_cons (t : Tie) (V : List Tie) : ends (t :: V) = t.1 :: t.2 :: ends V:=rfl
theorem mem_ends {V : List Tie} {t : Tie} (h : t ∈ V) : t.1 ∈ ends V/\t.2 ∈ ends V:=by
 unfold ends
 exact ⟨List.mem_flatMap.mpr ⟨t,h,by simp⟩,List.mem_flatMap.mpr ⟨t,h,by simp⟩⟩
theorem mate_none {n : D} {e : Pt} : ∀ (V : List Tie) (x y : D),e ∉ ends V->∃ x' y',forS (tgN [2,3]) mtb (V.map tieD) [n,enP e,x,y] = .ok (.nx [n,enP e,x',y'])
 | [],x,y,_=>⟨x,y,rfl⟩
 | t :: V,x,y,h=>by
  rw [ends_cons,List.mem_cons,List.mem_cons,not_or,not_or] at h
  obtain ⟨x',y',ih⟩:=mate_none (n:=n) V (enP t.1) (enP t.2) h.2.2
  exact ⟨x',y',fors_cons (ρ1:=[n,enP e,enP t.1,enP t.2]) rfl (mtb_0 (fun z=>h.1 z.symm) fun z=>h.2.1 z.symm) ih⟩
theorem mate_some {n : D} {e f : Pt} : ∀ (V : List Tie) (x y : D),(ends V).Nodup->((e,f) ∈ V\/(f,e) ∈ V)->forS (tgN [2,3]) mtb (V.map tieD) [n,enP e,x,y] = .ok (.rt (enP f))
 | [],x,y,_,h=>by rcases h with h | h <;> cases h
 | t :: V,x,y,hn,h=>by
  rw [ends_cons,List.nodup_cons,List.nodup_cons,List.mem_cons,not_or] at hn
  by_cases h1 : t = (e,f)
  ·subst h1
   exact fors_rt (ρ1:=[n,enP e,enP e,enP f]) rfl (mtb_1 (t:=(e,f)) rfl)
  ·by_cases h2 : t = (f,e)
   ·subst h2
    exact fors_rt (ρ1:=[n,enP e,enP f,enP e]) rfl (mtb_2 (t:=(f,e)) hn.1.1 rfl)
   ·have h3 : (e,f) ∈ V\/(f,e) ∈ V:=by
     rcases h with h | h
     ·rcases List.mem_cons.mp h with h | h
      ·exact absurd h.symm h1
      ·exact .inl h
     ·rcases List.mem_cons.mp h with h | h
      ·exact absurd h.symm h2
      ·exact .inr h
    have he : e ∈ ends V:=by
     rcases h3 with h | h
     ·exact (mem_ends h).1
     ·exact (mem_ends h).2
    have n1 : t.1 ≠ e:=fun z=>hn.1.2 (z ▸ he)
    have n2 : t.2 ≠ e:=fun z=>hn.2.1 (z ▸ he)
    exact fors_cons (ρ1:=[n,enP e,enP t.1,enP t.2]) rfl (mtb_0 n1 n2) (mate_some V _ _ hn.2.2 h3)
section
variable {kvs : List (D × D)} {Q : List Pc} {V : List Tie} {r : Int}
theorem ties_ok {ρ : List D} : bItems (b2 getD (bVar 0) (bC (.int 1))) false (netD Q V r :: ρ) = .ok (V.map tieD,true):=by
 refine (items_ok (d:=.tup (V.map tieD)) (xs:=V.map tieD) (b2_ok rfl rfl rfl) rfl).trans ?_
 rw [pure_ties]
 rfl
theorem hm_eq {e : Pt} {x y : D} {res : Res Fl} (h : forS (tgN [2,3]) mtb (V.map tieD) [netD Q V r,enP e,x,y] = res) : h_mate [netD Q V r,enP e,x,y] = res:=
 if_t (tr_ok (call_ok (xs:=[enP e]) (cons_ok rfl rfl) (is_end_eq e))) (for_ok ties_ok h)
theorem mate_eq (N : Net kvs Q V) {e f : Pt} (h : (e,f) ∈ V\/(f,e) ∈ V) : argN 2 v_mate [netD Q V r,enP e] = .ok (enP f):=by
 refine (argN_ok rfl).trans ?_
 show (do let r <- b_mate [netD Q V r,enP e,.undef,.undef];endD r) = _
 rw [show b_mate [netD Q V r,enP e,.undef,.undef] = .ok (.rt (enP f)) from seq_rt (hm_eq (mate_some V _ _ N.nd h))]
 rfl
theorem none_eq {e : Pt} (h : e ∉ ends V) : argN 2 v__law_none [netD Q V r,enP e] = .ok (.bl true):=by
 refine (argN_ok rfl).trans ?_
 obtain ⟨x',y',h1⟩:=mate_none (n:=netD Q V r) V .undef .undef h
 have h2:=hm_eq h1
 show (match h_mate ([netD Q V r,enP e] ++ List.replicate (4 - 2) .undef) with | .ok (.nx _)=>if ([netD Q V r,enP e] : List D).length = 2 then Res.ok (D.bl true) else .bad | _=>.bad) = _
 rw [show ([netD Q V r,enP e] ++ List.replicate (4 - 2) D.undef) = [netD Q V r,enP e,.undef,.undef] from rfl,h2]
 rfl
theorem is_end_l (p q : Pt) (h : p = q) : argN 2 v__law_is_end [enP p,enP q] = .ok (.bl true):=by
 subst h
 refine (argN_ok rfl).trans ?_
 have c:=cmp_eqP p p
 rw [decide_eq_true rfl] at c
 show (do let r <- b__law_is_end [enP p,enP p];endD r) = _
 have e : b__law_is_end [enP p,enP p] = .ok (.rt (.bl true)):=by
  refine seq_ok (ρ':=[enP p,enP p]) (if_f rfl rfl) (ret_ok (d:=.bl true) ?_ rfl)
  show (do let x <- b2 (cmpD .eq) (bVar 0) (bVar 1) [enP p,enP p];pure x) = _
  rw [b2_ok (z:=.bl true) rfl rfl c]
 rw [e]
 rfl
end
end Lk01
end
section
set_option maxRecDepth 100000
namespace Lk01
open PySem L2 Mi
section
variable {kvs : List (D × D)} {Q : List Pc} {V : List Tie} {r : Int}
theorem no_rim (N : Net kvs Q V) {k : Int} (h : k < 0\/(many V : Int)<=k) : ((0,k) : Pt) ∉ ends V:=fun z=>by
 have:=N.rims _ z rfl
 simp only at this
 lia
theorem q_inj {Q : List Pc} (h : Q.Pairwise fun a b=>a.1 < b.1) {a b : Pc} (ha : a ∈ Q) (hb : b ∈ Q) (e : a.1 = b.1) : a = b:=by
 induction Q with
 | nil=>cases ha
 | cons c Q ih=>
  rw [List.pairwise_cons] at h
  rcases List.mem_cons.mp ha with h1 | h1 <;> rcases List.mem_cons.mp hb with h2 | h2
  ·rw [h1,h2]
  ·have:=h.1 b h2
   rw [h1] at e
   lia
  ·have:=h.1 a h1
   rw [h2] at e
   lia
  ·exact ih h.2 h1 h2
theorem no_num (N : Net kvs Q V) {n k : Int} (h0 : n ≠ 0) (h : n ∉ Q.map (·.1)) : ((n,k) : Pt) ∉ ends V:=fun z=>by
 obtain ⟨pc,h1,h2,_⟩:=N.hk _ z h0
 exact h (List.mem_map.mpr ⟨pc,h1,h2.symm⟩)
theorem no_hook (N : Net kvs Q V) {pc : Pc} (hp : pc ∈ Q) {v k : Int} (hv : lookD kvs (.str pc.2) = some (.int v)) (h : k < 0\/v < k) : ((pc.1,k) : Pt) ∉ ends V:=fun z=>by
 have:=N.qpos pc hp
 obtain ⟨pc',h1,h2,h3,v',h4,h5⟩:=N.hk _ z (by show pc.1 ≠ 0;lia)
 have e:=q_inj N.qs hp h1 h2
 subst e
 rw [hv] at h4
 cases h4
 simp only at h3 h5
 lia
theorem num_pos (N : Net kvs Q V) {n : Int} (h : n<=0) : n ∉ Q.map (·.1):=fun z=>by
 obtain ⟨pc,h1,h2⟩:=List.mem_map.mp z
 have:=N.qpos pc h1
 lia
noncomputable def lastN (Q : List Pc) : Int:=match Q.getLast? with | some q=>q.1 | none=>0
theorem lastN_snoc (Q : List Pc) (q : Pc) : lastN (Q ++ [q]) = q.1:=by unfold lastN;simp
theorem num_le {Q : List Pc} (h : Q.Pairwise fun a b=>a.1 < b.1) : ∀ n ∈ Q.map (·.1),n<=lastN Q:=fun n hn=>by
 obtain ⟨pc,h1,rfl⟩:=List.mem_map.mp hn
 rcases List.eq_nil_or_concat Q with e | ⟨Q',q,e⟩
 ·subst e;cases h1
 ·rw [List.concat_eq_append] at e
  subst e
  rw [lastN_snoc]
  rcases List.mem_append.mp h1 with h1 | h1
  ·exact Int.le_of_lt ((List.pairwise_append.mp h).2.2 pc h1 q (by simp))
  ·have : pc = q:=by simpa using h1
   rw [this];exact Int.le_refl _
theorem last_nn (N : Net kvs Q V) : 0<=lastN Q:=by
 rcases List.eq_nil_or_concat Q with e | ⟨Q',q,e⟩
 ·subst e;exact Int.le_refl _
 ·rw [List.concat_eq_append] at e
  subst e
  rw [lastN_snoc]
  have:=N.qpos q (by simp)
  lia
theorem no_big (N : Net kvs Q V) {n k : Int} (h : lastN Q < n) : ((n,k) : Pt) ∉ ends V:=by
 have:=last_nn N
 exact no_num N (by lia) fun z=>by have:=num_le N.qs n z;lia
noncomputable def nob : FS:=sIf (bNot (bTr (bCall (argN 2 v__law_none) (bCons (bVar 0) (bCons (b2 getD (bVar 5) (b2 (binD .mod) (b2 (binD .add) (bVar 3) (bVar 8)) (bCall lenD (bCons (bVar 5) (bNil))))) (bNil)))))) (sRet (bC (.bl false)) true) (sNil)
theorem no_loop {Es : List Pt} (hE : 0 < Es.length) (hn : ∀ e ∈ Es,e ∉ ends V) {a1 a2 a4 a6 a7 : D} {c : Int} : ∀ (ks : List Nat) (x : D),∃ x',forS (tg1 8) nob (ks.map fun (k : Nat)=>D.int (0 + (k : Int))) [netD Q V r,a1,a2,.int c,a4,.lst (Es.map enP),a6,a7,x] = .ok (.nx [netD Q V r,a1,a2,.int c,a4,.lst (Es.map enP),a6,a7,x'])
 | [],x=>⟨x,rfl⟩
 | k :: ks,x=>by
  obtain ⟨x',ih⟩:=no_loop hE hn ks (.int (0 + (k : Int)))
  refine ⟨x',fors_cons (ρ1:=[netD Q V r,a1,a2,.int c,a4,.lst (Es.map enP),a6,a7,.int (0 + (k : Int))]) rfl ?_ ih⟩
  have hp : (0 : Int) < Es.length:=by lia
  have m1:=mod_ok (c + (0 + (k : Int))) Es.length hp
  obtain ⟨p,h1,h2⟩:=pts_get Es ((c + (0 + (k : Int))) % Es.length) (Int.emod_nonneg _ (by lia)) (Int.emod_lt_of_pos _ hp)
  exact if_f (nt_ok (k:=true) (tr_ok (call_ok (xs:=[netD Q V r,enP p]) (cons_ok rfl (cons_ok (b2_ok rfl (b2_ok (b2_ok rfl rfl (add_ok c _)) (call_ok (cons_ok rfl rfl) (lenE Es)) m1) h2) rfl)) (none_eq (hn p h1))))) rfl
noncomputable def nend : FS:=sSeq (sFor (bThen (bCons (bCall lenD (bCons (bVar 5) (bNil))) (bNil)) rng1D) (tg1 8) nob) (sRet (bC (.bl true)) true)
theorem nend_eq {Es : List Pt} (hE : 0 < Es.length) (hl : Es.length<=100) (hn : ∀ e ∈ Es,e ∉ ends V) {a1 a2 a4 a6 a7 a8 : D} {c : Int} : nend [netD Q V r,a1,a2,.int c,a4,.lst (Es.map enP),a6,a7,a8] = .ok (.rt (.bl true)):=by
 obtain ⟨x',h⟩:=no_loop (Q:=Q) (r:=r) (a1:=a1) (a2:=a2) (a4:=a4) (a6:=a6) (a7:=a7) (c:=c) hE hn (List.range Es.length) a8
 refine seq_ok (ρ':=[netD Q V r,a1,a2,.int c,a4,.lst (Es.map enP),a6,a7,x']) (for_ok (rng_ok (n:=(Es.length : Int)) (cons_ok (call_ok (cons_ok rfl rfl) (lenE Es)) rfl) (by lia) (by lia)) ?_) (ret_ok (d:=.bl true) rfl rfl)
 rw [show ((Es.length : Int)).toNat = Es.length by lia]
 exact h
theorem tup_get (L : List D) (i : Int) (h0 : 0<=i) (h1 : i < L.length) : ∃ (h : i.toNat < L.length),getD (.tup L) (.int i) = .ok L[i.toNat]:=by
 have hlt : i.toNat < L.length:=by lia
 refine ⟨hlt,?_⟩
 show Res.ofOpt ((ixD L.length i).bind fun j=>L[j]?) = _
 unfold ixD
 rw [if_pos h0,if_pos h1]
 simp only [Option.bind_some]
 rw [List.getElem?_eq_getElem hlt]
 rfl
theorem pcs_get (Q : List Pc) (i : Int) (h0 : 0<=i) (h1 : i < Q.length) : ∃ p ∈ Q,getD (.tup (Q.map pcD)) (.int i) = .ok (pcD p):=by
 obtain ⟨h,e⟩:=tup_get (Q.map pcD) i h0 (by rw [List.length_map];exact h1)
 rw [List.length_map] at h
 exact ⟨Q[i.toNat],List.getElem_mem h,by rw [e,List.getElem_map]⟩
theorem last_get (Q : List Pc) (q : Pc) : getD (.tup ((Q ++ [q]).map pcD)) (.int (-1)) = .ok (pcD q):=by
 show Res.ofOpt ((ixD ((Q ++ [q]).map pcD).length (-1)).bind fun j=>((Q ++ [q]).map pcD)[j]?) = _
 have : ixD ((Q ++ [q]).map pcD).length (-1) = some Q.length:=by
  unfold ixD
  rw [if_neg (by decide),if_pos (by simp only [List.length_map,List.length_append,List.length_cons,List.length_nil];lia)]
  congr 1
  simp only [List.length_map,List.length_append,List.length_cons,List.length_nil]
  lia
 rw [this]
 simp
theorem lenT (Q : List Pc) : lenD [.tup (Q.map pcD)] = .ok (.int Q.length):=by
 show Res.ok (D.int ((Q.map pcD).length : Int)) = _
 rw [List.length_map]
theorem eqoks_ints : ∀ (l : List Int),D.eqoks eqdepth (l.map D.int) = true
 | []=>rfl
 | x :: l=>by
  show (D.eqok eqdepth (.int x) && D.eqoks eqdepth (l.map D.int)) = true
  rw [eqoks_ints l]
  rfl
theorem notin_ints (a : Int) (l : List Int) : ∃ b,cmpD .notin (.int a) (.lst (l.map D.int)) = .ok (.bl b)/\(b = true->a ∉ l):=by
 refine ⟨!((l.map D.int).any fun y=>eqD y (.int a)),?_,fun h z=>?_⟩
 ·show (if D.eqok eqdepth (.int a) && D.eqoks eqdepth (l.map D.int) then Res.ok (D.bl (!((l.map D.int).any fun y=>eqD y (.int a)))) else .bad) = _
  rw [eqoks_ints]
  rfl
 ·rw [Bool.not_eq_true'] at h
  have : ((l.map D.int).any fun y=>eqD y (.int a)) = true:=List.any_eq_true.mpr ⟨.int a,List.mem_map.mpr ⟨a,z,rfl⟩,by show (a == a) = true;simp⟩
  rw [h] at this
  cases this
end
end Lk01
end
section
set_option maxRecDepth 100000
namespace Lk01
open PySem L2 Mi
theorem pt_ok {a b : FE} {ρ : List D} {i j : Int} (h1 : a ρ = .ok (.int i)) (h2 : b ρ = .ok (.int j)) : bTup (bCons a (bCons b bNil)) ρ = .ok (enP (i,j)):=tup_ok (cons_ok h1 (cons_ok h2 rfl)) (by rw [lim_eq];simp)
theorem lstP_ok {a : FA} {ρ : List D} {Es : List Pt} (h : a ρ = .ok (Es.map enP)) (hl : Es.length<=100) : bLstP a ρ = .ok (.lst (Es.map enP)):=by
 unfold bLstP
 rw [h,Res.ok_bind,if_pos (by rw [pures_enP,decide_eq_true (by rw [List.length_map,lim_eq];lia)];rfl)]
 rfl
theorem unp_ok {f : FE} {t : D->List D->Res (List D)} {ρ ρ' : List D} {d : D} (h : f ρ = .ok d) (hp : d.pure = true) (ht : t d ρ = .ok ρ') : sUnp f t ρ = .ok (.nx ρ'):=by
 unfold sUnp
 rw [h,Res.ok_bind,if_pos hp,ht]
 rfl
section
variable {kvs : List (D × D)} {Q : List Pc} {V : List Tie} {r : Int}
theorem pcs_ok {ρ : List D} : b2 getD (bVar 0) (bC (.int 0)) (netD Q V r :: ρ) = .ok (.tup (Q.map pcD)):=b2_ok rfl rfl rfl
theorem last_ok {a1 a2 a3 a5 a6 a7 a8 : D} : sIf (bTB (b2 (cmpD (.ord .gt)) (bCall lenD (bCons (b2 getD (bVar 0) (bC (.int 0))) (bNil))) (bC (.int 0)))) (sSet false 4 (b2 getD (b2 getD (b2 getD (bVar 0) (bC (.int 0))) (b1 negD (bC (.int 1)))) (bC (.int 0))) false) (sNil) [netD Q V r,a1,a2,a3,.int 0,a5,a6,a7,a8] = .ok (.nx [netD Q V r,a1,a2,a3,.int (lastN Q),a5,a6,a7,a8]):=by
 have c1 : cmpD (.ord .gt) (.int Q.length) (.int 0) = .ok (.bl (decide ((0 : Int) < Q.length))):=rfl
 rcases List.eq_nil_or_concat Q with e | ⟨Q',q,e⟩
 ·subst e
  exact if_f (tb_ok (b2_ok (call_ok (cons_ok pcs_ok rfl) (lenT [])) rfl c1)) rfl
 ·rw [List.concat_eq_append] at e
  subst e
  rw [decide_eq_true (by simp)] at c1
  rw [lastN_snoc]
  exact if_t (tb_ok (b2_ok (call_ok (cons_ok pcs_ok rfl) (lenT _)) rfl c1)) (setP_ok (b2_ok (b2_ok pcs_ok rfl (last_get Q' q)) rfl rfl) rfl)
noncomputable def E0 (m l x : Int) : List Pt:=[(0,m),(0,-1),(0,m + 1 + x),(l + 1 + x,0),(-1,0)]
theorem e0_ok {a0 a1 a5 a6 a7 a8 : D} {m c l : Int} : sSet true 5 (bLstP (bCons (bTup (bCons (bC (.int 0)) (bCons (bVar 2) (bNil)))) (bCons (bTup (bCons (bC (.int 0)) (bCons (b1 negD (bC (.int 1))) (bNil)))) (bCons (bTup (bCons (bC (.int 0)) (bCons (b2 (binD .add) (b2 (binD .add) (bVar 2) (bC (.int 1))) (b2 (binD .mod) (bVar 3) (b2 (binD .pow) (bC (.int 10)) (bC (.int 50))))) (bNil)))) (bCons (bTup (bCons (b2 (binD .add) (b2 (binD .add) (bVar 4) (bC (.int 1))) (b2 (binD .mod) (bVar 3) (b2 (binD .pow) (bC (.int 10)) (bC (.int 50))))) (bCons (bC (.int 0)) (bNil)))) (bCons (bTup (bCons (b1 negD (bC (.int 1))) (bCons (bC (.int 0)) (bNil)))) (bNil))))))) true [a0,a1,.int m,.int c,.int l,a5,a6,a7,a8] = .ok (.nx [a0,a1,.int m,.int c,.int l,.lst ((E0 m l (c % 10 ^ 50)).map enP),a6,a7,a8]):=by
 have p50 : binD .pow (.int 10) (.int 50) = .ok (.int (10 ^ 50)):=pow_ok 50 (by decide)
 have m50:=mod_ok c (10 ^ 50) (by decide)
 refine setV_ok (i:=5) (lstP_ok (Es:=E0 m l (c % 10 ^ 50)) ?_ (by unfold E0;simp)) (pures_enP _)
 exact cons_ok (pt_ok rfl rfl) (cons_ok (pt_ok rfl rfl) (cons_ok (pt_ok rfl (b2_ok (b2_ok rfl rfl (add_ok m 1)) (b2_ok rfl (b2_ok rfl rfl p50) m50) (add_ok _ _))) (cons_ok (pt_ok (b2_ok (b2_ok rfl rfl (add_ok l 1)) (b2_ok rfl (b2_ok rfl rfl p50) m50) (add_ok _ _)) rfl) (cons_ok (pt_ok rfl rfl) rfl))))
theorem e0_no (N : Net kvs Q V) (x : Int) (hx : 0<=x) : ∀ e ∈ E0 (many V) (lastN Q) x,e ∉ ends V:=fun e he=>by
 have hl:=last_nn N
 simp only [E0,List.mem_cons,List.mem_nil_iff,or_false] at he
 rcases he with rfl | rfl | rfl | rfl | rfl
 ·exact no_rim N (.inr (Int.le_refl _))
 ·exact no_rim N (.inl (by decide))
 ·exact no_rim N (.inr (by lia))
 ·exact no_big N (by lia)
 ·exact no_num N (by decide) (num_pos N (by decide))
noncomputable def morb : FS:=sSeq (sUnp (b2 getD (b2 getD (bVar 0) (bC (.int 0))) (b2 (binD .mod) (bVar 3) (bCall lenD (bCons (b2 getD (bVar 0) (bC (.int 0))) (bNil))))) (tgN [6,7])) (sSeq (sSet true 5 (b2 (binD .add) (bVar 5) (bLstP (bCons (bTup (bCons (bVar 6) (bCons (b2 (binD .add) (b2 getD (bVar 1) (bVar 7)) (bC (.int 1))) (bNil)))) (bCons (bTup (bCons (bVar 6) (bCons (b2 (binD .add) (b2 (binD .add) (b2 getD (bVar 1) (bVar 7)) (bC (.int 2))) (b2 (binD .mod) (bVar 3) (b2 (binD .pow) (bC (.int 10)) (bC (.int 50))))) (bNil)))) (bNil))))) true) (sSeq (sSet true 5 (b2 (binD .add) (bVar 5) (bLstP (bCons (bTup (bCons (bVar 6) (bCons (b1 negD (bC (.int 1))) (bNil)))) (bCons (bTup (bCons (b1 negD (bVar 6)) (bCons (bC (.int 0)) (bNil)))) (bNil))))) true) (sIf (bTB (b2 (cmpD .notin) (b2 (binD .add) (bVar 6) (bC (.int 1))) (bComp 9 (bItems (b2 getD (bVar 0) (bC (.int 0))) false) oneT (bTrue) (b2 getD (bVar 9) (bC (.int 0))) false))) (sApp 5 (bTup (bCons (b2 (binD .add) (bVar 6) (bC (.int 1))) (bCons (bC (.int 0)) (bNil))))) (sNil))))
theorem add_pts (a b : List Pt) (h : a.length + b.length<=100) : binD .add (.lst (a.map enP)) (.lst (b.map enP)) = .ok (.lst ((a ++ b).map enP)):=by
 rw [List.map_append]
 exact add_lst _ _ (by rw [List.length_map,List.length_map,lim_eq];lia) (pures_enP _) (pures_enP _)
theorem nums_ok {ρ : List D} (hq : Q.length<=14) (hρ : ρ.length = 8) : bComp 9 (bItems (b2 getD (bVar 0) (bC (.int 0))) false) oneT (bTrue) (b2 getD (bVar 9) (bC (.int 0))) false (netD Q V r :: ρ) = .ok (.lst ((Q.map (·.1)).map D.int)):=by
 refine comp_ok (items_ok (d:=.tup (Q.map pcD)) (xs:=Q.map pcD) pcs_ok rfl) (by rw [List.length_map,lim_eq];lia) ?_
 rw [cfold_map _ pcD (fun _=>true) (fun q=>D.int q.1)]
 ·rw [List.filter_eq_self.mpr (fun _ _=>rfl),List.nil_append,List.map_map]
  rfl
 ·intro acc q
  refine cstep_one (b:=true) (y:=.int q.1) (by simp [hρ]) rfl fun _=>⟨b2_ok (x:=pcD q) (y:=.int 0) ?_ rfl rfl,rfl⟩
  have : (netD Q V r :: ρ ++ [pcD q]).getD 9 .undef = pcD q:=by
   rw [List.getD_eq_getElem?_getD,List.getElem?_append_right (by simp [hρ])]
   simp [hρ]
  rw [bVar_eq,this]
  rfl
theorem more_ok (N : Net kvs Q V) (hne : 0 < Q.length) {a2 a4 a6 a7 a8 : D} {c : Int} {Es : List Pt} (hE : Es.length<=50) (hn : ∀ e ∈ Es,e ∉ ends V) :
  ∃ (Fs : List Pt) (b6 b7 : D),Es.length<=Fs.length/\Fs.length<=100/\(∀ e ∈ Fs,e ∉ ends V)/\morb [netD Q V r,.dct kvs,a2,.int c,a4,.lst (Es.map enP),a6,a7,a8] = .ok (.nx [netD Q V r,.dct kvs,a2,.int c,a4,.lst (Fs.map enP),b6,b7,a8]):=by
 have hp : (0 : Int) < Q.length:=by lia
 obtain ⟨⟨n,s⟩,h1,h2⟩:=pcs_get Q (c % Q.length) (Int.emod_nonneg _ (by lia)) (Int.emod_lt_of_pos _ hp)
 obtain ⟨v,_,hv⟩:=N.sk _ h1
 have npos:=N.qpos _ h1
 simp only at hv npos
 have gs : getD (.dct kvs) (.str s) = .ok (.int v):=by
  show (if keyOk (.str s) then Res.ofOpt (lookD kvs (.str s)) else .bad) = _
  rw [hv]
  rfl
 have p50 : binD .pow (.int 10) (.int 50) = .ok (.int (10 ^ 50)):=pow_ok 50 (by decide)
 have m50:=mod_ok c (10 ^ 50) (by decide)
 have hx : 0<=c % 10 ^ 50:=Int.emod_nonneg _ (by decide)
 generalize c % 10 ^ 50 = x at m50 hx
 have mq:=mod_ok c Q.length hp
 let F1 : List Pt:=[(n,(v : Int) + 1),(n,(v : Int) + 2 + x)]
 let F2 : List Pt:=[(n,-1),(-n,0)]
 have n1 : ∀ e ∈ Es ++ F1 ++ F2,e ∉ ends V:=fun e he=>by
  rcases List.mem_append.mp he with he | he
  ·rcases List.mem_append.mp he with he | he
   ·exact hn e he
   ·simp only [F1,List.mem_cons,List.mem_nil_iff,or_false] at he
    rcases he with rfl | rfl
    ·exact no_hook N h1 hv (.inr (by lia))
    ·exact no_hook N h1 hv (.inr (by lia))
  ·simp only [F2,List.mem_cons,List.mem_nil_iff,or_false] at he
   rcases he with rfl | rfl
   ·exact no_hook N h1 hv (.inl (by decide))
   ·exact no_num N (by lia) (num_pos N (by lia))
 have s1 : sUnp (b2 getD (b2 getD (bVar 0) (bC (.int 0))) (b2 (binD .mod) (bVar 3) (bCall lenD (bCons (b2 getD (bVar 0) (bC (.int 0))) (bNil))))) (tgN [6,7]) [netD Q V r,.dct kvs,a2,.int c,a4,.lst (Es.map enP),a6,a7,a8] = .ok (.nx [netD Q V r,.dct kvs,a2,.int c,a4,.lst (Es.map enP),.int n,.str s,a8]):=
  unp_ok (d:=pcD (n,s)) (b2_ok pcs_ok (b2_ok rfl (call_ok (cons_ok pcs_ok rfl) (lenT Q)) mq) h2) rfl rfl
 have s2 : sSet true 5 (b2 (binD .add) (bVar 5) (bLstP (bCons (bTup (bCons (bVar 6) (bCons (b2 (binD .add) (b2 getD (bVar 1) (bVar 7)) (bC (.int 1))) (bNil)))) (bCons (bTup (bCons (bVar 6) (bCons (b2 (binD .add) (b2 (binD .add) (b2 getD (bVar 1) (bVar 7)) (bC (.int 2))) (b2 (binD .mod) (bVar 3) (b2 (binD .pow) (bC (.int 10)) (bC (.int 50))))) (bNil)))) (bNil))))) true [netD Q V r,.dct kvs,a2,.int c,a4,.lst (Es.map enP),.int n,.str s,a8] = .ok (.nx [netD Q V r,.dct kvs,a2,.int c,a4,.lst ((Es ++ F1).map enP),.int n,.str s,a8]):=by
  refine setV_ok (i:=5) (b2_ok (x:=.lst (Es.map enP)) (y:=.lst (F1.map enP)) rfl (lstP_ok (Es:=F1) ?_ (by simp [F1])) (add_pts Es F1 (by simp [F1];lia))) (pures_enP _)
  exact cons_ok (pt_ok rfl (b2_ok (b2_ok rfl rfl gs) rfl (add_ok _ _))) (cons_ok (pt_ok rfl (b2_ok (b2_ok (b2_ok rfl rfl gs) rfl (add_ok _ _)) (b2_ok rfl (b2_ok rfl rfl p50) m50) (add_ok _ _))) rfl)
 have s3 : sSet true 5 (b2 (binD .add) (bVar 5) (bLstP (bCons (bTup (bCons (bVar 6) (bCons (b1 negD (bC (.int 1))) (bNil)))) (bCons (bTup (bCons (b1 negD (bVar 6)) (bCons (bC (.int 0)) (bNil)))) (bNil))))) true [netD Q V r,.dct kvs,a2,.int c,a4,.lst ((Es ++ F1).map enP),.int n,.str s,a8] = .ok (.nx [netD Q V r,.dct kvs,a2,.int c,a4,.lst ((Es ++ F1 ++ F2).map enP),.int n,.str s,a8]):=by
  refine setV_ok (i:=5) (b2_ok (x:=.lst ((Es ++ F1).map enP)) (y:=.lst (F2.map enP)) rfl (lstP_ok (Es:=F2) ?_ (by simp [F2])) (add_pts _ F2 (by simp [F1,F2];lia))) (pures_enP _)
  exact cons_ok (pt_ok rfl rfl) (cons_ok (pt_ok rfl rfl) rfl)
 obtain ⟨b,eb,hb⟩:=notin_ints (n + 1) (Q.map (·.1))
 have t1 : bTB (b2 (cmpD .notin) (b2 (binD .add) (bVar 6) (bC (.int 1))) (bComp 9 (bItems (b2 getD (bVar 0) (bC (.int 0))) false) oneT (bTrue) (b2 getD (bVar 9) (bC (.int 0))) false)) [netD Q V r,.dct kvs,a2,.int c,a4,.lst ((Es ++ F1 ++ F2).map enP),.int n,.str s,a8] = .ok b:=
  tb_ok (b2_ok (b2_ok rfl rfl (add_ok n 1)) (nums_ok N.ql rfl) eb)
 have hl : (Es ++ F1 ++ F2).length = Es.length + 4:=by simp [F1,F2]
 cases b with
 | false=>exact ⟨Es ++ F1 ++ F2,_,_,by lia,by lia,n1,seq_ok s1 (seq_ok s2 (seq_ok s3 (if_f t1 rfl)))⟩
 | true=>
  refine ⟨Es ++ F1 ++ F2 ++ [(n + 1,0)],.int n,.str s,by rw [List.length_append];lia,by rw [List.length_append,hl];simp;lia,fun e he=>?_,seq_ok s1 (seq_ok s2 (seq_ok s3 (if_t t1 ?_)))⟩
  ·rcases List.mem_append.mp he with he | he
   ·exact n1 e he
   ·have : e = (n + 1,0):=by simpa using he
    rw [this]
    exact no_num N (by lia) (hb rfl)
  ·refine (app_ok (i:=5) (xs:=(Es ++ F1 ++ F2).map enP) (d:=enP (n + 1,0)) (pt_ok (b2_ok rfl rfl (add_ok n 1)) rfl) rfl (by rw [List.length_map,lim_eq,hl];lia) rfl).trans ?_
   rw [List.map_append (l₁:=Es ++ F1 ++ F2)]
   rfl
theorem no_ends_eq (N : Net kvs Q V) (c : Int) : argN 4 v__law_no_ends [netD Q V r,.dct kvs,.int (many V),.int c] = .ok (.bl true):=by
 refine (argN_ok rfl).trans ?_
 have hx : 0<=c % 10 ^ 50:=Int.emod_nonneg _ (by decide)
 have c0 : cmpD (.ord .gt) (.int (lastN Q)) (.int 0) = .ok (.bl (decide (0 < lastN Q))):=rfl
 have fin : b__law_no_ends [netD Q V r,.dct kvs,.int (many V),.int c,.undef,.undef,.undef,.undef,.undef] = .ok (.rt (.bl true)):=by
  refine seq_ok (ρ':=[netD Q V r,.dct kvs,.int (many V),.int c,.int 0,.undef,.undef,.undef,.undef]) (set_ok rfl) ?_
  refine seq_ok last_ok (seq_ok e0_ok ?_)
  have n0:=e0_no N (c % 10 ^ 50) hx
  have l0 : (E0 (many V) (lastN Q) (c % 10 ^ 50)).length = 5:=rfl
  cases hd : decide (0 < lastN Q) with
  | false=>
   rw [hd] at c0
   exact seq_ok (if_f (tb_ok (b2_ok rfl rfl c0)) rfl) (nend_eq (by rw [l0];lia) (by rw [l0];lia) n0)
  | true=>
   rw [hd] at c0
   have hq : 0 < Q.length:=by
    cases Q with
    | nil=>exact absurd (of_decide_eq_true hd) (by decide)
    | cons _ _=>simp
   obtain ⟨Fs,b6,b7,f1,f2,f3,f4⟩:=more_ok (r:=r) (a2:=.int (many V)) (a4:=.int (lastN Q)) (a6:=.undef) (a7:=.undef) (a8:=.undef) (c:=c) N hq (Es:=E0 (many V) (lastN Q) (c % 10 ^ 50)) (by rw [l0];lia) n0
   exact seq_ok (if_t (tb_ok (b2_ok rfl rfl c0)) f4) (nend_eq (by lia) f2 f3)
 show (do let r <- b__law_no_ends _;endD r) = _
 rw [show ([netD Q V r,.dct kvs,.int (many V),.int c] ++ List.replicate (9 - 4) D.undef) = [netD Q V r,.dct kvs,.int (many V),.int c,.undef,.undef,.undef,.undef,.undef] from rfl,fin]
 rfl
end
end Lk01
end
section
set_option maxRecDepth 100000
namespace Lk01
open PySem L2 Mi
theorem many_cons (t : Tie) (V : List Tie) : many (t :: V) = ([t.1,t.2].filter fun e=>e.1 == 0).length + many V:=by
 unfold many
 rw [ends_cons,show t.1 :: t.2 :: ends V = [t.1,t.2] ++ ends V from rfl,List.filter_append,List.length_append]
noncomputable def eb : FS:=sSeq (sApp 1 (bVar 2)) (sApp 1 (bVar 3))
theorem ends_loop {a : D} : ∀ (V : List Tie) (A : List Pt) (x y : D),A.length + 2 * V.length<=10000->∃ x' y',forS (tgN [2,3]) eb (V.map tieD) [a,.lst (A.map enP),x,y] = .ok (.nx [a,.lst ((A ++ ends V).map enP),x',y'])
 | [],A,x,y,_=>⟨x,y,by rw [show ends [] = [] from rfl,List.append_nil];rfl⟩
 | t :: V,A,x,y,h=>by
  rw [List.length_cons] at h
  obtain ⟨x',y',ih⟩:=ends_loop (a:=a) V (A ++ [t.1] ++ [t.2]) (enP t.1) (enP t.2) (by simp;lia)
  refine ⟨x',y',fors_cons (ρ1:=[a,.lst (A.map enP),enP t.1,enP t.2]) (ρ2:=[a,.lst ((A ++ [t.1] ++ [t.2]).map enP),enP t.1,enP t.2]) rfl ?_ ?_⟩
  ·refine seq_ok (ρ':=[a,.lst ((A ++ [t.1]).map enP),enP t.1,enP t.2]) ?_ ?_
   ·refine (app_ok (i:=1) (xs:=A.map enP) (d:=enP t.1) rfl rfl (by rw [List.length_map,lim_eq];lia) rfl).trans ?_
    rw [List.map_append]
    rfl
   ·refine (app_ok (i:=1) (xs:=(A ++ [t.1]).map enP) (d:=enP t.2) rfl rfl (by rw [List.length_map,List.length_append,lim_eq];simp;lia) rfl).trans ?_
    rw [List.map_append (l₁:=A ++ [t.1])]
    rfl
  ·rw [ih,ends_cons]
   simp
section
variable {kvs : List (D × D)} {Q : List Pc} {V : List Tie} {r : Int}
theorem ends_of_eq (h : V.length<=1000) : argN 1 v_ends_of [.tup (V.map tieD)] = .ok (.lst ((ends V).map enP)):=by
 refine (argN_ok rfl).trans ?_
 obtain ⟨x',y',e⟩:=ends_loop (a:=.tup (V.map tieD)) V [] .undef .undef (by simp;lia)
 show (do let r <- b_ends_of [.tup (V.map tieD),.undef,.undef,.undef];endD r) = _
 have fin : b_ends_of [.tup (V.map tieD),.undef,.undef,.undef] = .ok (.rt (.lst ((ends V).map enP))):=by
  refine seq_ok (ρ':=[.tup (V.map tieD),.lst [],.undef,.undef]) (setV_ok rfl rfl) ?_
  exact seq_ok (forV_ok (d:=.tup (V.map tieD)) (xs:=V.map tieD) rfl rfl e) rfl
 rw [fin]
 rfl
theorem len_ends (V : List Tie) : (ends V).length = 2 * V.length:=by
 induction V with
 | nil=>rfl
 | cons t V ih=>rw [ends_cons];simp only [List.length_cons,ih];lia
theorem among_eq (h : V.length<=1000) : argN 1 v_rim_among [.lst ((ends V).map enP)] = .ok (.int (many V)):=by
 refine (argN_ok rfl).trans ?_
 have cf : bComp 1 (bItems (bVar 0) false) oneT (bTB (b2 (cmpD .eq) (b2 getD (bVar 1) (bC (.int 0))) (bC (.int 0)))) (bVar 1) false [.lst ((ends V).map enP)] = .ok (.lst (((ends V).filter fun e=>e.1 == 0).map enP)):=by
  refine comp_ok (items_ok (d:=.lst ((ends V).map enP)) (xs:=(ends V).map enP) rfl rfl) (by rw [List.length_map,len_ends,lim_eq];lia) ?_
  rw [cfold_map _ enP (fun e=>e.1 == 0) enP]
  ·rfl
  ·intro acc p
   exact cstep_one (ρ:=[.lst ((ends V).map enP)]) (x:=enP p) (b:=p.1 == 0) rfl (tb_ok (b2_ok (b2_ok (x:=enP p) rfl rfl rfl) rfl rfl)) fun _=>⟨rfl,rfl⟩
 show (do let r <- b_rim_among [.lst ((ends V).map enP)];endD r) = _
 have fin : b_rim_among [.lst ((ends V).map enP)] = .ok (.rt (.int (many V))):=ret_ok (d:=.int (many V)) (call_ok (xs:=[.lst (((ends V).filter fun e=>e.1 == 0).map enP)]) (cons_ok cf rfl) (lenE _)) rfl
 rw [fin]
 rfl
theorem rim_eq (h : V.length<=1000) : argN 1 v_rim [netD Q V r] = .ok (.int (many V)):=by
 refine (argN_ok rfl).trans ?_
 show (do let r <- b_rim [netD Q V r];endD r) = _
 have fin : b_rim [netD Q V r] = .ok (.rt (.int (many V))):=ret_ok (d:=.int (many V)) (call_ok (xs:=[.lst ((ends V).map enP)]) (cons_ok (call_ok (xs:=[.tup (V.map tieD)]) (cons_ok (b2_ok rfl rfl rfl) rfl) (ends_of_eq h)) rfl) (among_eq h)) rfl
 rw [fin]
 rfl
theorem greatest_eq : argN 1 v_greatest [netD Q V r] = .ok (.int (lastN Q)):=by
 refine (argN_ok rfl).trans ?_
 show (do let r <- b_greatest [netD Q V r];endD r) = _
 have fin : b_greatest [netD Q V r] = .ok (.rt (.int (lastN Q))):=by
  rcases List.eq_nil_or_concat Q with e | ⟨Q',q,e⟩
  ·subst e
   exact seq_rt (if_t rfl (ret_ok (d:=.int 0) rfl rfl))
  ·rw [List.concat_eq_append] at e
   subst e
   rw [lastN_snoc]
   have t1 : bTr (b2 getD (bVar 0) (bC (.int 0))) [netD (Q' ++ [q]) V r] = .ok true:=by
    unfold bTr
    rw [pcs_ok,Res.ok_bind]
    show Res.ok (!((Q' ++ [q]).map pcD).isEmpty) = _
    simp
   exact seq_ok (ρ':=[netD (Q' ++ [q]) V r]) (if_f (nt_ok t1) rfl) (ret_ok (d:=.int q.1) (b2_ok (b2_ok pcs_ok rfl (last_get Q' q)) rfl rfl) rfl)
 rw [fin]
 rfl
theorem best_fold : ∀ (xs : List Int) (x : Int),∃ M : Int,(xs.map D.int).foldl (fun m y=>if (ordD .gt y m).getD false then y else m) (.int x) = .int M/\(M = x\/M ∈ xs)/\x<=M/\∀ y ∈ xs,y<=M
 | [],x=>⟨x,rfl,.inl rfl,Int.le_refl _,fun _ h=>nomatch h⟩
 | y :: xs,x=>by
  have e : ordD .gt (.int y) (.int x) = some (decide (x < y)):=rfl
  rw [List.map_cons,List.foldl_cons,e]
  by_cases h : x < y
  ·rw [decide_eq_true h]
   obtain ⟨M,h1,h2,h3,h4⟩:=best_fold xs y
   refine ⟨M,h1,.inr ?_,by lia,fun z hz=>?_⟩
   ·rcases h2 with h2 | h2
    ·rw [h2];exact List.mem_cons_self ..
    ·exact List.mem_cons_of_mem _ h2
   ·rcases List.mem_cons.mp hz with hz | hz
    ·rw [hz];exact h3
    ·exact h4 z hz
  ·rw [decide_eq_false h]
   obtain ⟨M,h1,h2,h3,h4⟩:=best_fold xs x
   refine ⟨M,h1,?_,h3,fun z hz=>?_⟩
   ·rcases h2 with h2 | h2
    ·exact .inl h2
    ·exact .inr (List.mem_cons_of_mem _ h2)
   ·rcases List.mem_cons.mp hz with hz | hz
    ·lia
    ·exact h4 z hz
theorem max_ints (l : List Int) (hl : l ≠ []) : ∃ M ∈ l,(∀ y ∈ l,y<=M)/\minmax .gt [.lst (l.map D.int)] = .ok (.int M):=by
 cases l with
 | nil=>exact absurd rfl hl
 | cons x xs=>
  obtain ⟨M,h1,h2,h3,h4⟩:=best_fold xs x
  refine ⟨M,?_,fun y hy=>?_,?_⟩
  ·rcases h2 with h2 | h2
   ·rw [h2];exact List.mem_cons_self ..
   ·exact List.mem_cons_of_mem _ h2
  ·rcases List.mem_cons.mp hy with hy | hy
   ·lia
   ·exact h4 y hy
  ·show (if ((D.int x :: xs.map D.int).all fun a=>a.eqok eqdepth && (D.int x :: xs.map D.int).all fun b=>(ordD .gt a b).isSome) then Res.ok ((xs.map D.int).foldl (fun m y=>if (ordD .gt y m).getD false then y else m) (.int x)) else .bad) = _
   rw [if_pos,h1]
   have all : ∀ d ∈ (D.int x :: xs.map D.int),∃ i : Int,d = .int i:=fun d hd=>by
    rcases List.mem_cons.mp hd with hd | hd
    ·exact ⟨x,hd⟩
    ·obtain ⟨i,_,rfl⟩:=List.mem_map.mp hd
     exact ⟨i,rfl⟩
   refine List.all_eq_true.mpr fun d hd=>?_
   obtain ⟨i,rfl⟩:=all d hd
   rw [Bool.and_eq_true]
   refine ⟨rfl,List.all_eq_true.mpr fun e he=>?_⟩
   obtain ⟨j,rfl⟩:=all e he
   rfl
theorem max_eq (N : Net kvs Q V) : minmax .gt [.lst (((Q.map fun q=>q.1) ++ [(0 : Int)]).map D.int)] = .ok (.int (lastN Q)):=by
 obtain ⟨M,h1,h2,h3⟩:=max_ints ((Q.map fun q=>q.1) ++ [(0 : Int)]) (by simp)
 rw [h3]
 have hl:=last_nn N
 have : M = lastN Q:=by
  have up : M<=lastN Q:=by
   rcases List.mem_append.mp h1 with h | h
   ·exact num_le N.qs M h
   ·have : M = 0:=by simpa using h
    lia
  have lo : lastN Q<=M:=by
   rcases List.eq_nil_or_concat Q with e | ⟨Q',q,e⟩
   ·subst e
    exact h2 0 (by simp)
   ·rw [List.concat_eq_append] at e
    subst e
    rw [lastN_snoc]
    exact h2 q.1 (by simp)
  lia
 rw [this]
noncomputable def mb : FS:=sSet false 3 (b2 (binD .add) (bVar 3) (bCall lenD (bCons (bComp 8 (bItems (bVar 4) false) oneT (bTB (b2 (cmpD .eq) (b2 getD (bVar 8) (bC (.int 0))) (bC (.int 0)))) (bVar 8) false) (bNil)))) true
theorem many_loop {a0 a1 a2 a5 a6 a7 : D} : ∀ (V : List Tie) (m : Int) (x : D),∃ x',forS (tg1 4) mb (V.map tieD) [a0,a1,a2,.int m,x,a5,a6,a7] = .ok (.nx [a0,a1,a2,.int (m + many V),x',a5,a6,a7])
 | [],m,x=>⟨x,by rw [show many [] = 0 from rfl];simp [forS]⟩
 | t :: V,m,x=>by
  obtain ⟨x',ih⟩:=many_loop (a0:=a0) (a1:=a1) (a2:=a2) (a5:=a5) (a6:=a6) (a7:=a7) V (m + ([t.1,t.2].filter fun e=>e.1 == 0).length) (tieD t)
  refine ⟨x',fors_cons (ρ1:=[a0,a1,a2,.int m,tieD t,a5,a6,a7]) rfl ?_ (ih.trans ?_)⟩
  ·have cf : bComp 8 (bItems (bVar 4) false) oneT (bTB (b2 (cmpD .eq) (b2 getD (bVar 8) (bC (.int 0))) (bC (.int 0)))) (bVar 8) false [a0,a1,a2,.int m,tieD t,a5,a6,a7] = .ok (.lst (([t.1,t.2].filter fun e=>e.1 == 0).map enP)):=by
    refine comp_ok (items_ok (d:=tieD t) (xs:=[t.1,t.2].map enP) rfl rfl) (by rw [lim_eq];simp) ?_
    rw [cfold_map _ enP (fun e=>e.1 == 0) enP]
    ·rfl
    ·intro acc p
     exact cstep_one (ρ:=[a0,a1,a2,.int m,tieD t,a5,a6,a7]) (x:=enP p) (b:=p.1 == 0) rfl (tb_ok (b2_ok (b2_ok (x:=enP p) rfl rfl rfl) rfl rfl)) fun _=>⟨rfl,rfl⟩
   exact set_ok (i:=3) (b2_ok (x:=.int m) rfl (call_ok (xs:=[.lst (([t.1,t.2].filter fun e : Pt=>e.1 == 0).map enP)]) (cons_ok cf rfl) (lenE ([t.1,t.2].filter fun e : Pt=>e.1 == 0))) (add_ok m _))
  ·rw [many_cons,Int.natCast_add,<- Int.add_assoc]
noncomputable def tb : FS:=sIf (bOr (bNot (bTr (bCall (argN 2 v__law_is_end) (bCons (bCall (argN 2 v_mate) (bCons (bVar 2) (bCons (bVar 5) (bNil)))) (bCons (bVar 6) (bNil)))))) (bNot (bTr (bCall (argN 2 v__law_is_end) (bCons (bCall (argN 2 v_mate) (bCons (bVar 2) (bCons (bVar 6) (bNil)))) (bCons (bVar 5) (bNil))))))) (sRet (bC (.bl false)) true) (sNil)
theorem ties_loop (N : Net kvs Q V) {a0 a1 a3 a4 a7 : D} : ∀ (W : List Tie) (x y : D),(∀ t ∈ W,t ∈ V)->∃ x' y',forS (tgN [5,6]) tb (W.map tieD) [a0,a1,netD Q V r,a3,a4,x,y,a7] = .ok (.nx [a0,a1,netD Q V r,a3,a4,x',y',a7])
 | [],x,y,_=>⟨x,y,rfl⟩
 | t :: W,x,y,h=>by
  obtain ⟨x',y',ih⟩:=ties_loop N W (enP t.1) (enP t.2) fun u hu=>h u (List.mem_cons_of_mem _ hu)
  have ht:=h t (List.mem_cons_self ..)
  have m1:=mate_eq (r:=r) N (e:=t.1) (f:=t.2) (.inl ht)
  have m2:=mate_eq (r:=r) N (e:=t.2) (f:=t.1) (.inr ht)
  refine ⟨x',y',fors_cons (ρ1:=[a0,a1,netD Q V r,a3,a4,enP t.1,enP t.2,a7]) rfl ?_ ih⟩
  exact if_f (or_f (nt_ok (k:=true) (tr_ok (call_ok (xs:=[enP t.2,enP t.2]) (cons_ok (call_ok (xs:=[netD Q V r,enP t.1]) (cons_ok rfl (cons_ok rfl rfl)) m1) (cons_ok rfl rfl)) (is_end_l _ _ rfl))))
   (nt_ok (k:=true) (tr_ok (call_ok (xs:=[enP t.1,enP t.1]) (cons_ok (call_ok (xs:=[netD Q V r,enP t.2]) (cons_ok rfl (cons_ok rfl rfl)) m2) (cons_ok rfl rfl)) (is_end_l _ _ rfl))))) rfl
end
end Lk01
end
section
set_option maxRecDepth 100000
namespace Lk01
open PySem L2 Mi
section
variable {kvs : List (D × D)} {Q : List Pc} {V : List Tie} {r : Int}
theorem nums8_ok {a0 a1 a3 a4 a5 a6 a7 : D} (hq : Q.length<=14) : bComp 8 (bItems (b2 getD (bVar 2) (bC (.int 0))) false) oneT (bTrue) (b2 getD (bVar 8) (bC (.int 0))) false [a0,a1,netD Q V r,a3,a4,a5,a6,a7] = .ok (.lst ((Q.map fun q=>q.1).map D.int)):=by
 refine comp_ok (items_ok (d:=.tup (Q.map pcD)) (xs:=Q.map pcD) (b2_ok rfl rfl rfl) rfl) (by rw [List.length_map,lim_eq];lia) ?_
 rw [cfold_map _ pcD (fun _=>true) (fun q=>D.int q.1)]
 ·rw [List.filter_eq_self.mpr (fun _ _=>rfl),List.nil_append,List.map_map]
  rfl
 ·intro acc q
  exact cstep_one (ρ:=[a0,a1,netD Q V r,a3,a4,a5,a6,a7]) (x:=pcD q) (b:=true) (y:=.int q.1) rfl rfl fun _=>⟨b2_ok (x:=pcD q) (y:=.int 0) rfl rfl rfl,rfl⟩
theorem ties2_ok {a0 a1 : D} {ρ : List D} : bItems (b2 getD (bVar 2) (bC (.int 1))) false (a0 :: a1 :: netD Q V r :: ρ) = .ok (V.map tieD,true):=by
 refine (items_ok (d:=.tup (V.map tieD)) (xs:=V.map tieD) (b2_ok rfl rfl rfl) rfl).trans ?_
 rw [pure_ties]
 rfl
theorem cmp_ne_self (i : Int) : cmpD .ne (.int i) (.int i) = .ok (.bl false):=by
 show Res.ok (D.bl (!(i == i))) = _
 simp
end
theorem main : ∀ ns : List Int,ns.length<=63->v_law [.scr (ns.map D.int)] = .ok (.bl true):=by
 intro ns hn
 have c0:=cell_eq ns 0
 have c1:=cell_eq ns 1
 have c2:=cell_eq ns 2
 obtain ⟨kvs,k1,k2,k3,k4⟩:=stock_eq (cellAt ns 0) (cellAt ns 1)
 have k4' : argN 2 v__law_stock [.int (cellAt ns 0),.int (cellAt ns 1)] = .ok (.dct kvs):=(argN_ok rfl).trans k4
 have hs : slcD (.scr (ns.map D.int)) (some 2) (some 66) = .ok (.lst ((cutD ns (some 2) (some 66)).map D.int)):=by
  show (if D.pures (ns.map D.int) then Res.ok (D.lst (cutD (ns.map D.int) (some 2) (some 66))) else .bad) = _
  rw [pures_ints,if_pos rfl,cut_map]
 have hcl:=cut_len ns (some 2) (some 66)
 generalize cutD ns (some 2) (some 66) = cs at hs hcl
 obtain ⟨Q,V,r,N,n2⟩:=grown_eq k1 k2 k3 cs (by lia) (cellAt ns 0)
 have n2' : argN 3 v__law_grown [.dct kvs,.lst (cs.map D.int),.int (cellAt ns 0)] = .ok (netD Q V r):=(argN_ok rfl).trans n2
 have q1:=no_ends_eq (r:=r) N (cellAt ns 1)
 have q2:=no_ends_eq (r:=r) N (cellAt ns 2)
 obtain ⟨x4,l1⟩:=many_loop (a0:=.scr (ns.map D.int)) (a1:=.dct kvs) (a2:=netD Q V r) (a5:=.undef) (a6:=.undef) (a7:=.undef) V 0 .undef
 rw [Int.zero_add] at l1
 obtain ⟨x5,x6,l2⟩:=ties_loop (r:=r) N (a0:=.scr (ns.map D.int)) (a1:=.dct kvs) (a3:=.int (many V)) (a4:=x4) (a7:=.undef) V .undef .undef fun _ h=>h
 have rm:=rim_eq (Q:=Q) (r:=r) N.small
 have gr:=greatest_eq (Q:=Q) (V:=V) (r:=r)
 have fin : b_law [.scr (ns.map D.int),.undef,.undef,.undef,.undef,.undef,.undef,.undef] = .ok (.rt (.bl true)):=by
  refine seq_ok (ρ':=[.scr (ns.map D.int),.dct kvs,.undef,.undef,.undef,.undef,.undef,.undef])
   (set_ok (i:=1) (call_ok (xs:=[.int (cellAt ns 0),.int (cellAt ns 1)]) (cons_ok (call_ok (xs:=[.scr (ns.map D.int),.int 0]) (cons_ok rfl (cons_ok rfl rfl)) c0) (cons_ok (call_ok (xs:=[.scr (ns.map D.int),.int 1]) (cons_ok rfl (cons_ok rfl rfl)) c1) rfl)) k4')) ?_
  refine seq_ok (ρ':=[.scr (ns.map D.int),.dct kvs,netD Q V r,.undef,.undef,.undef,.undef,.undef])
   (set_ok (i:=2) (call_ok (xs:=[.dct kvs,.lst (cs.map D.int),.int (cellAt ns 0)]) (cons_ok rfl (cons_ok (x:=.lst (cs.map D.int)) hs (cons_ok (call_ok (xs:=[.scr (ns.map D.int),.int 0]) (cons_ok rfl (cons_ok rfl rfl)) c0) rfl))) n2')) ?_
  refine seq_ok (ρ':=[.scr (ns.map D.int),.dct kvs,netD Q V r,.int 0,.undef,.undef,.undef,.undef]) (set_ok (i:=3) rfl) ?_
  refine seq_ok (for_ok ties2_ok l1) ?_
  refine seq_ok (ρ':=[.scr (ns.map D.int),.dct kvs,netD Q V r,.int (many V),x4,.undef,.undef,.undef]) (if_f (nt_ok (k:=true) (tr_ok (call_ok (xs:=[netD Q V r,.dct kvs,.int (many V),.int (cellAt ns 1)]) (cons_ok rfl (cons_ok rfl (cons_ok rfl (cons_ok (call_ok (xs:=[.scr (ns.map D.int),.int 1]) (cons_ok rfl (cons_ok rfl rfl)) c1) rfl)))) q1))) rfl) ?_
  refine seq_ok (for_ok ties2_ok l2) ?_
  refine seq_ok (ρ':=[.scr (ns.map D.int),.dct kvs,netD Q V r,.int (many V),x4,x5,x6,.int (lastN Q)]) (setP_ok (i:=7) (call_ok (xs:=[.lst (((Q.map fun q=>q.1) ++ [(0 : Int)]).map D.int)]) (cons_ok (b2_ok (x:=.lst ((Q.map fun q=>q.1).map D.int)) (y:=.lst [.int 0]) (nums8_ok N.ql) rfl ?_) rfl) (max_eq N)) rfl) ?_
  ·rw [List.map_append]
   exact add_lst _ _ (by rw [List.length_map,List.length_map,lim_eq];have:=N.ql;simp;lia) (pures_ints _) rfl
  have w1 : ∀ ρ : List D,bCall (argN 1 v_rim) (bCons (bVar 2) (bNil)) (.scr (ns.map D.int) :: .dct kvs :: netD Q V r :: ρ) = .ok (.int (many V)):=fun ρ=>call_ok (xs:=[netD Q V r]) (cons_ok rfl rfl) rm
  have w2 : ∀ ρ : List D,bCall (argN 1 v_greatest) (bCons (bVar 2) (bNil)) (.scr (ns.map D.int) :: .dct kvs :: netD Q V r :: ρ) = .ok (.int (lastN Q)):=fun ρ=>call_ok (xs:=[netD Q V r]) (cons_ok rfl rfl) gr
  refine seq_ok (ρ':=[.scr (ns.map D.int),.dct kvs,netD Q V r,.int (many V),x4,x5,x6,.int (lastN Q)]) (if_f (or_f (nt_ok (k:=true) (tr_ok (call_ok (xs:=[.int (many V)]) (cons_ok (w1 _) rfl) (whole_l _)))) (or_f (tb_ok (b2_ok (w1 _) rfl (cmp_ne_self _))) (or_f (nt_ok (k:=true) (tr_ok (call_ok (xs:=[.int (lastN Q)]) (cons_ok (w2 _) rfl) (whole_l _)))) (tb_ok (b2_ok (w2 _) rfl (cmp_ne_self _)))))) rfl) ?_
  exact ret_ok (d:=.bl true) (call_ok (xs:=[netD Q V r,.dct kvs,.int (many V),.int (cellAt ns 2)]) (cons_ok rfl (cons_ok rfl (cons_ok rfl (cons_ok (call_ok (xs:=[.scr (ns.map D.int),.int 2]) (cons_ok rfl (cons_ok rfl rfl)) c2) rfl)))) q2) rfl
 show (do let r <- b_law _;endD r) = _
 rw [show ([D.scr (ns.map D.int)] ++ List.replicate (8 - 1) D.undef) = [.scr (ns.map D.int),.undef,.undef,.undef,.undef,.undef,.undef,.undef] from rfl,fin]
 rfl
end Lk01
end
section
def PySem.W.Fast.tw12138996225508282871 : Unit := ()
def PySem.W.Fast.tw6869559658691185779 : Unit := ()
def PySem.W.Fast.tw49952140499246135 : Unit := ()
def PySem.W.Fast.tw3118443085369659263 : Unit := ()
def PySem.W.Fast.tw4588840666514279219 : Unit := ()
def PySem.W.Fast.tw8716575070344441928 : Unit := ()
def PySem.W.Fast.tw5735231198152528099 : Unit := ()
def PySem.W.Fast.tw233966229865791730 : Unit := ()
def PySem.W.Fast.tw1591067122612888436 : Unit := ()
def PySem.W.Fast.tw4628192485166763557 : Unit := ()
def PySem.W.Fast.tw15158584267434032805 : Unit := ()
def PySem.W.Fast.tw12695055437555240615 : Unit := ()
def PySem.W.Fast.tw12244413586205426877 : Unit := ()
def PySem.W.Fast.tw5458877922688883780 : Unit := ()
def PySem.W.Fast.tw9187843777030166413 : Unit := ()
def PySem.W.Fast.tw1661864189757290817 : Unit := ()
def PySem.W.Fast.tw15832742133046002417 : Unit := ()
def PySem.W.Fast.tw13976322161564925363 : Unit := ()
def PySem.W.Fast.tw676572876154075666 : Unit := ()
def PySem.W.Fast.tw8914216597631147031 : Unit := ()
def PySem.W.Fast.tw8140882439889594466 : Unit := ()
def PySem.W.Fast.tw9365757446727070143 : Unit := ()
def PySem.W.Fast.tw2876576946541232780 : Unit := ()
def PySem.W.Fast.tw16104399910943778619 : Unit := ()
def PySem.W.Fast.tw17437173694564507682 : Unit := ()
def PySem.W.Fast.tw3532189828784402342 : Unit := ()
def PySem.W.Fast.tw5275018552201869047 : Unit := ()
def PySem.W.Fast.tw16025899706330300553 : Unit := ()
def PySem.W.Fast.tw12870707304055369884 : Unit := ()
def PySem.W.Fast.tw5419476107973090967 : Unit := ()
def PySem.W.Fast.tw17879659221266678099 : Unit := ()
def PySem.W.Fast.tw10326112503032626294 : Unit := ()
def PySem.W.Fast.tw5916642472723822584 : Unit := ()
def PySem.W.Fast.tw12897592905479529283 : Unit := ()
def PySem.W.Fast.tw18031204130416873029 : Unit := ()
def PySem.W.Fast.tw3760407249021153459 : Unit := ()
def PySem.W.Fast.tw14462874414000390369 : Unit := ()
def PySem.W.Fast.tw3026992803351599655 : Unit := ()
def PySem.W.Fast.tw4864489085734635733 : Unit := ()
def PySem.W.Fast.tw13751160200529721260 : Unit := ()
def PySem.W.Fast.tw13896036664826999963 : Unit := ()
def PySem.W.Fast.tw2898819733109048431 : Unit := ()
def PySem.W.Fast.tw645889308357345334 : Unit := ()
def PySem.W.Fast.tw2236759802461731072 : Unit := ()
def PySem.W.Fast.tw12228989631001433302 : Unit := ()
def PySem.W.Fast.tw13387683077938513573 : Unit := ()
def PySem.W.Fast.tw10602461860183855658 : Unit := ()
def PySem.W.Fast.tw7484865798751704133 : Unit := ()
open PySem PySem.W PyProof.Rows
set_option maxRecDepth 100000 in
set_option maxHeartbeats 0 in
theorem PySem.Challenge.cw_hookmill_k01_mates_holds : PySem.Challenge.rw_hookmill_k01_mates.Holds := by
 w_on;o_law;k_head;(case hw=>w_witness2)
 k_fill
 refine Lk01.walk (l:=PySem.Challenge.rw_hookmill_k01_mates) Lk01.main rfl rfl (fun w h Y=>PySem.W.kIn_of Y) ?F
 case F=>
  intro w mg fa h KX G hmg
  refine' Lk01.all_mk KX G hmg ?a0 ?l0 ?c0 ?k0 ?a1 ?l1 ?c1 ?k1 ?a2 ?l2 ?c2 ?k2 ?a3 ?l3 ?c3 ?k3 ?a4 ?l4 ?c4 ?k4 ?a5 ?l5 ?c5 ?k5 ?a6 ?l6 ?c6 ?k6 ?a7 ?l7 ?c7 ?k7 ?a8 ?l8 ?c8 ?k8 ?a9 ?l9 ?c9 ?k9 ?a10 ?l10 ?c10 ?k10 ?a11 ?l11 ?c11 ?k11 ?a12 ?l12 ?c12 ?k12 ?a13 ?l13 ?c13 ?k13 ?a14 ?l14 ?c14 ?k14 ?a15 ?l15 ?c15 ?k15 ?a16 ?l16 ?c16 ?k16 ?z_len ?z_min ?z_max ?z_list ?z_tuple ?z_sorted ?z_range ?z_isinstance ?z_int ?z_bool ?z_str ?z_dict ?z_all ?z_enumerate ?z_sum ?z_zip ?z_abs ?z_reversed ?g_MillError ?g_NoEnd ?g_BadKind ?g_BadRow ?g_Lacking ?g_NoName ?g_NoNet ?g_NoPair ?g_NoRule ?g_NoTerm ?g_NoValue ?g_Spent ?g_Stuck ?g_Twice ?g_TwoRules ?g_Uneven ?g_Unfit ?xe__law_none ?xm__law_none ?y1__law_none ?y2__law_none ?y3__law_none ?y4__law_none ?w1__law_none ?w2__law_none ?w3__law_none ?w4__law_none ?w5__law_none ?w6__law_none ?w7__law_none ?w8__law_none ?z_ValueError
  (case a0=>k_is)
  (case l0=>k_is)
  (case c0=>k_is)
  (case k0=>k_is)
  (case a1=>k_is)
  (case l1=>k_is)
  (case c1=>k_is)
  (case k1=>k_is)
  (case a2=>k_is)
  (case l2=>k_is)
  (case c2=>k_is)
  (case k2=>k_is)
  (case a3=>k_is)
  (case l3=>k_is)
  (case c3=>k_is)
  (case k3=>k_is)
  (case a4=>k_is)
  (case l4=>k_is)
  (case c4=>k_is)
  (case k4=>k_is)
  (case a5=>k_is)
  (case l5=>k_is)
  (case c5=>k_is)
  (case k5=>k_is)
  (case a6=>k_is)
  (case l6=>k_is)
  (case c6=>k_is)
  (case k6=>k_is)
  (case a7=>k_is)
  (case l7=>k_is)
  (case c7=>k_is)
  (case k7=>k_is)
  (case a8=>k_is)
  (case l8=>k_is)
  (case c8=>k_is)
  (case k8=>k_is)
  (case a9=>k_is)
  (case l9=>k_is)
  (case c9=>k_is)
  (case k9=>k_is)
  (case a10=>k_is)
  (case l10=>k_is)
  (case c10=>k_is)
  (case k10=>k_is)
  (case a11=>k_is)
  (case l11=>k_is)
  (case c11=>k_is)
  (case k11=>k_is)
  (case a12=>k_is)
  (case l12=>k_is)
  (case c12=>k_is)
  (case k12=>k_is)
  (case a13=>k_is)
  (case l13=>k_is)
  (case c13=>k_is)
  (case k13=>k_is)
  (case a14=>k_is)
  (case l14=>k_is)
  (case c14=>k_is)
  (case k14=>k_is)
  (case a15=>k_is)
  (case l15=>k_is)
  (case c15=>k_is)
  (case k15=>k_is)
  (case a16=>k_is)
  (case l16=>k_is)
  (case c16=>k_is)
  (case k16=>k_is)
  (case z_len=>k_is)
  (case z_min=>k_is)
  (case z_max=>k_is)
  (case z_list=>k_is)
  (case z_tuple=>k_is)
  (case z_sorted=>k_is)
  (case z_range=>k_is)
  (case z_isinstance=>k_is)
  (case z_int=>k_is)
  (case z_bool=>k_is)
  (case z_str=>k_is)
  (case z_dict=>k_is)
  (case z_all=>k_is)
  (case z_enumerate=>k_is)
  (case z_sum=>k_is)
  (case z_zip=>k_is)
  (case z_abs=>k_is)
  (case z_reversed=>k_is)
  (case g_MillError=>k_is)
  (case g_NoEnd=>k_is)
  (case g_BadKind=>k_is)
  (case g_BadRow=>k_is)
  (case g_Lacking=>k_is)
  (case g_NoName=>k_is)
  (case g_NoNet=>k_is)
  (case g_NoPair=>k_is)
  (case g_NoRule=>k_is)
  (case g_NoTerm=>k_is)
  (case g_NoValue=>k_is)
  (case g_Spent=>k_is)
  (case g_Stuck=>k_is)
  (case g_Twice=>k_is)
  (case g_TwoRules=>k_is)
  (case g_Uneven=>k_is)
  (case g_Unfit=>k_is)
  (case xe__law_none=>k_exc)
  (case xm__law_none=>kts_exm)
  (case y1__law_none=>kit_is)
  (case y2__law_none=>kit_is)
  (case y3__law_none=>kit_is)
  (case y4__law_none=>kit_is)
  (case w1__law_none=>k_is)
  (case w2__law_none=>k_is)
  (case w3__law_none=>k_is)
  (case w4__law_none=>k_is)
  (case w5__law_none=>k_is)
  (case w6__law_none=>k_is)
  (case w7__law_none=>k_is)
  (case w8__law_none=>k_is)
  (case z_ValueError=>k_is)
end
