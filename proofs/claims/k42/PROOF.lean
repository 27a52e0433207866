import PyProof.Rows.All
import Wide.All
import OpenK.AllK
import Wide.FinOn
import PyProof.EqAt
import PyProof.EqKinds
import PyProof.TupleCall
import Lean
import PyProof.Rows.SortRuns
import PySem.Syntax
import PyProof.NeKinds
import PyProof.WalkInts
import KE.KDictList
import PyProof.CompUse
import PyProof.StrWalks
import PyProof.EnumMake
import PyProof.EnumFor
import PyProof.StrCalls2
import PyProof.StrBlock2
import PyProof.StrBlockI
import PyProof.SliceStr2
import PyProof.ConsumeWalk
import PyProof.StrLawsJoin
import KE.KTryMore
import KE.KTryDeep
import OpenK.KOwn
import PyProof.ExcClass3
import KE.KIsAll
import PyProof.ExcArgsOwn
import PyProof.NsDelKeeps
import PyProof.ListRange
import PyProof.DictWalks
import KE.KEqDict
import PyProof.Rows.TupAdd
import PyProof.DictIter
import PyProof.AttrMissHeap
import PyProof.ZipIter
import PyProof.TupleIter
import PyProof.WalksMore
import PyProof.FactsAll.zip
import KE.KDictOf
import PyProof.Conv_int
import PyProof.Conv_int_bool
import PyProof.StrBlockL
import PyProof.MakeMany
import PyProof.MeetsStr2
import PyProof.CallRoads3
import PyProof.Rows.TupIn
import PyProof.CallType
import PyProof.EnumStmt
import PyProof.Draws
import PyProof.StrLawsTight
import PySem.Challenge.RW_hookmill_k42_rows_read
set_option Elab.async false
set_option linter.all false
set_option autoImplicit false
set_option genSizeOfSpec false
set_option genInjectivity true
section
set_option Elab.async false
set_option maxRecDepth 100000
namespace L2
open PySem PySem.Spec PyProof.Rows
noncomputable abbrev Key:=Sum Int Str
noncomputable def keyIs : Key->Value->Bool
 | .inl k,v=>Value.isInt k v
 | .inr x,v=>Value.isStrOf x v
noncomputable def keyH (w : World) : Key->Int
 | .inl k=>hashInt k
 | .inr x=>hashStr w x
theorem keyIs_shape : ∀ {k : Key} {v : Value},keyIs k v = true->(∃ i t,k = Sum.inl i/\v = Value.int i t)\/(∃ x t,k = Sum.inr x/\v = Value.str x t)
 | .inl i,v,h=>by
  obtain ⟨t,e⟩:=Value.isInt_shape (k:=i) (v:=v) h
  exact .inl ⟨i,t,rfl,e⟩
 | .inr x,v,h=>by
  obtain ⟨t,e⟩:=Value.isStrOf_shape (x:=x) (v:=v) h
  exact .inr ⟨x,t,rfl,e⟩
theorem keyIs_int (i : Int) (t : Tok) : keyIs (.inl i) (.int i t) = true:=by simp [keyIs,Value.isInt]
theorem keyIs_str (x : Str) (t : Tok) : keyIs (.inr x) (.str x t) = true:=by simp [keyIs,Value.isStrOf]
theorem key_ll (a b : Int) : decide ((Sum.inl a : Key) = Sum.inl b) = (a == b):=by
 by_cases e : a = b
 ·subst e;simp
 ·have h : ¬ (Sum.inl a : Key) = Sum.inl b:=fun q=>e (Sum.inl.inj q)
  rw [decide_eq_false h]
  exact (beq_eq_false_iff_ne.mpr e).symm
theorem key_rr (a b : Str) : decide ((Sum.inr a : Key) = Sum.inr b) = decide (a = b):=by
 by_cases e : a = b
 ·subst e;simp
 ·have h : ¬ (Sum.inr a : Key) = Sum.inr b:=fun q=>e (Sum.inr.inj q)
  rw [decide_eq_false h,decide_eq_false e]
theorem key_lr (a : Int) (b : Str) : decide ((Sum.inl a : Key) = Sum.inr b) = false:=decide_eq_false (fun q=>nomatch q)
theorem key_rl (a : Str) (b : Int) : decide ((Sum.inr a : Key) = Sum.inl b) = false:=decide_eq_false (fun q=>nomatch q)
noncomputable def mixKind (prog : Program) (w : World) : PySem.KeyKind prog w Key where
 is:=keyIs
 hash:=keyH w
 inj:=fun v a b ha hb=>by
  rcases keyIs_shape ha with ⟨i,t,rfl,rfl⟩ | ⟨x,t,rfl,rfl⟩
  ·rcases keyIs_shape hb with ⟨j,u,rfl,e⟩ | ⟨y,u,rfl,e⟩
   ·injection e with e1 _;rw [e1]
   ·exact nomatch e
  ·rcases keyIs_shape hb with ⟨j,u,rfl,e⟩ | ⟨y,u,rfl,e⟩
   ·exact nomatch e
   ·injection e with e1 _;rw [e1]
 byValue:=fun k v h=>by
  rcases keyIs_shape h with ⟨i,t,rfl,rfl⟩ | ⟨x,t,rfl,rfl⟩ <;> rfl
 pyHash:=fun hv h=>by
  rcases keyIs_shape hv with ⟨i,t,rfl,rfl⟩ | ⟨x,t,rfl,rfl⟩
  ·exact wpAny_pyHash_int h
  ·exact wpAny_pyHash_str h
 eqBool:=fun hu hv h=>by
  rcases keyIs_shape hu with ⟨i,t,rfl,rfl⟩ | ⟨x,t,rfl,rfl⟩
  ·rcases keyIs_shape hv with ⟨j,u,rfl,rfl⟩ | ⟨y,u,rfl,rfl⟩
   ·rw [key_ll] at h;exact wpAny_eqBool_int h
   ·rw [key_lr] at h;exact SeqAt.EqAt.int_str i t y u _ _ _ _ h
  ·rcases keyIs_shape hv with ⟨j,u,rfl,rfl⟩ | ⟨y,u,rfl,rfl⟩
   ·rw [key_rl] at h;exact SeqAt.EqAt.str_int x t j u _ _ _ _ h
   ·rw [key_rr] at h;exact wpAny_eqBool_str h
 «strs»:=fun k x t v h=>by
  rcases keyIs_shape h with ⟨i,u,rfl,e⟩ | ⟨y,u,rfl,e⟩
  ·exact nomatch e
  ·injection e with e1 _
   subst e1
   cases v <;> rfl
theorem mixKind_int (prog : Program) (w : World) (i : Int) (t : Tok) : (mixKind prog w).is (.inl i) (.int i t) = true:=keyIs_int i t
theorem mixKind_str (prog : Program) (w : World) (x : Str) (t : Tok) : (mixKind prog w).is (.inr x) (.str x t) = true:=keyIs_str x t
end L2
namespace L2
open PySem PySem.Spec PyProof.Rows
inductive V where
 | non | bl (b : Bool) | int (i : Int) | str (x : Str) | byt (b : Array UInt8) | flt (b : UInt64) | ref (a : Addr) | ty (n : String)
 deriving DecidableEq
noncomputable def RelV : V->Value->Prop
 | .non,u=>u = Value.none
 | .bl b,u=>u = Value.bool b
 | .int i,u=>∃ t,u = Value.int i t
 | .str x,u=>∃ t,u = Value.str x t
 | .byt b,u=>∃ t,u = Value.bytes b t
 | .flt b,u=>∃ t,u = Value.float b t
 | .ref a,u=>u = Value.ref a
 | .ty n,u=>u = Value.type n
noncomputable abbrev Vals : List V->List Value->Prop:=Paired RelV
theorem Vals.length {xs : List V} {us : List Value} (r : Vals xs us) : xs.length = us.length:=Paired.length r
theorem Vals.get : ∀ {xs : List V} {us : List Value} {i : Nat} {x : V},Vals xs us->xs[i]? = some x->∃ u,us[i]? = some u/\RelV x u
 | _,_,_,_,.nil,e=>by simp at e
 | _,_,0,_,.cons r _,e=>by simp at e;subst e;exact ⟨_,rfl,r⟩
 | _,_,i + 1,x,.cons _ t,e=>by
  obtain ⟨u,h1,h2⟩:=Vals.get (i:=i) (x:=x) t (by simpa using e)
  exact ⟨u,by simpa using h1,h2⟩
theorem Vals.append : ∀ {xs ys : List V} {us ws : List Value},Vals xs us->Vals ys ws->Vals (xs ++ ys) (us ++ ws)
 | _,_,_,_,.nil,s=>s
 | _,_,_,_,.cons r t,s=>.cons r (Vals.append t s)
theorem Vals.take : ∀ {xs : List V} {us : List Value} (n : Nat),Vals xs us->Vals (xs.take n) (us.take n)
 | _,_,0,_=>.nil
 | _,_,_ + 1,.nil=>.nil
 | _,_,n + 1,.cons r t=>.cons r (Vals.take n t)
theorem Vals.drop : ∀ {xs : List V} {us : List Value} (n : Nat),Vals xs us->Vals (xs.drop n) (us.drop n)
 | _,_,0,r=>r
 | _,_,_ + 1,.nil=>.nil
 | _,_,n + 1,.cons _ t=>Vals.drop n t
noncomputable def RelO : Option V->Option Value->Prop
 | some v,some u=>RelV v u
 | none,none=>True
 | _,_=>False
noncomputable def KV {κ : Type} : List (κ × V)->List (κ × Value)->Prop:=Paired fun (p : κ × V) (q : κ × Value)=>p.1 = q.1/\RelV p.2 q.2
noncomputable def kV : Key->V
 | .inl i=>.int i
 | .inr x=>.str x
inductive HO where
 | lst (xs : List V)
 | tup (xs : List V)
 | dK (kvs : List (Key × V)) | dT (kvs : List (List Key × V))
 | set (S : Int->Bool) (n : Nat)
 | ins (C dx : Addr) (fs : List (Str × V))
 | own (x : Addr)
 | xd (fs : List (Str × V))
 | met (f x : Addr)
 | rng (lo hi : Int)
 | frz (o : Obj) (u : HO)
 | tbl (ps : Array Value)
 | ext (φ : Heap->Prop)
noncomputable abbrev Hp:=Addr->Option HO
noncomputable def upd (H : Hp) (a : Addr) (o : HO) : Hp:=fun b=>if b = a then some o else H b
theorem upd_same {H : Hp} {a : Addr} {o : HO} : upd H a o a = some o:=by unfold upd;rw [if_pos rfl]
theorem upd_ne {H : Hp} {a b : Addr} {o : HO} (h : b ≠ a) : upd H a o b = H b:=by unfold upd;rw [if_neg h]
theorem upd_upd {H : Hp} {a : Addr} {o u : HO} : upd (upd H a o) a u = upd H a u:=by
 funext b;unfold upd;split <;> rfl
theorem ne_of {H : Hp} {a b : Addr} {o u : HO} (h : H a = some o) (h' : H b = some u) (d : o ≠ u) : a ≠ b:=by
 intro e;subst e;rw [h] at h';exact d (Option.some.inj h')
theorem ne_of_none {H : Hp} {a b : Addr} {o : HO} (h : H a = some o) (h' : H b = none) : a ≠ b:=by
 intro e;subst e;rw [h] at h';cases h'
noncomputable def IsTupN (h : Heap) (a : Addr) (its : Array Value) : Prop:=∃ o,h.get? a = some o/\o.cls = .type "tuple"/\∃ n,(o.data,o.dict) = (Data.seq its n,none)
theorem IsTupN.tup {h : Heap} {a : Addr} {its : Array Value} (t : IsTupN h a its) : IsTup h a its:=let ⟨o,e,c,n,d⟩:=t;⟨o,e,c,n,congrArg (·.1) d⟩
theorem IsTupN.bare {h : Heap} {a : Addr} {its : Array Value} (t : IsTupN h a its) : ∃ o,h.get? a = some o/\o.dict = none:=let ⟨o,e,_,_,d⟩:=t;⟨o,e,congrArg (·.2) d⟩
theorem IsTupN.new (h : Heap) (items : Array Value) : IsTupN (h.push { cls:=.type "tuple",data:=.seq items }) h.objs.size items:=⟨_,Heap.get?_push_size _ rfl,rfl,_,rfl⟩
section
variable (P : Program) (w : World)
noncomputable def ObjOk (H : Hp) (h : Heap) (a : Addr) : HO->Prop
 | .lst xs=>xs.length<=sizeLine/\∃ (its : List Value) (n : Nat),Vals xs its/\h.get? a = some { cls:=.type "list",data:=.seq its.toArray n }
 | .tup xs=>xs.length<=sizeLine/\∃ its : List Value,Vals xs its/\IsTupN h a its.toArray
 | .dK kvs=>kvs.length<=sizeLine/\(a == sysModules) = false/\∃ vs,KV kvs vs/\h.DictOf (mixKind P w) a vs
 | .dT kvs=>kvs.length<=sizeLine/\(a == sysModules) = false/\∃ xs : List (List Key × Addr × Value),
   Paired (fun (p : List Key × V) (q : List Key × Addr × Value)=>p.1 = q.1/\H q.2.1 = some (.tup (p.1.map kV))/\RelV p.2 q.2.2) kvs xs/\
   ∃ o es ep,h.get? a = some o/\o.ExactDict/\o.data = .dict es ep/\es.toList = xs.map (entryOfKey (tupleKind (mixKind P w)))/\(xs.map (·.1)).Nodup
 | .set S n=>h.SetOf (intKind P w) a S n
 | .ins C dx fs=>H dx = some (.own a)/\fs.length<=1000/\dx ≠ a/\h.get? a = some (PySem.W.instObj C dx)/\
   ∃ mA,h.Ns1 dx mA/\(∀ f,RelO (fs.lookup f) (mA f))/\PySem.Within mA (fs.map (·.1))
 | .own _=>∃ o,h.get? a = some o
 | .xd fs=>∃ mA,h.Ns1 a mA/\∀ f,RelO (fs.lookup f) (mA f)
 | .rng lo hi=>∃ t u v,h.get? a = some { cls:=.type "range",data:=.fields #[.int lo t,.int hi u,.int 1 v] }
 | .frz o u=>h.get? a = some o/\ObjOk H h a u
 | .tbl ps=>h.get? a = some { cls:=.none,data:=.fields ps }
 | .met f x=>h.get? a = some (PySem.W.methodObj (.ref f) (.ref x))
 | .ext φ=>φ h/\(∃ o,h.get? a = some o)/\∀ h1 h2 : Heap,φ h1->(∀ o,h1.get? a = some o->h2.get? a = some o)->φ h2
noncomputable def HOk (H : Hp) (h : Heap) : Prop:=∀ a o,H a = some o->ObjOk P w H h a o
end
section
variable {P : Program} {w : World} {H H' : Hp} {h h' : Heap} {a : Addr} {o : HO}
theorem ObjOk.lt (x : ObjOk P w H h a o) : a < h.objs.size:=by
 cases o with
 | lst xs=>obtain ⟨_,_,_,_,e⟩:=x;exact Heap.lt_size e
 | tup xs=>obtain ⟨_,_,_,p⟩:=x;exact p.tup.lt
 | dK kvs=>obtain ⟨_,_,_,_,o,_,_,e,_⟩:=x;exact Heap.lt_size e
 | dT kvs=>obtain ⟨_,_,_,_,o,_,_,e,_⟩:=x;exact Heap.lt_size e
 | set S n=>obtain ⟨o,_,_,_,e,_⟩:=x;exact Heap.lt_size e
 | ins C dx fs=>obtain ⟨_,_,_,e,_⟩:=x;exact Heap.lt_size e
 | own y=>obtain ⟨_,e⟩:=x;exact Heap.lt_size e
 | xd fs=>obtain ⟨_,⟨_,_,_,e,_⟩,_⟩:=x;exact Heap.lt_size e
 | rng lo hi=>obtain ⟨_,_,_,e⟩:=x;exact Heap.lt_size e
 | frz ob u=>obtain ⟨e,_⟩:=x;exact Heap.lt_size e
 | tbl ps=>exact Heap.lt_size (show h.get? a = some _ from x)
 | met f y=>exact Heap.lt_size (show h.get? a = some _ from x)
 | ext φ=>obtain ⟨_,⟨_,e⟩,_⟩:=x;exact Heap.lt_size e
theorem Paired.mapP {α β : Type} {F G : α->β->Prop} : ∀ {l₁ : List α} {l₂ : List β},Paired F l₁ l₂->(∀ a b,F a b->G a b)->Paired G l₁ l₂
 | _,_,.nil,_=>.nil
 | _,_,.cons r t,f=>.cons (f _ _ r) (Paired.mapP t f)
theorem ObjOk.stay (x : ObjOk P w H h a o) (k : ∀ b u,(b = a\/H b = some (.own a))->h.get? b = some u->h'.get? b = some u)
  (ho : ∀ b,H b = some (.own a)->H' b = some (.own a)) (ht : ∀ b xs,H b = some (.tup xs)->H' b = some (.tup xs)) : ObjOk P w H' h' a o:=by
 induction o with
 | lst xs=>obtain ⟨z,its,n,r,e⟩:=x;exact ⟨z,its,n,r,k _ _ (.inl rfl) e⟩
 | tup xs=>obtain ⟨z,its,r,ob,e,c⟩:=x;exact ⟨z,its,r,ob,k _ _ (.inl rfl) e,c⟩
 | dK kvs=>obtain ⟨z,y,vs,r,ob,es,ep,e,c⟩:=x;exact ⟨z,y,vs,r,ob,es,ep,k _ _ (.inl rfl) e,c⟩
 | dT kvs=>
  obtain ⟨z,y,xs,r,ob,es,ep,e,c⟩:=x
  exact ⟨z,y,xs,Paired.mapP r fun p q z=>⟨z.1,ht _ _ z.2.1,z.2.2⟩,ob,es,ep,k _ _ (.inl rfl) e,c⟩
 | set S n=>obtain ⟨ob,es,ep,t,e,c⟩:=x;exact ⟨ob,es,ep,t,k _ _ (.inl rfl) e,c⟩
 | ins C dx fs=>
  obtain ⟨d,z,ne,e,mA,⟨od,es,ep,e2,c⟩,r⟩:=x
  exact ⟨ho _ d,z,ne,k _ _ (.inl rfl) e,mA,⟨od,es,ep,k _ _ (.inr d) e2,c⟩,r⟩
 | own y=>obtain ⟨ob,e⟩:=x;exact ⟨ob,k _ _ (.inl rfl) e⟩
 | xd fs=>obtain ⟨mA,⟨od,es,ep,e,c⟩,r⟩:=x;exact ⟨mA,⟨od,es,ep,k _ _ (.inl rfl) e,c⟩,r⟩
 | rng lo hi=>obtain ⟨t,u,v,e⟩:=x;exact ⟨t,u,v,k _ _ (.inl rfl) e⟩
 | frz ob u ih=>obtain ⟨e,q⟩:=x;exact ⟨k _ _ (.inl rfl) e,ih q⟩
 | tbl ps=>
  have e : h.get? a = some { cls:=.none,data:=.fields ps }:=x
  show h'.get? a = some { cls:=.none,data:=.fields ps }
  exact k a _ (.inl rfl) e
 | met f y=>
  have e : h.get? a = some (PySem.W.methodObj (.ref f) (.ref y)):=x
  show h'.get? a = some (PySem.W.methodObj (.ref f) (.ref y))
  exact k a _ (.inl rfl) e
 | ext φ=>obtain ⟨p,⟨o,e⟩,st⟩:=x;exact ⟨st _ _ p fun o q=>k _ _ (.inl rfl) q,⟨o,k _ _ (.inl rfl) e⟩,st⟩
theorem HOk.lt (x : HOk P w H h) (e : H a = some o) : a < h.objs.size:=(x a o e).lt
theorem HOk.fresh (x : HOk P w H h) (e : h.objs.size<=a) : H a = none:=by
 cases q : H a with
 | none=>rfl
 | some u=>exact absurd (Nat.lt_of_lt_of_le (x.lt q) e) (Nat.lt_irrefl _)
theorem HOk.kept (x : HOk P w H h) (k : ∀ b u,h.get? b = some u->h'.get? b = some u) : HOk P w H h':=fun a o e=>
 (x a o e).stay (fun b u _ q=>k b u q) (fun _ q=>q) fun _ _ q=>q
theorem HOk.laid (x : HOk P w H h) (k : ∀ b u,h.get? b = some u->h'.get? b = some u) (hp : h.objs.size<=a) (new : ObjOk P w (upd H a o) h' a o) : HOk P w (upd H a o) h':=fun b u e=>by
 have hn:=x.fresh hp
 by_cases hb : b = a
 ·subst hb;rw [upd_same] at e;cases e;exact new
 ·rw [upd_ne hb] at e
  exact (x b u e).stay (fun c v _ q=>k c v q) (fun c q=>by rw [upd_ne (ne_of_none q hn)];exact q) fun c xs q=>by rw [upd_ne (ne_of_none q hn)];exact q
end
noncomputable def Rd (H : Hp) (a : Addr) (u : HO) : Prop:=H a = some u\/∃ o,H a = some (.frz o u)
theorem Rd.ok {P : Program} {w : World} {H : Hp} {h : Heap} {a : Addr} {u : HO} (r : Rd H a u) (x : HOk P w H h) : ObjOk P w H h a u:=by
 rcases r with r | ⟨o,r⟩
 ·exact x a u r
 ·obtain ⟨_,q⟩:=x a _ r
  exact q
noncomputable def Mut : Option HO->Prop
 | some (.lst _)=>True
 | some (.dK _)=>True
 | some (.dT _)=>True
 | some (.set _ _)=>True
 | some (.ins _ _ _)=>True
 | some (.ext _)=>True
 | _=>False
section
variable {P : Program} {w : World} {H : Hp} {h h' : Heap} {x e : Addr} {o' : HO}
theorem HOk.write (ok : HOk P w H h) (mu : Mut (H x)) (he : e = x\/H e = some (.own x)) (k : ∀ b u,b ≠ e->h.get? b = some u->h'.get? b = some u) (heo : ∃ u,h'.get? e = some u)
  (new : ObjOk P w (upd H x o') h' x o') : HOk P w (upd H x o') h':=fun b u q=>by
 have nown : ∀ c y,H c = some (.own y)->c ≠ x:=fun c y r z=>by subst z;rw [r] at mu;exact mu
 have ntup : ∀ c xs,H c = some (.tup xs)->c ≠ x:=fun c xs r z=>by subst z;rw [r] at mu;exact mu
 by_cases hb : b = x
 ·subst hb;rw [upd_same] at q;cases q;exact new
 ·rw [upd_ne hb] at q
  by_cases hbe : b = e
  ·have q' : H b = some (.own x):=by
    rcases he with z | z
    ·exact absurd (hbe.trans z) hb
    ·rw [hbe];exact z
   rw [q] at q';cases q'
   obtain ⟨v,hv⟩:=heo
   exact ⟨v,by rw [hbe];exact hv⟩
  ·refine (ok b u q).stay (fun c v hc r=>k c v ?_ r) (fun c r=>by rw [upd_ne (nown c b r)];exact r) fun c xs r=>by rw [upd_ne (ntup c xs r)];exact r
   rcases hc with rfl | hc
   ·exact hbe
   ·rintro rfl
    rcases he with z | z
    ·exact nown c b hc z
    ·rw [hc] at z;cases z;exact hb rfl
end
structure Un (fs ex : List Addr) (H H' : Hp) (h h' : Heap) : Prop where
 keep : ∀ b o,h.get? b = some o->H b = none->b ∉ fs->b ∉ ex->h'.get? b = some o
 slot : ∀ b o,h.get? b = some o->H b = none->b ∈ fs->b ∉ ex->∃ sl,h'.get? b = some { o with slots:=sl }
 free : ∀ b o,h.get? b = some o->H b = none->b ∉ ex->H' b = none
 there : ∀ b o,h.get? b = some o->b ∉ ex->∃ o',h'.get? b = some o'
 tups : ∀ b xs,H b = some (.tup xs)->H' b = some (.tup xs)
 frzs : ∀ b o u,H b = some (.frz o u)->H' b = some (.frz o u)
 tbls : ∀ b ps,H b = some (.tbl ps)->∃ more,H' b = some (.tbl (ps ++ more))
section
variable {fs fs' ex ex' : List Addr} {H H1 H2 : Hp} {h h1 h2 h' : Heap} {a x e : Addr} {o : HO}
theorem Un.any (u : Un fs ex H H1 h h1) {b : Addr} {ob : Obj} (q : h.get? b = some ob) (n : H b = none) (hx : b ∉ ex) : ∃ sl,h1.get? b = some { ob with slots:=sl }:=by
 by_cases hb : b ∈ fs
 ·exact u.slot b ob q n hb hx
 ·exact ⟨ob.slots,u.keep b ob q n hb hx⟩
theorem Un.kept (k : ∀ b u,h.get? b = some u->h'.get? b = some u) : Un fs ex H H h h':=
 ⟨fun b ob q _ _ _=>k b ob q,fun b ob q _ _ _=>⟨ob.slots,k b ob q⟩,fun _ _ _ n _=>n,fun b ob q _=>⟨ob,k b ob q⟩,fun _ _ q=>q,fun _ _ _ q=>q,fun _ ps q=>⟨#[],by rw [q];simp⟩⟩
theorem Un.refl : Un fs ex H H h h:=Un.kept fun _ _ q=>q
theorem Un.laid (k : ∀ b u,h.get? b = some u->h'.get? b = some u) (hp : h.objs.size<=a) (hn : H a = none) : Un fs ex H (upd H a o) h h' where
 keep:=fun b u q _ _ _=>k b u q
 slot:=fun b u q _ _ _=>⟨u.slots,k b u q⟩
 free:=fun b u q n _=>by rw [upd_ne (Nat.ne_of_lt (Nat.lt_of_lt_of_le (Heap.lt_size q) hp))];exact n
 there:=fun b u q _=>⟨u,k b u q⟩
 tups:=fun b xs q=>by rw [upd_ne (ne_of_none q hn)];exact q
 frzs:=fun b u xs q=>by rw [upd_ne (ne_of_none q hn)];exact q
 tbls:=fun b ps q=>⟨#[],by rw [upd_ne (ne_of_none q hn),q];simp⟩
theorem Un.write (mu : Mut (H x)) (he : e = x\/H e = some (.own x)) (k : ∀ b u,b ≠ e->h.get? b = some u->h'.get? b = some u) (heo : ∃ u,h'.get? e = some u) : Un fs ex H (upd H x o) h h':=by
 have hx : ∀ b,H b = none->b ≠ x:=fun b n z=>by subst z;rw [n] at mu;exact mu
 have hb : ∀ b,H b = none->b ≠ e:=fun b n z=>by
  subst z
  rcases he with r | r
  ·exact hx b n r
  ·rw [n] at r;cases r
 have hm : ∀ b u,H b = some u->¬ Mut (some u)->b ≠ x:=fun b u q nm z=>by subst z;rw [q] at mu;exact nm mu
 refine ⟨fun b u q n _ _=>k b u (hb b n) q,fun b u q n _ _=>⟨u.slots,k b u (hb b n) q⟩,fun b u q n _=>by rw [upd_ne (hx b n)];exact n,fun b u q _=>?_,
  fun b xs q=>by rw [upd_ne (hm b _ q fun z=>z)];exact q,fun b u xs q=>by rw [upd_ne (hm b _ q fun z=>z)];exact q,fun b ps q=>⟨#[],by rw [upd_ne (hm b _ q fun z=>z),q];simp⟩⟩
 by_cases hbe : b = e
 ·subst hbe;exact heo
 ·exact ⟨u,k b u hbe q⟩
end
noncomputable def trk (h : Heap) (H : Hp) : List Addr:=(List.range h.objs.size).filter fun a=>(H a).isSome
noncomputable def hidT (h : Heap) (H : Hp) : Heap:=PySem.W.hideAll h (trk h H)
theorem hidT_size (h : Heap) (H : Hp) : (hidT h H).objs.size = h.objs.size:=PySem.W.hideAll_size _ _
theorem hidT_get {h : Heap} {H : Hp} {b : Addr} {o : Obj} (e : h.get? b = some o) (n : H b = none) : (hidT h H).get? b = some o:=
 PySem.W.hideAll_get _ e fun hm=>by
  have q : (H b).isSome = true:=(List.mem_filter.mp hm).2
  rw [n] at q;simp at q
theorem of_hidT {h : Heap} {H : Hp} {b : Addr} {o : Obj} (e : (hidT h H).get? b = some o) : h.get? b = some o/\H b = none:=by
 have e' : h.get? b = some o:=PySem.W.of_hideAll (trk h H) e
 refine ⟨e',?_⟩
 cases q : H b with
 | none=>rfl
 | some x=>
  have hm : b ∈ trk h H:=List.mem_filter.mpr ⟨List.mem_range.mpr (Heap.lt_size e'),by simp [q]⟩
  have z : (hidT h H).get? b = none:=PySem.W.hideAll_none (trk h H) hm
  rw [z] at e;cases e
end L2
namespace L2
open PySem PySem.Spec PyProof.Rows
structure Mod (K : PySem.W.Frag) (mg : Str->Option Value) (base : Heap) : Prop where
 kin : K.In base
 glob : base.Ns mainGlobals mg
 blt : ∃ mb,base.Ns builtinsNs mb/\∀ x : Str,x ≠ "__name__"->mb x = bootBuiltins x
 nolimit : base.NoLimit
/-- the context: a def's body (or a comprehension's block) running. base: fixed through the whole law; s₀, H₀: the entry; outer: the frames whose slots others may change (a def's callers); stack: all frames that run;
   ex: iterators that were made ahead of the entry and are walked here (a comprehension's); fn: the names whose cells were made at the entry (a def: all; a comprehension's block: its own); calm: not within an except suite; pn: pins that every state bears; xe: what is wanted of an exception that leaves the code -/
structure Cx where
 prog : Program
 w : World
 K : PySem.W.Frag
 mg : Str->Option Value
 base : Heap
 A : Around
 N : List Str
 s₀ : Shared
 H₀ : Hp
 env : Env
 outer : List Env
 stack : List Env
 ex : List Addr
 fn : Str->Bool
 calm : Bool
 pn : List (Addr × Obj)
 xe : Value->Shared->Prop
noncomputable def frs (l : List Env) : List Addr:=l.filterMap (·.frame)
noncomputable abbrev Cx.fs (X : Cx) : List Addr:=frs X.outer
noncomputable def Vis (sc : Scope) (x : Str) : Prop:=sc.names.lookup x = some .local\/sc.names.lookup x = some .cell\/sc.names.lookup x = some .free
noncomputable def Loc (sc : Scope) (x : Str) : Prop:=sc.names.lookup x = some .local\/sc.names.lookup x = some .cell
noncomputable def Look (env : Env) (h : Heap) (m : Str->Option Value) (x : Str) (u : Value) : Prop:=
 (env.kindOf x = some .local/\m x = some u)\/((env.kindOf x = some .cell\/env.kindOf x = some .free)/\∃ c,env.cells.lookup x = some c/\h.IsCell c (some u))
structure Cx.Ok (X : Cx) : Prop where
 mod : Mod X.K X.mg X.base
 kind : X.env.scope.kind = .function
 glob : X.env.globals = mainGlobals
 blt : X.env.builtins = builtinsNs
 above : X.s₀.heap.objs.size<=X.env.locals
 inj : ∀ x y c,X.env.cells.lookup x = some c->X.env.cells.lookup y = some c->x = y
 has : ∀ x,(X.env.kindOf x = some .cell\/X.env.kindOf x = some .free)->∃ c,X.env.cells.lookup x = some c
 cab : ∀ x c,X.fn x = true->X.env.cells.lookup x = some c->X.s₀.heap.objs.size<=c
 hd : X.calm = true->X.A.handled = none
 frames : X.A.frames = some X.stack
 stk : X.stack = X.outer\/(X.stack = X.env :: X.outer/\X.env.frame = some X.env.locals)
 exf : ∀ b ∈ X.ex,b ≠ X.env.locals/\∀ x c,X.env.cells.lookup x = some c->c ≠ b
 bs : ∀ b o,X.base.get? b = some o->X.s₀.heap.get? b = some o/\X.H₀ b = none
 bsz : X.base.objs.size<=X.s₀.heap.objs.size
 noex : ∀ b o,X.base.get? b = some o->b ∉ X.ex
 exfs : ∀ b ∈ X.ex,b ∉ X.fs
 funs : X.s₀.heap.FunFrames X.base X.outer
 frf : ∀ b ∈ X.fs,X.H₀ b = none
structure Inv (X : Cx) (pins : List (Addr × Obj)) (σ : List (Option V)) (H : Hp) (s : Shared) : Prop where
 ok : X.Ok
 os : s.os = X.s₀.os
 bare : AllBare s.gens
 base : Un X.fs X.ex X.H₀ H X.s₀.heap s.heap
 loc : ∃ m,s.heap.Ns X.env.locals m/\∀ (i : Nat) (x : Str) (v : V),X.N[i]? = some x->σ[i]? = some (some v)->Vis X.env.scope x->∃ u,RelV v u/\Look X.env s.heap m x u
 cell : ∀ x c,X.env.cells.lookup x = some c->∃ v,s.heap.IsCell c v
 free : H X.env.locals = none
 freeC : ∀ x c,X.env.cells.lookup x = some c->H c = none
 pin : ∀ p ∈ X.pn ++ pins,s.heap.get? p.1 = some p.2/\H p.1 = none/\p.1 ≠ X.env.locals/\p.1 ∉ X.fs/\∀ v,p.2.data ≠ .cell v
 hok : HOk X.prog X.w H s.heap
 len : σ.length = X.N.length
section
variable {X : Cx} {pins : List (Addr × Obj)} {σ : List (Option V)} {H H' : Hp} {s : Shared} {h' : Heap}
theorem Cx.Ok.nofr (ok : X.Ok) {b : Addr} {o : Obj} (e : X.base.get? b = some o) : b ∉ X.fs:=fun hb=>by
 have:=(ok.funs.mem hb).1
 rw [e] at this;cases this
theorem Inv.bs (I : Inv X pins σ H s) : ∀ b o,X.base.get? b = some o->s.heap.get? b = some o/\H b = none:=fun b o e=>
 ⟨I.base.keep b o (I.ok.bs b o e).1 (I.ok.bs b o e).2 (I.ok.nofr e) (I.ok.noex b o e),I.base.free b o (I.ok.bs b o e).1 (I.ok.bs b o e).2 (I.ok.noex b o e)⟩
theorem Inv.bk (I : Inv X pins σ H s) : ∀ b o,X.base.get? b = some o->s.heap.get? b = some o:=fun b o e=>(I.bs b o e).1
theorem Inv.mod (I : Inv X pins σ H s) : Mod X.K X.mg X.base:=I.ok.mod
theorem Inv.kIn (I : Inv X pins σ H s) : X.K.In s.heap:=I.ok.mod.kin.keeps I.bk
theorem Inv.lt (I : Inv X pins σ H s) : X.env.locals < s.heap.objs.size:=let ⟨_,hn,_⟩:=I.loc;hn.lt
theorem Inv.sz (I : Inv X pins σ H s) : X.s₀.heap.objs.size<=s.heap.objs.size:=Nat.le_trans I.ok.above (Nat.le_of_lt I.lt)
theorem Inv.nofs (I : Inv X pins σ H s) {a : Addr} (h : s.heap.objs.size<=a) : a ∉ X.fs:=fun hb=>by
 obtain ⟨_,o,ho,_⟩:=I.ok.funs.mem hb
 exact absurd (Nat.lt_of_lt_of_le (Heap.lt_size ho) (Nat.le_trans I.sz h)) (Nat.lt_irrefl _)
theorem Inv.cne (I : Inv X pins σ H s) : ∀ x c,X.env.cells.lookup x = some c->c ≠ X.env.locals:=fun x c e z=>by
 obtain ⟨v,o,ho,hd⟩:=I.cell x c e
 obtain ⟨m,⟨o',es,ep,ho',hd',_⟩,_⟩:=I.loc
 rw [z,ho'] at ho;cases ho;rw [hd'] at hd;cases hd
theorem Inv.funs (I : Inv X pins σ H s) : s.heap.FunFrames X.base X.outer:=by
 have all : ∀ (l : List Env),(∀ b ∈ frs l,b ∈ X.fs)->X.s₀.heap.FunFrames X.base l->s.heap.FunFrames X.base l:=by
  intro l
  induction l with
  | nil=>intro _ _;trivial
  | cons env r ih=>
   intro hs hl
   obtain ⟨hk,⟨L,o,hf,hn,ho,hd⟩,hr⟩:=hl
   have hL : L ∈ X.fs:=hs L (by unfold frs;rw [List.filterMap_cons,hf];exact List.mem_cons_self)
   obtain ⟨sl,e⟩:=I.base.slot L o ho (I.ok.frf L hL) hL fun z=>I.ok.exfs L z hL
   exact ⟨hk,⟨L,_,hf,hn,e,hd⟩,ih (fun b hb=>hs b (by unfold frs;rw [List.filterMap_cons,hf];exact List.mem_cons_of_mem _ hb)) hr⟩
 exact all X.outer (fun _ hb=>hb) I.ok.funs
theorem Inv.stack (I : Inv X pins σ H s) : s.heap.FunFrames X.base X.stack:=by
 rcases I.ok.stk with e | ⟨e,hf⟩
 ·rw [e];exact I.funs
 ·rw [e]
  obtain ⟨m,hn,_⟩:=I.loc
  refine .cons (by rw [I.ok.kind];decide) hf hn ?_ I.funs
  exact Heap.get?_none_of_le (Nat.le_trans I.ok.bsz I.ok.above)
theorem Inv.stkSub (I : Inv X pins σ H s) : ∀ b ∈ frs X.stack,b ∈ X.env.locals :: X.fs:=fun b hb=>by
 rcases I.ok.stk with e | ⟨e,hf⟩
 ·rw [e] at hb;exact List.mem_cons_of_mem _ hb
 ·rw [e] at hb
  unfold frs at hb
  rw [List.filterMap_cons,hf] at hb
  exact hb
theorem Inv.stkFree (I : Inv X pins σ H s) : ∀ b ∈ frs X.stack,H b = none:=fun b hb=>by
 rcases List.mem_cons.mp (I.stkSub b hb) with e | hb
 ·rw [e];exact I.free
 ·obtain ⟨_,o,ho,_⟩:=I.ok.funs.mem hb
  exact I.base.free b o ho (I.ok.frf b hb) fun z=>I.ok.exfs b z hb
theorem Inv.step {g' : Array GenState} {t' : Nat} {d' : Drawn} {ch : List Addr} (I : Inv X pins σ H s)
  (hch : ∀ b ∈ ch,(b ∈ X.ex\/X.s₀.heap.objs.size<=b)/\b ≠ X.env.locals/\(∀ x c,X.env.cells.lookup x = some c->c ≠ b)/\∀ p ∈ X.pn ++ pins,p.1 ≠ b)
  (keep : ∀ b o,b ≠ X.env.locals->b ∉ X.fs->b ∉ ch->s.heap.get? b = some o->H b = none->h'.get? b = some o)
  (slot : ∀ b o,b ≠ X.env.locals->b ∈ X.fs->b ∉ ch->s.heap.get? b = some o->H b = none->∃ sl,h'.get? b = some { o with slots:=sl }) (free : ∀ b o,b ∉ ch->s.heap.get? b = some o->H b = none->H' b = none)
  (there : ∀ b o,b ∉ ch->s.heap.get? b = some o->∃ o',h'.get? b = some o')
  (tups : ∀ b xs,H b = some (.tup xs)->H' b = some (.tup xs)) (frzs : ∀ b o u,H b = some (.frz o u)->H' b = some (.frz o u)) (tbls : ∀ b ps,H b = some (.tbl ps)->∃ more,H' b = some (.tbl (ps ++ more)))
  (ns : ∀ m,s.heap.Ns X.env.locals m->h'.Ns X.env.locals m) (hok : HOk X.prog X.w H' h') (hg : AllBare g') :
  Inv X pins σ H' { s with heap:=h',gens:=g',drawn:=d',toks:=t' }:=by
 have neL : ∀ b o,X.s₀.heap.get? b = some o->b ≠ X.env.locals:=fun b o e=>Nat.ne_of_lt (Nat.lt_of_lt_of_le (Heap.lt_size e) I.ok.above)
 have neC : ∀ b o,X.s₀.heap.get? b = some o->b ∉ X.ex->b ∉ ch:=fun b o e hx hb=>by
  rcases (hch b hb).1 with z | z
  ·exact hx z
  ·exact absurd (Nat.lt_of_lt_of_le (Heap.lt_size e) z) (Nat.lt_irrefl _)
 have cellK : ∀ x c,X.env.cells.lookup x = some c->∀ v,s.heap.IsCell c v->h'.IsCell c v:=fun x c e v ⟨o,ho,hd⟩=>by
  have nch : c ∉ ch:=fun z=>(hch c z).2.2.1 x c e rfl
  by_cases hc : c ∈ X.fs
  ·obtain ⟨sl,q⟩:=slot c o (I.cne x c e) hc nch ho (I.freeC x c e)
   exact ⟨_,q,hd⟩
  ·exact ⟨o,keep c o (I.cne x c e) hc nch ho (I.freeC x c e),hd⟩
 refine ⟨I.ok,I.os,hg,⟨fun b o e n hb hx=>?_,fun b o e n hb hx=>?_,fun b o e n hx=>?_,fun b o e hx=>?_,fun b xs e=>tups b xs (I.base.tups b xs e),fun b o xs e=>frzs b o xs (I.base.frzs b o xs e),fun b ps e=>?_⟩,?_,fun x c e=>?_,?_,fun x c e=>?_,fun p hp=>?_,hok,I.len⟩
 ·exact keep b o (neL b o e) hb (neC b o e hx) (I.base.keep b o e n hb hx) (I.base.free b o e n hx)
 ·obtain ⟨sl,e1⟩:=I.base.slot b o e n hb hx
  obtain ⟨sl',e2⟩:=slot b _ (neL b o e) hb (neC b o e hx) e1 (I.base.free b o e n hx)
  exact ⟨sl',e2⟩
 ·obtain ⟨o',e1⟩:=I.base.there b o e hx
  exact free b o' (neC b o e hx) e1 (I.base.free b o e n hx)
 ·obtain ⟨o',e1⟩:=I.base.there b o e hx
  exact there b o' (neC b o e hx) e1
 ·obtain ⟨m1,e1⟩:=I.base.tbls b ps e
  obtain ⟨m2,e2⟩:=tbls b _ e1
  exact ⟨m1 ++ m2,by rw [e2,Array.append_assoc]⟩
 ·obtain ⟨m,hn,hl⟩:=I.loc
  refine ⟨m,ns m hn,fun i x v e1 e2 e3=>?_⟩
  obtain ⟨u,r,l⟩:=hl i x v e1 e2 e3
  refine ⟨u,r,?_⟩
  rcases l with l | ⟨k,c,e,z⟩
  ·exact .inl l
  ·exact .inr ⟨k,c,e,cellK x c e _ z⟩
 ·obtain ⟨v,z⟩:=I.cell x c e
  exact ⟨v,cellK x c e v z⟩
 ·obtain ⟨m,⟨o,_,_,ho,_⟩,_⟩:=I.loc
  exact free _ o (fun z=>(hch _ z).2.1 rfl) ho I.free
 ·obtain ⟨v,o,ho,hd⟩:=I.cell x c e
  exact free c o (fun z=>(hch c z).2.2.1 x c e rfl) ho (I.freeC x c e)
 ·obtain ⟨e,n,ne,nf,d⟩:=I.pin p hp
  have nch : p.1 ∉ ch:=fun z=>(hch p.1 z).2.2.2 p hp rfl
  exact ⟨keep p.1 p.2 ne nf nch e n,free p.1 p.2 nch e n,ne,nf,d⟩
theorem Inv.un {t' : Nat} (I : Inv X pins σ H s) (u : Un X.fs [] H H' s.heap h') (hok : HOk X.prog X.w H' h') : Inv X pins σ H' { s with heap:=h',toks:=t' }:=by
 obtain ⟨m,⟨o,es,ep,ho,r⟩,_⟩:=id I.loc
 obtain ⟨sl,hL⟩:=u.any ho I.free (by simp)
 exact I.step (g':=s.gens) (d':=s.drawn) (ch:=[]) (fun _ z=>nomatch z) (fun b o _ hb _ e n=>u.keep b o e n hb (by simp)) (fun b o _ hb _ e n=>u.slot b o e n hb (by simp)) (fun b o _ e n=>u.free b o e n (by simp)) (fun b o _ e=>u.there b o e (by simp)) u.tups u.frzs u.tbls (fun m' hm=>by
  obtain ⟨o',es',ep',ho',r'⟩:=hm
  rw [ho] at ho';cases ho'
  exact ⟨_,es',ep',hL,r'⟩) hok I.bare
theorem Inv.call {g' : Array GenState} {t' : Nat} {d' : Drawn} {ch : List Addr} (I : Inv X pins σ H s) (u : Un (frs X.stack) ch H H' s.heap h') (hok : HOk X.prog X.w H' h') (hg : AllBare g')
  (hch : ∀ b ∈ ch,(b ∈ X.ex\/X.s₀.heap.objs.size<=b)/\b ≠ X.env.locals/\(∀ x c,X.env.cells.lookup x = some c->c ≠ b)/\∀ p ∈ X.pn ++ pins,p.1 ≠ b) :
  Inv X pins σ H' { s with heap:=h',gens:=g',drawn:=d',toks:=t' }:=by
 obtain ⟨m,⟨o,es,ep,ho,r⟩,_⟩:=id I.loc
 obtain ⟨sl,hL⟩:=u.any ho I.free fun z=>(hch _ z).2.1 rfl
 exact I.step (ch:=ch) hch (fun b o hL hb hc e n=>u.keep b o e n (fun z=>(List.mem_cons.mp (I.stkSub b z)).elim hL hb) hc) (fun b o _ _ hc e n=>u.any e n hc) (fun b o hc e n=>u.free b o e n hc) (fun b o hc e=>u.there b o e hc) u.tups u.frzs u.tbls (fun m' hm=>by
  obtain ⟨o',es',ep',ho',r'⟩:=hm
  rw [ho] at ho';cases ho'
  exact ⟨_,es',ep',hL,r'⟩) hok hg
theorem Inv.turned {t' : Nat} {it : Addr} (I : Inv X pins σ H s) (k : ∀ b o,b ≠ it->s.heap.get? b = some o->h'.get? b = some o) (hn : H it = none) (hL : it ≠ X.env.locals)
  (h1 : it ∈ X.ex\/X.s₀.heap.objs.size<=it) (h2 : ∀ x c,X.env.cells.lookup x = some c->c ≠ it) (h3 : ∀ p ∈ X.pn ++ pins,p.1 ≠ it) : Inv X pins σ H { s with heap:=h',toks:=t' }:=by
 have nit : ∀ b u,H b = some u->b ≠ it:=fun b u e z=>by rw [z,hn] at e;cases e
 refine I.step (g':=s.gens) (d':=s.drawn) (ch:=[it]) (fun b hb=>?_) (fun b o _ _ hc e _=>k b o (fun z=>hc (by simp [z])) e) (fun b o _ _ hc e _=>⟨o.slots,k b o (fun z=>hc (by simp [z])) e⟩) (fun _ _ _ _ n=>n)
  (fun b o hc e=>⟨o,k b o (fun z=>hc (by simp [z])) e⟩) (fun _ _ e=>e) (fun _ _ _ e=>e) (fun b ps e=>⟨#[],by rw [e];simp⟩) (fun m hm=>?_) (fun b u e=>?_) I.bare
 ·have e : b = it:=by simpa using hb
  subst e
  exact ⟨h1,hL,h2,h3⟩
 ·obtain ⟨o,es,ep,ho,r⟩:=hm
  exact ⟨o,es,ep,k _ o (Ne.symm hL) ho,r⟩
 ·refine (I.hok b u e).stay (fun c v hc q=>k c v ?_ q) (fun _ q=>q) fun _ _ q=>q
  rcases hc with z | z
  ·rw [z];exact nit b u e
  ·exact nit c _ z
theorem Inv.tok (I : Inv X pins σ H s) (t : Nat) : Inv X pins σ H { s with toks:=t }:=I.un (h':=s.heap) (t':=t) Un.refl I.hok
theorem Inv.kept {t' : Nat} (I : Inv X pins σ H s) (k : ∀ b u,s.heap.get? b = some u->h'.get? b = some u) : Inv X pins σ H { s with heap:=h',toks:=t' }:=I.un (Un.kept k) (I.hok.kept k)
theorem Inv.laid {a : Addr} {o : HO} {t' : Nat} (I : Inv X pins σ H s) (k : ∀ b u,s.heap.get? b = some u->h'.get? b = some u) (hp : s.heap.objs.size<=a) (new : ObjOk X.prog X.w (upd H a o) h' a o) :
  Inv X pins σ (upd H a o) { s with heap:=h',toks:=t' }:=I.un (Un.laid k hp (I.hok.fresh hp)) (I.hok.laid k hp new)
theorem Inv.write {x e : Addr} {o : HO} {t' : Nat} (I : Inv X pins σ H s) (mu : Mut (H x)) (he : e = x\/H e = some (.own x)) (k : ∀ b u,b ≠ e->s.heap.get? b = some u->h'.get? b = some u) (heo : ∃ u,h'.get? e = some u)
  (new : ObjOk X.prog X.w (upd H x o) h' x o) : Inv X pins σ (upd H x o) { s with heap:=h',toks:=t' }:=I.un (Un.write mu he k heo) (I.hok.write mu he k heo new)
theorem Inv.weak {σ' : List (Option V)} (I : Inv X pins σ H s) (hl : σ'.length = σ.length) (w : ∀ (i : Nat) v,σ'[i]? = some (some v)->σ[i]? = some (some v)) : Inv X pins σ' H s:=
 ⟨I.ok,I.os,I.bare,I.base,let ⟨m,hn,hl'⟩:=I.loc;⟨m,hn,fun i x v e1 e2 e3=>hl' i x v e1 (w i v e2) e3⟩,I.cell,I.free,I.freeC,I.pin,I.hok,hl.trans I.len⟩
theorem Inv.pins_of {pins' : List (Addr × Obj)} (I : Inv X pins σ H s) (h : ∀ p ∈ pins',s.heap.get? p.1 = some p.2/\H p.1 = none/\p.1 ≠ X.env.locals/\p.1 ∉ X.fs/\∀ v,p.2.data ≠ .cell v) : Inv X pins' σ H s:=
 ⟨I.ok,I.os,I.bare,I.base,I.loc,I.cell,I.free,I.freeC,fun p hp=>(List.mem_append.mp hp).elim (fun z=>I.pin p (List.mem_append_left _ z)) (h p),I.hok,I.len⟩
theorem nodup_ix {N : List Str} (hN : N.Nodup) {i j : Nat} {x : Str} (a : N[i]? = some x) (b : N[j]? = some x) : i = j:=by
 obtain ⟨h1,e1⟩:=List.getElem?_eq_some_iff.mp a
 obtain ⟨h2,e2⟩:=List.getElem?_eq_some_iff.mp b
 exact (List.getElem_inj hN).mp (e1.trans e2.symm)
theorem store_ok2 {M : Model} {A : Around} {E : Value->Shared->Prop} {i : Nat} {x : Str} {v : V} {u : Value} {Q : Unit->Shared->Prop} (I : Inv X pins σ H s) (hN : X.N.Nodup) (hi : X.N[i]? = some x) (hx : Loc X.env.scope x) (r : RelV v u)
  (h : ∀ s',Inv X pins (σ.set i (some v)) H s'->(∃ a,Heap.SameBut a s.heap s'.heap/\(a = X.env.locals\/X.env.cells.lookup x = some a))->Q () s') (hf : X.fn x = true\/X.env.scope.names.lookup x = some .local:=by first | exact .inl rfl | exact .inr rfl | assumption) : wpAny M A (storeName X.env x u) Q E s:=by
 obtain ⟨m,hn,hl⟩:=id I.loc
 have hcls : (X.env.scope.kind == .class || (X.env.scope.kind == .module && X.env.locals != X.env.globals)) = false:=by rw [I.ok.kind];rfl
 have hiσ : i < σ.length:=by rw [I.len];exact (List.getElem?_eq_some_iff.mp hi).1
 have cne:=I.cne
 have tracked : ∀ {a : Addr} {h' : Heap},(∃ o,s.heap.get? a = some o/\H a = none)->Heap.SameBut a s.heap h'->HOk X.prog X.w H h':=fun {a h'} ha hs b ob e=>by
  obtain ⟨_,_,hfree⟩:=ha
  refine (I.hok b ob e).stay (fun c w' hc q=>(hs.2 c ?_).trans q) (fun _ q=>q) fun _ _ q=>q
  rintro rfl
  rcases hc with rfl | hc
  ·rw [hfree] at e;cases e
  ·rw [hfree] at hc;cases hc
 rcases hx with hk | hk
 ·refine wpAny_storeName_local hk hn (fun h' hn' hs=>?_) hcls
  obtain ⟨oL,_,_,hoL,_⟩:=id hn
  refine h _ ⟨I.ok,I.os,I.bare,⟨fun b o e n hb hx=>?_,fun b o e n hb hx=>?_,I.base.free,fun b o e hx=>?_,I.base.tups,I.base.frzs,I.base.tbls⟩,⟨_,hn',fun j y v' e1 e2 e3=>?_⟩,fun y c e=>?_,I.free,I.freeC,fun p hp=>?_,tracked ⟨oL,hoL,I.free⟩ hs,by simpa using I.len⟩ ⟨_,hs,.inl rfl⟩
  ·exact (hs.2 b (Nat.ne_of_lt (Nat.lt_of_lt_of_le (Heap.lt_size e) I.ok.above))).trans (I.base.keep b o e n hb hx)
  ·obtain ⟨sl,e1⟩:=I.base.slot b o e n hb hx
   exact ⟨sl,(hs.2 b (Nat.ne_of_lt (Nat.lt_of_lt_of_le (Heap.lt_size e) I.ok.above))).trans e1⟩
  ·obtain ⟨o',e1⟩:=I.base.there b o e hx
   exact ⟨o',(hs.2 b (Nat.ne_of_lt (Nat.lt_of_lt_of_le (Heap.lt_size e) I.ok.above))).trans e1⟩
  ·by_cases hj : j = i
   ·subst hj
    rw [hi] at e1;cases e1
    rw [List.getElem?_set_self hiσ] at e2
    cases e2
    exact ⟨u,r,.inl ⟨hk,by simp⟩⟩
   ·rw [List.getElem?_set_ne (Ne.symm hj)] at e2
    obtain ⟨u',r',q⟩:=hl j y v' e1 e2 e3
    refine ⟨u',r',?_⟩
    rcases q with ⟨k,e⟩ | ⟨k,c,e,z⟩
    ·refine .inl ⟨k,?_⟩
     have : y ≠ x:=fun e=>hj (nodup_ix hN e1 (e ▸ hi))
     simp [this,e]
    ·exact .inr ⟨k,c,e,z.sameBut hs (cne y c e)⟩
  ·obtain ⟨w',z⟩:=I.cell y c e
   exact ⟨w',z.sameBut hs (cne y c e)⟩
  ·obtain ⟨e,n,ne,nf,d⟩:=I.pin p hp
   exact ⟨(hs.2 p.1 ne).trans e,n,ne,nf,d⟩
 ·have hfn : X.fn x = true:=by
   rcases hf with z | z
   ·exact z
   ·rw [z] at hk;cases hk
  obtain ⟨c,hc⟩:=I.ok.has x (.inl hk)
  obtain ⟨w',z⟩:=I.cell x c hc
  refine wpAny_storeName_cell I.ok.kind hk hc z (fun h' hc' hs=>?_)
  obtain ⟨oc,hoc,hocd⟩:=id z
  refine h { s with heap:=h' } ⟨I.ok,I.os,I.bare,⟨fun b o e n hb hx=>?_,fun b o e n hb hx=>?_,I.base.free,fun b o e hx=>?_,I.base.tups,I.base.frzs,I.base.tbls⟩,⟨m,hn.sameBut hs (Ne.symm (cne x c hc)),fun j y v' e1 e2 e3=>?_⟩,fun y c' e=>?_,I.free,I.freeC,fun p hp=>?_,tracked ⟨oc,hoc,I.freeC x c hc⟩ hs,by simpa using I.len⟩ ⟨c,hs,.inr hc⟩
  ·exact (hs.2 b (Nat.ne_of_lt (Nat.lt_of_lt_of_le (Heap.lt_size e) (I.ok.cab x c hfn hc)))).trans (I.base.keep b o e n hb hx)
  ·obtain ⟨sl,e1⟩:=I.base.slot b o e n hb hx
   exact ⟨sl,(hs.2 b (Nat.ne_of_lt (Nat.lt_of_lt_of_le (Heap.lt_size e) (I.ok.cab x c hfn hc)))).trans e1⟩
  ·obtain ⟨o',e1⟩:=I.base.there b o e hx
   exact ⟨o',(hs.2 b (Nat.ne_of_lt (Nat.lt_of_lt_of_le (Heap.lt_size e) (I.ok.cab x c hfn hc)))).trans e1⟩
  ·by_cases hj : j = i
   ·subst hj
    rw [hi] at e1;cases e1
    rw [List.getElem?_set_self hiσ] at e2
    cases e2
    exact ⟨u,r,.inr ⟨.inl hk,c,hc,hc'⟩⟩
   ·rw [List.getElem?_set_ne (Ne.symm hj)] at e2
    obtain ⟨u',r',q⟩:=hl j y v' e1 e2 e3
    refine ⟨u',r',?_⟩
    rcases q with q | ⟨k,c',e,z'⟩
    ·exact .inl q
    ·refine .inr ⟨k,c',e,z'.sameBut hs ?_⟩
     rintro rfl
     exact hj (nodup_ix hN e1 (I.ok.inj _ _ _ e hc ▸ hi))
  ·by_cases hcc : c' = c
   ·subst hcc;exact ⟨_,hc'⟩
   ·obtain ⟨w2,z2⟩:=I.cell y c' e
    exact ⟨w2,z2.sameBut hs hcc⟩
  ·obtain ⟨e,n,ne,nf,d⟩:=I.pin p hp
   refine ⟨(hs.2 p.1 ?_).trans e,n,ne,nf,d⟩
   intro q
   rw [q,hoc] at e
   have q' : oc = p.2:=Option.some.inj e
   exact d w' (by rw [<- q'];exact hocd)
theorem store_ok {M : Model} {A : Around} {E : Value->Shared->Prop} {i : Nat} {x : Str} {v : V} {u : Value} {Q : Unit->Shared->Prop} (I : Inv X pins σ H s) (hN : X.N.Nodup) (hi : X.N[i]? = some x) (hx : Loc X.env.scope x) (r : RelV v u)
  (h : ∀ s',Inv X pins (σ.set i (some v)) H s'->Q () s') (hf : X.fn x = true\/X.env.scope.names.lookup x = some .local:=by first | exact .inl rfl | exact .inr rfl | assumption) : wpAny M A (storeName X.env x u) Q E s:=
 store_ok2 I hN hi hx r (fun s' I' _=>h s' I') hf
end
noncomputable abbrev XK:=Value->Option Addr->Hp->Prop
noncomputable abbrev St:=List (Option V)
noncomputable abbrev VK:=V->Hp->Prop
noncomputable abbrev TE:=St->Hp->VK->Prop
noncomputable abbrev TT:=St->Hp->(Bool->Hp->Prop)->Prop
noncomputable abbrev TA:=St->Hp->(List V->Hp->Prop)->Prop
structure Ends where
 nx : St->Hp->Prop
 rt : VK
 bk : St->Hp->Prop:=fun _ _=>False
 ct : St->Hp->Prop:=fun _ _=>False
noncomputable abbrev TS:=Ends->St->Hp->Prop
noncomputable def EP (X : Cx) (pins : List (Addr × Obj)) (σ : St) (Q : VK) (u : Value) (s' : Shared) : Prop:=∃ v H',Inv X pins σ H' s'/\RelV v u/\Q v H'
noncomputable def TP (X : Cx) (pins : List (Addr × Obj)) (σ : St) (Q : Bool->Hp->Prop) (b : Bool) (s' : Shared) : Prop:=∃ H',Inv X pins σ H' s'/\Q b H'
noncomputable def AP (X : Cx) (pins : List (Addr × Obj)) (σ : St) (Q : List V->Hp->Prop) (us : List Value) (s' : Shared) : Prop:=∃ vs H',Inv X pins σ H' s'/\Vals vs us/\Q vs H'
noncomputable def SP (X : Cx) (pins : List (Addr × Obj)) (D : Ends) (f : Flow) (s' : Shared) : Prop:=
 match f with
 | .next=>∃ σ' H',Inv X pins σ' H' s'/\D.nx σ' H'
 | .brk=>∃ σ' H',Inv X pins σ' H' s'/\D.bk σ' H'
 | .cont=>∃ σ' H',Inv X pins σ' H' s'/\D.ct σ' H'
 | .ret u=>∃ v σ' H',Inv X pins σ' H' s'/\RelV v u/\D.rt v H'
noncomputable def PE (X : Cx) (e : Expr) (t : TE) : Prop:=
 ∀ (pins : List (Addr × Obj)) (s : Shared) (σ : St) (H : Hp) (Q : VK),Inv X pins σ H s->t σ H Q->wpAny (model X.prog X.w) X.A (eval e X.env) (EP X pins σ Q) X.xe s
noncomputable def PT (X : Cx) (e : Expr) (t : TT) : Prop:=
 ∀ (pins : List (Addr × Obj)) (s : Shared) (σ : St) (H : Hp) (Q : Bool->Hp->Prop),Inv X pins σ H s->t σ H Q->wpAny (model X.prog X.w) X.A (isTrue e X.env (eval e X.env)) (TP X pins σ Q) X.xe s
noncomputable def PW (X : Cx) (e : Expr) (t : TT) : Prop:=
 ∀ (whole : Sem Value) (pins : List (Addr × Obj)) (s : Shared) (σ : St) (H : Hp) (Q : Bool->Hp->Prop),Inv X pins σ H s->t σ H Q->wpAny (model X.prog X.w) X.A (isTrue e X.env whole) (TP X pins σ Q) X.xe s
theorem PW.pt {X : Cx} {e : Expr} {t : TT} (h : PW X e t) : PT X e t:=h _
noncomputable def PA (X : Cx) (es : List Expr) (t : TA) : Prop:=
 ∀ (pos : Pos) (pins : List (Addr × Obj)) (s : Shared) (σ : St) (H : Hp) (Q : List V->Hp->Prop),Inv X pins σ H s->t σ H Q->wpAny (model X.prog X.w) X.A (spliced (backTo pos (starEach es X.env))) (AP X pins σ Q) X.xe s
noncomputable def PS (X : Cx) (st : Stmt) (t : TS) : Prop:=
 ∀ (pins : List (Addr × Obj)) (s : Shared) (σ : St) (H : Hp) (D : Ends),Inv X pins σ H s->t D σ H->wpAny (model X.prog X.w) X.A (exec st X.env) (SP X pins D) X.xe s
noncomputable def PSs (X : Cx) (st : List Stmt) (t : TS) : Prop:=
 ∀ (pins : List (Addr × Obj)) (s : Shared) (σ : St) (H : Hp) (D : Ends),Inv X pins σ H s->t D σ H->wpAny (model X.prog X.w) X.A (execs st X.env) (SP X pins D) X.xe s
theorem thn {α : Type} {t : Sem α} {Q Q' : α->Shared->Prop} {M : Model} {A : Around} {E : Value->Shared->Prop} {s : Shared} (h : wpAny M A t Q E s) (hQ : ∀ a s,Q a s->Q' a s) : wpAny M A t Q' E s:=wpAny_mono h hQ fun _ _ x=>x
end L2
namespace L2
open PySem PySem.Spec PyProof.Rows
section
variable {X : Cx}
noncomputable def tVar (i : Nat) : TE:=fun σ H Q=>∃ v,σ[i]? = some (some v)/\Q v H
noncomputable def tC (v : V) : TE:=fun _ H Q=>Q v H
theorem pe_var {i : Nat} {x : Str} {pos : Pos} (hN : X.N[i]? = some x) (hv : Vis X.env.scope x) (hd : (x == ("__debug__" : Str)) = false:=by decide) (hcd : (x == ("__classdict__" : Str)) = false:=by decide) : PE X (.Name x pos) (tVar i):=by
 intro pins s σ H Q I h
 obtain ⟨v,e,h⟩:=h
 obtain ⟨m,hn,hl⟩:=I.loc
 obtain ⟨u,r,l⟩:=hl i x v hN e hv
 have fin : EP X pins σ Q u s:=⟨v,H,I,r,h⟩
 rcases l with ⟨hk,hm⟩ | ⟨hk,c,hc,hcell⟩
 ·exact wpAny_Name (wpAny_loadName_local I.ok.kind hk hn hm fin) hd
 ·rcases hk with hk | hk
  ·exact wpAny_Name (wpAny_loadName_cell I.ok.kind hk hc hcell fin) hd
  ·exact wpAny_Name (wpAny_loadName_free I.ok.kind hk hc hcell fin hcd) hd
theorem pe_int {i j pos} : PE X (.Constant (.int i) j pos) (tC (.int i)):=fun _ _ _ H _ I h=>wpAny_Constant_int ⟨.int i,H,I.tok _,⟨_,rfl⟩,h⟩
theorem pe_bl {b j pos} : PE X (.Constant (.bool b) j pos) (tC (.bl b)):=fun _ _ _ H _ I h=>Constant_bool ⟨.bl b,H,I,rfl,h⟩
theorem pe_non {j pos} : PE X (.Constant .none j pos) (tC .non):=fun _ _ _ H _ I h=>Constant_none ⟨.non,H,I,rfl,h⟩
theorem pe_str {x j pos} : PE X (.Constant (.str x) j pos) (tC (.str x)):=fun _ _ _ H _ I h=>Calls.Constant_str ⟨.str x,H,I.tok _,⟨_,rfl⟩,h⟩
noncomputable def Gl (X : Cx) (x : Str) : Prop:=X.env.kindOf x = some .globalImplicit
theorem ld_glob {E : Value->Shared->Prop} {pins : List (Addr × Obj)} {s : Shared} {σ : St} {H : Hp} {x : Str} {u : Value} {pos : Pos} {Q : Value->Shared->Prop} (I : Inv X pins σ H s) (hg : Gl X x) (hm : X.mg x = some u) (h : Q u s)
  (hd : (x == ("__debug__" : Str)) = false:=by decide) : wpAny (model X.prog X.w) X.A (eval (.Name x pos) X.env) Q E s:=
 Calls.Name_function_global I.ok.kind hg (Calls.loadGlobal_global (by rw [I.ok.glob];exact I.mod.glob.keeps I.bk) hm h) hd
theorem ld_blt {E : Value->Shared->Prop} {pins : List (Addr × Obj)} {s : Shared} {σ : St} {H : Hp} {x : Str} {u : Value} {pos : Pos} {Q : Value->Shared->Prop} (I : Inv X pins σ H s) (hg : Gl X x) (hm : X.mg x = none) (hv : bootBuiltins x = some u) (h : Q u s)
  (hn : x ≠ "__name__":=by decide) (hd : (x == ("__debug__" : Str)) = false:=by decide) : wpAny (model X.prog X.w) X.A (eval (.Name x pos) X.env) Q E s:=by
 obtain ⟨mb,h1,h2⟩:=I.mod.blt
 exact Calls.Name_function_global I.ok.kind hg (Calls.loadGlobal_builtin (by rw [I.ok.glob];exact I.mod.glob.keeps I.bk) hm (by rw [I.ok.blt];exact h1.keeps I.bk) ((h2 x hn).trans hv) h) hd
theorem pe_bltn {x : Str} {v : V} {u : Value} {pos : Pos} (hg : Gl X x) (hm : X.mg x = none) (hv : bootBuiltins x = some u) (r : RelV v u) (hn : x ≠ "__name__":=by decide) (hd : (x == ("__debug__" : Str)) = false:=by decide) : PE X (.Name x pos) (tC v):=
 fun _ _ _ H _ I h=>ld_blt I hg hm hv ⟨v,H,I,r,h⟩ hn hd
variable {a b : Expr} {ta tb : TE} {pos : Pos}
variable {tA tB' : TT} {rest : List Expr}
noncomputable def tAnd (t u : TT) : TT:=fun σ H Q=>t σ H fun c H1=>if c = true then u σ H1 Q else Q false H1
noncomputable def tOr (t u : TT) : TT:=fun σ H Q=>t σ H fun c H1=>if c = true then Q true H1 else u σ H1 Q
noncomputable def tNot (t : TT) : TT:=fun σ H Q=>t σ H fun c H1=>Q (!c) H1
theorem pw_and1 (ha : PT X a tA) : PW X (.BoolOp .And [a] pos) tA:=by
 intro wh pins s σ H Q I h
 refine isTrue_and (thn (ha pins s σ H Q I h) fun c s1 e=>?_)
 cases c with
 | true=>exact isTrue_and_nil e
 | false=>exact e
theorem pw_or1 (ha : PT X a tA) : PW X (.BoolOp .Or [a] pos) tA:=by
 intro wh pins s σ H Q I h
 refine isTrue_or (thn (ha pins s σ H Q I h) fun c s1 e=>?_)
 cases c with
 | false=>exact isTrue_or_nil e
 | true=>exact e
theorem pw_and (ha : PT X a tA) (hb : PW X (.BoolOp .And (b :: rest) pos) tB') : PW X (.BoolOp .And (a :: b :: rest) pos) (tAnd tA tB'):=by
 intro wh pins s σ H Q I h
 refine isTrue_and (thn (ha pins s σ H _ I h) fun c s1 ⟨H1,I1,q1⟩=>?_)
 cases c with
 | true=>exact hb wh pins s1 σ H1 Q I1 q1
 | false=>exact ⟨H1,I1,q1⟩
theorem pw_or (ha : PT X a tA) (hb : PW X (.BoolOp .Or (b :: rest) pos) tB') : PW X (.BoolOp .Or (a :: b :: rest) pos) (tOr tA tB'):=by
 intro wh pins s σ H Q I h
 refine isTrue_or (thn (ha pins s σ H _ I h) fun c s1 ⟨H1,I1,q1⟩=>?_)
 cases c with
 | true=>exact ⟨H1,I1,q1⟩
 | false=>exact hb wh pins s1 σ H1 Q I1 q1
theorem pt_not (ha : PT X a tA) : PT X (.UnaryOp .Not a pos) (tNot tA):=by
 intro pins s σ H Q I h
 exact isTrue_not (ha pins s σ H (fun c H1=>Q (!c) H1) I h)
noncomputable def tAndV (ta tb : TE) : TE:=fun σ H Q=>ta σ H fun x H1=>∃ c,x = .bl c/\if c = true then tb σ H1 Q else Q (.bl false) H1
theorem pe_one {op} {t : TE} (h : PE X a t) : PE X (.BoolOp op [a] pos) t:=fun pins s σ H Q I hw=>BoolOp_one (h pins s σ H Q I hw)
theorem pe_and (ha : PE X a ta) (hb : PE X (.BoolOp .And (b :: rest) pos) tb) : PE X (.BoolOp .And (a :: b :: rest) pos) (tAndV ta tb):=by
 intro pins s σ H Q I h
 refine BoolOp_and (thn (ha pins s σ H _ I h) fun v s1 ⟨x,H1,I1,r1,q1⟩=>?_)
 obtain ⟨c,rfl,q1⟩:=q1
 cases r1
 refine wpAny_truthy_bool ?_
 cases c with
 | true=>exact hb pins s1 σ H1 Q I1 q1
 | false=>exact ⟨.bl false,H1,I1,rfl,q1⟩
end
end L2
namespace L2
open PySem PySem.Spec PyProof.Rows
noncomputable def SqL (K : PySem.W.Frag) (H : Hp) (a : Addr) (xs : List V) : Prop:=
 Rd H a (.lst xs)\/
  ∃ (o : Obj) (its : Array Value) (n : Nat),K.lookup a = some o/\o.cls = .type "list"/\o.dict = none/\o.data = .seq its n/\its.size<=sizeLine/\Vals xs its.toList
noncomputable def SqT (K : PySem.W.Frag) (H : Hp) (a : Addr) (xs : List V) : Prop:=
 Rd H a (.tup xs)\/
  ∃ (o : Obj) (its : Array Value) (n : Nat),K.lookup a = some o/\o.cls = .type "tuple"/\o.data = .seq its n/\its.size<=sizeLine/\Vals xs its.toList
noncomputable def absV : Value->Option V
 | .none=>some .non
 | .bool b=>some (.bl b)
 | .int i _=>some (.int i)
 | .str x _=>some (.str x)
 | .bytes b _=>some (.byt b)
 | .float b _=>some (.flt b)
 | .ref a=>some (.ref a)
 | .type n=>some (.ty n)
 | _=>none
theorem RelV.abs {x : V} {u : Value} (r : RelV x u) : absV u = some x:=by
 cases x with
 | non=>cases r;rfl
 | bl _=>cases r;rfl
 | int _=>obtain ⟨t,rfl⟩:=r;rfl
 | str _=>obtain ⟨t,rfl⟩:=r;rfl
 | byt _=>obtain ⟨t,rfl⟩:=r;rfl
 | flt _=>obtain ⟨t,rfl⟩:=r;rfl
 | ref _=>cases r;rfl
 | ty _=>cases r;rfl
theorem RelV.inj {x y : V} {u : Value} (r : RelV x u) (q : RelV y u) : x = y:=Option.some.inj (r.abs.symm.trans q.abs)
theorem Vals.inj : ∀ {xs ys : List V} {us : List Value},Vals xs us->Vals ys us->xs = ys
 | _,_,_,.nil,.nil=>rfl
 | _,_,_,.cons r t,.cons r' t'=>by rw [r.inj r',Vals.inj t t']
section
variable {X : Cx} {pins : List (Addr × Obj)} {σ : St} {H : Hp} {s : Shared} {a : Addr} {xs ys : List V}
theorem SqL.of {K : PySem.W.Frag} (h : H a = some (.lst xs)) : SqL K H a xs:=.inl (.inl h)
theorem SqT.of {K : PySem.W.Frag} (h : H a = some (.tup xs)) : SqT K H a xs:=.inl (.inl h)
theorem Inv.list (I : Inv X pins σ H s) (h : SqL X.K H a xs) : ∃ its : List Value,Vals xs its/\PlainL s.heap a its.toArray/\xs.length<=sizeLine:=by
 rcases h with h | ⟨o,its,n,hk,hc,hd,hs,hz,r⟩
 ·obtain ⟨z,its,n,r,e⟩:=h.ok I.hok
  exact ⟨its,r,⟨_,n,e,rfl,rfl,rfl⟩,z⟩
 ·refine ⟨its.toList,r,⟨o,n,I.kIn a o hk,hc,hd,by simpa using hs⟩,?_⟩
  have e:=r.length
  simp only [Array.length_toList] at e
  lia
theorem Inv.tuple (I : Inv X pins σ H s) (h : SqT X.K H a xs) : ∃ its : List Value,Vals xs its/\IsTup s.heap a its.toArray/\xs.length<=sizeLine:=by
 rcases h with h | ⟨o,its,n,hk,hc,hs,hz,r⟩
 ·obtain ⟨z,its,r,p⟩:=h.ok I.hok
  exact ⟨its,r,p.tup,z⟩
 ·refine ⟨its.toList,r,⟨o,I.kIn a o hk,hc,n,by simpa using hs⟩,?_⟩
  have e:=r.length
  simp only [Array.length_toList] at e
  lia
theorem Inv.list_inj (I : Inv X pins σ H s) (h : SqL X.K H a xs) (h' : SqL X.K H a ys) : xs = ys:=by
 obtain ⟨its,r,⟨o,n,e,_,_,d⟩,_⟩:=I.list h
 obtain ⟨its',r',⟨o',n',e',_,_,d'⟩,_⟩:=I.list h'
 rw [e] at e';cases e'
 rw [d] at d'
 injection d' with d1 _
 have : its = its':=by simpa using congrArg Array.toList d1
 subst this
 exact r.inj r'
theorem Inv.tuple_inj (I : Inv X pins σ H s) (h : SqT X.K H a xs) (h' : SqT X.K H a ys) : xs = ys:=by
 obtain ⟨its,r,⟨o,e,_,n,d⟩,_⟩:=I.tuple h
 obtain ⟨its',r',⟨o',e',_,n',d'⟩,_⟩:=I.tuple h'
 rw [e] at e';cases e'
 rw [d] at d'
 injection d' with d1 _
 have : its = its':=by simpa using congrArg Array.toList d1
 subst this
 exact r.inj r'
end
noncomputable abbrev Cx.wish (X : Cx) (E : Value->Shared->Prop) : Cx:={ X with xe:=E }
noncomputable abbrev Cx.nox (X : Cx) : Cx:=X.wish fun _ _=>False
theorem Cx.Ok.wish {X : Cx} (ok : X.Ok) (E : Value->Shared->Prop) : (X.wish E).Ok:=
 ⟨ok.mod,ok.kind,ok.glob,ok.blt,ok.above,ok.inj,ok.has,ok.cab,ok.hd,ok.frames,ok.stk,ok.exf,ok.bs,ok.bsz,ok.noex,ok.exfs,ok.funs,ok.frf⟩
theorem Cx.Ok.unwish {X : Cx} {E : Value->Shared->Prop} (ok : (X.wish E).Ok) : X.Ok:=
 ⟨ok.mod,ok.kind,ok.glob,ok.blt,ok.above,ok.inj,ok.has,ok.cab,ok.hd,ok.frames,ok.stk,ok.exf,ok.bs,ok.bsz,ok.noex,ok.exfs,ok.funs,ok.frf⟩
section
variable {X : Cx} {pins : List (Addr × Obj)} {σ : St} {H : Hp} {s : Shared} {E : Value->Shared->Prop}
theorem Inv.wish (I : Inv X pins σ H s) (E : Value->Shared->Prop) : Inv (X.wish E) pins σ H s:=⟨I.ok.wish E,I.os,I.bare,I.base,I.loc,I.cell,I.free,I.freeC,I.pin,I.hok,I.len⟩
theorem Inv.unwish (I : Inv (X.wish E) pins σ H s) : Inv X pins σ H s:=⟨I.ok.unwish,I.os,I.bare,I.base,I.loc,I.cell,I.free,I.freeC,I.pin,I.hok,I.len⟩
theorem SP.unwish {D : Ends} {f : Flow} {s' : Shared} (h : SP (X.wish E) pins D f s') : SP X pins D f s':=by
 cases f with
 | next=>obtain ⟨σ',H',I,q⟩:=h;exact ⟨σ',H',I.unwish,q⟩
 | brk=>obtain ⟨σ',H',I,q⟩:=h;exact ⟨σ',H',I.unwish,q⟩
 | cont=>obtain ⟨σ',H',I,q⟩:=h;exact ⟨σ',H',I.unwish,q⟩
 | ret u=>obtain ⟨v,σ',H',I,r,q⟩:=h;exact ⟨v,σ',H',I.unwish,r,q⟩
theorem PSs.nox {st : List Stmt} {t : TS} (h : PSs X.nox st t) : PSs X st t:=fun pins s σ H D I hw=>
 wpAny_mono (h pins s σ H D (I.wish _) hw) (fun _ _ q=>q.unwish) fun _ _ z=>False.elim z
end
section
variable {X : Cx} {st : Stmt} {rest : List Stmt} {t u : TS} {e : Expr} {te : TE} {pos : Pos}
noncomputable def tNext : TS:=fun D σ H=>D.nx σ H
noncomputable def tSeq (t u : TS) : TS:=fun D σ H=>t { D with nx:=u D } σ H
theorem pss_nil : PSs X [] tNext:=fun _ _ σ H _ I h=>wpAny_execs_nil ⟨σ,H,I,h⟩
theorem pss_cons (h1 : PS X st t) (h2 : PSs X rest u) : PSs X (st :: rest) (tSeq t u):=by
 intro pins s σ H D I h
 refine wpAny_execs_cons (thn (h1 pins s σ H { D with nx:=u D } I h) fun f s1 q=>?_)
 cases f with
 | next=>
  obtain ⟨σ',H',I',q⟩:=q
  exact h2 pins s1 σ' H' D I' q
 | ret v=>exact q
 | brk=>exact q
 | cont=>exact q
theorem pss_one (h1 : PS X st t) : PSs X [st] t:=by
 intro pins s σ H D I h
 refine wpAny_execs_cons (thn (h1 pins s σ H D I h) fun f s1 q=>?_)
 cases f with
 | next=>exact wpAny_execs_nil q
 | ret v=>exact q
 | brk=>exact q
 | cont=>exact q
theorem Inv.quiet {pins : List (Addr × Obj)} {σ : St} {H : Hp} {s : Shared} (I : Inv X pins σ H s) : interactive X.env = false:=by simp [interactive,I.ok.kind]
noncomputable def tDrop (te : TE) : TS:=fun D σ H=>te σ H fun _ H1=>D.nx σ H1
theorem ps_expr (he : PE X e te) (hs : swapsWith e none pos.line X.env = pure false:=by rfl) : PS X (.Expr e pos) (tDrop te):=by
 intro pins s σ H D I h
 exact wpAny_Expr_any (thn (he pins s σ H _ I h) fun v s1 ⟨x,H1,I1,r1,q1⟩=>⟨σ,H1,I1,q1⟩) I.quiet hs
noncomputable def tRet (te : TE) : TS:=fun D σ H=>te σ H D.rt
theorem ps_ret (he : PE X e te) : PS X (.Return (some e) pos) (tRet te):=by
 intro pins s σ H D I h
 exact wpAny_Return_some (thn (he pins s σ H _ I h) fun v s1 ⟨x,H1,I1,r1,q1⟩=>⟨x,σ,H1,I1,r1,q1⟩)
noncomputable def tIfS (c : TT) (t u : TS) : TS:=fun D σ H=>c σ H fun b H1=>if b = true then t D σ H1 else u D σ H1
theorem ps_if {c : Expr} {a b : List Stmt} {tc : TT} (hc : PT X c tc) (ha : PSs X a t) (hb : PSs X b u) : PS X (.If c a b pos) (tIfS tc t u):=by
 intro pins s σ H D I h
 refine wpAny_If (thn (hc pins s σ H _ I h) fun d s1 ⟨H1,I1,q1⟩=>?_)
 cases d with
 | true=>exact ha pins s1 σ H1 D I1 q1
 | false=>exact hb pins s1 σ H1 D I1 q1
end
noncomputable abbrev TG:=V->St->Hp->(St->Hp->Prop)->Prop
noncomputable abbrev TGs:=List V->St->Hp->(St->Hp->Prop)->Prop
noncomputable def PG (X : Cx) (target : Expr) (t : TG) : Prop:=
 ∀ (pins : List (Addr × Obj)) (s : Shared) (σ : St) (H : Hp) (v : V) (u : Value) (Q : St->Hp->Prop),Inv X pins σ H s->RelV v u->t v σ H Q->
  wpAny (model X.prog X.w) X.A (assign target X.env u) (fun _ s'=>∃ σ' H',Inv X pins σ' H' s'/\Q σ' H') X.xe s
noncomputable def PGs (X : Cx) (ts : List Expr) (t : TGs) : Prop:=
 ∀ (pins : List (Addr × Obj)) (s : Shared) (σ : St) (H : Hp) (vs : List V) (us : List Value) (Q : St->Hp->Prop),Inv X pins σ H s->Vals vs us->t vs σ H Q->
  wpAny (model X.prog X.w) X.A (assignInOrder ((assignEach ts X.env).map (·.2)) us) (fun _ s'=>∃ σ' H',Inv X pins σ' H' s'/\Q σ' H') X.xe s
section
variable {X : Cx} {pos : Pos}
noncomputable def gName (i : Nat) : TG:=fun v σ H Q=>Q (σ.set i (some v)) H
theorem pg_name {i : Nat} {x : Str} (hN : X.N.Nodup) (hi : X.N[i]? = some x) (hx : Loc X.env.scope x) (hf : X.fn x = true\/X.env.scope.names.lookup x = some .local:=by first | exact .inl rfl | exact .inr rfl | assumption) : PG X (.Name x pos) (gName i):=by
 intro pins s σ H v u Q I r h
 exact wpAny_assign_Name (store_ok I hN hi hx r (fun s' I'=>⟨_,H,I',h⟩) hf)
noncomputable def gNil : TGs:=fun vs σ H Q=>vs = []/\Q σ H
noncomputable def gCons (t : TG) (u : TGs) : TGs:=fun vs σ H Q=>∃ v r,vs = v :: r/\t v σ H fun σ' H'=>u r σ' H' Q
theorem pgs_nil : PGs X [] gNil:=by
 intro pins s σ H vs us Q I r h
 obtain ⟨e,h⟩:=h
 subst e
 cases r
 exact assignInOrder_nil ⟨σ,H,I,h⟩
theorem pgs_cons {e : Expr} {es : List Expr} {t : TG} {u : TGs} (h1 : PG X e t) (h2 : PGs X es u)
  (hs : (assignEach (e :: es) X.env).map (·.2) = assign e X.env :: (assignEach es X.env).map (·.2):=by rfl) : PGs X (e :: es) (gCons t u):=by
 intro pins s σ H vs us Q I r h
 obtain ⟨v,vr,e1,h⟩:=h
 subst e1
 cases r with
 | cons r rr=>
  rw [hs]
  refine assignInOrder_cons (thn (h1 pins s σ H _ _ _ I r h) fun _ s1 ⟨σ1,H1,I1,q1⟩=>?_)
  exact h2 pins s1 σ1 H1 _ _ Q I1 rr q1
noncomputable def gTup (K : PySem.W.Frag) (n : Nat) (t : TGs) : TG:=fun v σ H Q=>∃ a xs,v = .ref a/\SqT K H a xs/\xs.length = n/\t xs σ H Q
theorem pg_tup {es : List Expr} {k : Nat} {t : TGs} {n : Nat} (hc : X.calm = true) (h : PGs X es t)
  (hn : (assignEach es X.env).length = n:=by rfl) (hst : (assignEach es X.env).findIdx? (·.1) = none:=by rfl) : PG X (.Tuple es k pos) (gTup X.K n t):=by
 intro pins s σ H v u Q I r hw
 obtain ⟨a,xs,e1,hq,hl,hw⟩:=hw
 subst e1
 cases r
 obtain ⟨its,rv,ht,hz⟩:=I.tuple hq
 refine assign_Tuple_tuple (I.ok.hd hc) ht (by simp [hn,<- hl,rv.length]) hst fun h' hx=>?_
 have I1 : Inv X pins σ H { s with heap:=h' }:=I.kept (t':=s.toks) fun b o e=>hx b o (Nat.ne_of_lt (Heap.lt_size e)) e
 exact h pins _ σ H xs _ Q I1 (by simpa using rv) hw
noncomputable def tAsg (te : TE) (g : TG) : TS:=fun D σ H=>te σ H fun x H1=>g x σ H1 D.nx
theorem ps_set {i : Nat} {x : Str} {e : Expr} {te : TE} {pos' : Pos} (hN : X.N.Nodup) (hi : X.N[i]? = some x) (hx : Loc X.env.scope x) (he : PE X e te) (hs : swapsWith e (some (.Name x pos')) pos.line X.env = pure false:=by rfl) (hf : X.fn x = true\/X.env.scope.names.lookup x = some .local:=by first | exact .inl rfl | exact .inr rfl | assumption) :
  PS X (.Assign [.Name x pos'] e pos) (tAsg te (gName i)):=by
 intro pins s σ H D I h
 refine wpAny_Assign_Name (thn (he pins s σ H _ I h) fun v s1 ⟨y,H1,I1,r1,q1⟩=>?_) hs
 exact store_ok I1 hN hi hx r1 (fun s2 I2=>⟨_,H1,I2,q1⟩) hf
end
section
variable {X : Cx} {pos : Pos}
end
structure It where
 go : Nat->Hp->Prop
 yld : Nat->Hp->V->Hp->Prop
 stop : Nat->Hp->Prop
noncomputable def FpOk (X : Cx) (pins : List (Addr × Obj)) (H : Hp) (b : Addr) : Prop:=
 H b = none/\b ≠ X.env.locals/\b ∉ X.fs/\(b ∈ X.ex\/X.s₀.heap.objs.size<=b)/\(∀ x c,X.env.cells.lookup x = some c->c ≠ b)/\∀ p ∈ X.pn ++ pins,p.1 ≠ b
theorem Inv.fpOk {X : Cx} {pins : List (Addr × Obj)} {σ : St} {H H' : Hp} {s : Shared} {b : Addr} (I : Inv X pins σ H s) (hb : s.heap.objs.size<=b) (hn : H' b = none) : FpOk X pins H' b:=by
 refine ⟨hn,Nat.ne_of_gt (Nat.lt_of_lt_of_le I.lt hb),I.nofs hb,.inr (Nat.le_trans I.sz hb),fun x c e z=>?_,fun p hp z=>?_⟩
 ·obtain ⟨v,q⟩:=I.cell x c e
  exact absurd (Nat.lt_of_lt_of_le q.lt (by rw [z];exact hb)) (Nat.lt_irrefl _)
 ·exact absurd (Nat.lt_of_lt_of_le (Heap.lt_size (I.pin p hp).1) (by rw [z];exact hb)) (Nat.lt_irrefl _)
structure Turn (P : Program) (w : World) (K : PySem.W.Frag) (tg : Expr) (J : It) (fp : List Addr) (it : Addr) (tn : Nat->Heap->Prop) : Prop where
 mem : it ∈ fp
 obj : ∀ i h,tn i h->∀ b ∈ fp,∃ o,h.get? b = some o/\∀ v,o.data ≠ .cell v
 keep : ∀ i h h',tn i h->(∀ b ∈ fp,∀ o,h.get? b = some o->h'.get? b = some o)->tn i h'
 item : ∀ (X : Cx),X.prog = P->X.w = w->X.K = K->X.calm = true->∀ (i : Nat) (pins : List (Addr × Obj)) (s : Shared) (σ : St) (H : Hp) (E : Value->Shared->Prop),Inv X pins σ H s->(∀ b ∈ fp,FpOk X pins H b)->tn i s.heap->J.go i H->
  wpAny (model P w) X.A (pyNext (.ref it)) (fun r s1=>∃ u,r = some u/\
   wpAny (model P w) X.A (letOwnedTupleGo tg (.ref it) u) (fun _ s2=>∃ x H',Inv X pins σ H' s2/\RelV x u/\J.yld i H x H'/\tn (i + 1) s2.heap/\∀ b ∈ fp,H' b = none) E s1) E s
 done : ∀ (X : Cx),X.prog = P->X.w = w->X.K = K->X.calm = true->∀ (i : Nat) (pins : List (Addr × Obj)) (s : Shared) (σ : St) (H : Hp) (E : Value->Shared->Prop),Inv X pins σ H s->(∀ b ∈ fp,FpOk X pins H b)->tn i s.heap->J.stop i H->
  wpAny (model P w) X.A (pyNext (.ref it)) (fun r s1=>r = none/\Inv X pins σ H s1) E s
 self : ∀ (A : Around) (i : Nat) (s : Shared) (Q : Value->Shared->Prop) (E : Value->Shared->Prop),tn i s.heap->Q (.ref it) s->wpAny (model P w) A (pyIter (.ref it)) Q E s
noncomputable abbrev TI:=St->Hp->(It->Hp->Prop)->Prop
noncomputable def PIE (X : Cx) (pins : List (Addr × Obj)) (σ : St) (tg : Expr) (R : It->Hp->Prop) (itv : Value) (s2 : Shared) : Prop:=
 ∃ (it : Addr) (fp : List Addr) (tn : Nat->Heap->Prop) (J : It) (H' : Hp),itv = .ref it/\Inv X pins σ H' s2/\Turn X.prog X.w X.K tg J fp it tn/\tn 0 s2.heap/\(∀ b ∈ fp,FpOk X pins H' b)/\R J H'
noncomputable def PI (X : Cx) (tg iter : Expr) (wi : TI) : Prop:=
 ∀ (pins : List (Addr × Obj)) (s : Shared) (σ : St) (H : Hp) (R : It->Hp->Prop),Inv X pins σ H s->wi σ H R->
  wpAny (model X.prog X.w) X.A (eval iter X.env) (fun v s1=>wpAny (model X.prog X.w) X.A (pyIter v) (PIE X pins σ tg R) X.xe s1) X.xe s
theorem go_of {M : Model} {A : Around} {E : Value -> Shared -> Prop} {s : Shared} {tg : Expr} {it : Addr} {u : Value} {o : Obj} {n : String} {vs : Array Value} {Q : Unit -> Shared -> Prop} (ho : s.heap.get? it = some o) (hc : o.cls = .type n) (hd : o.data = .fields vs)
    (hn : ["enumerate", "zip", "dict_itemiterator", "dict_reverseitemiterator", "odict_iterator", "itertools.zip_longest", "itertools.pairwise"].contains n = false) (hQ : Q () s) : wpAny M A (letOwnedTupleGo tg (.ref it) u) Q E s := by
  unfold letOwnedTupleGo
  cases tg <;> first
    | exact wpAny_pure hQ
    | (cases u <;> first
        | exact wpAny_pure hQ
        | (refine wpAny_bind (wpAny_load ho ?_)
           rw [hc, hd]
           show wpAny M A (if (["enumerate", "zip", "dict_itemiterator", "dict_reverseitemiterator", "odict_iterator", "itertools.zip_longest", "itertools.pairwise"].contains n && vs[0]? == some (rawInt _)) = true then _ else _) Q E s
           rw [if_neg (by intro h; rw [hn, Bool.false_and] at h; cases h)]
           exact wpAny_pure hQ))
noncomputable def Itl (K : PySem.W.Frag) (a : Addr) : It:=
 ⟨fun i H=>∃ xs x,SqL K H a xs/\xs[i]? = some x,fun i H x H'=>H' = H/\∀ xs,SqL K H a xs->xs[i]? = some x,fun i H=>∃ xs,SqL K H a xs/\xs.length<=i⟩
noncomputable def Itt (K : PySem.W.Frag) (a : Addr) : It:=
 ⟨fun i H=>∃ xs x,SqT K H a xs/\xs[i]? = some x,fun i H x H'=>H' = H/\∀ xs,SqT K H a xs->xs[i]? = some x,fun i H=>∃ xs,SqT K H a xs/\xs.length<=i⟩
noncomputable def Itr (lo : Int) (n : Nat) : It:=⟨fun i _=>i < n,fun i H x H'=>H' = H/\x = .int (lo + i),fun i _=>n<=i⟩
theorem turn_list {P : Program} {w : World} {K : PySem.W.Frag} {tg : Expr} (a it : Addr) : Turn P w K tg (Itl K a) [it] it (fun i h=>h.IsListIter it a i) where
 mem:=by simp
 obj:=fun i h st b hb=>by
  have e : b = it:=by simpa using hb
  subst e
  obtain ⟨o,e,c,d⟩:=st
  exact ⟨o,e,fun v z=>by rw [d] at z;cases z⟩
 keep:=fun i h h' st k=>st.at fun o e=>k it (by simp) o e
 item:=by
  intro X hP hw hK hc i pins s σ H E I hf st hg
  subst hP hw hK
  obtain ⟨xs,x,hq,hx⟩:=hg
  obtain ⟨its,rv,p,hz⟩:=I.list hq
  obtain ⟨u,hu,ru⟩:=rv.get hx
  obtain ⟨f0,f1,f2,f3,f4,f5⟩:=hf it (by simp)
  refine wpAny_pyNext_list_item st p.isList (x:=u) (by simpa using hu) fun h' st' sb=>?_
  have I1 : Inv X pins σ H { s with heap:=h' }:=I.turned (t':=s.toks) (fun b o hb e=>(sb.2 b hb).trans e) f0 f1 f3 f4 f5
  obtain ⟨o,e,c,d⟩:=id st'
  exact ⟨u,rfl,go_of (s:={ s with heap:=h' }) e c d (by decide) ⟨x,H,I1,ru,⟨rfl,fun ys hy=>by rw [I.list_inj hy hq];exact hx⟩,st',fun b hb=>(hf b hb).1⟩⟩
 done:=by
  intro X hP hw hK hc i pins s σ H E I hf st hg
  subst hP hw hK
  obtain ⟨xs,hq,hx⟩:=hg
  obtain ⟨its,rv,p,hz⟩:=I.list hq
  obtain ⟨f0,f1,f2,f3,f4,f5⟩:=hf it (by simp)
  have hl:=rv.length
  exact wpAny_pyNext_list_end (I.ok.hd hc) st p.isList (by simp;lia) fun h' eb=>⟨rfl,I.turned (t':=s.toks) (fun b o hb e=>eb b o hb e) f0 f1 f3 f4 f5⟩
 self:=fun _ _ _ _ _ st h=>wpAny_pyIter_listiter st h
theorem turn_tuple {P : Program} {w : World} {K : PySem.W.Frag} {tg : Expr} (a it : Addr) : Turn P w K tg (Itt K a) [it] it (fun i h=>h.IsTupleIter it a i) where
 mem:=by simp
 obj:=fun i h st b hb=>by
  have e : b = it:=by simpa using hb
  subst e
  obtain ⟨o,e,c,d⟩:=st
  exact ⟨o,e,fun v z=>by rw [d] at z;cases z⟩
 keep:=fun i h h' st k=>st.at fun o e=>k it (by simp) o e
 item:=by
  intro X hP hw hK hc i pins s σ H E I hf st hg
  subst hP hw hK
  obtain ⟨xs,x,hq,hx⟩:=hg
  obtain ⟨its,rv,p,hz⟩:=I.tuple hq
  obtain ⟨u,hu,ru⟩:=rv.get hx
  obtain ⟨f0,f1,f2,f3,f4,f5⟩:=hf it (by simp)
  refine wpAny_pyNext_tuple_item st (show s.heap.IsTuple a its.toArray from p) (x:=u) (by simpa using hu) fun h' st' sb=>?_
  have I1 : Inv X pins σ H { s with heap:=h' }:=I.turned (t':=s.toks) (fun b o hb e=>(sb.2 b hb).trans e) f0 f1 f3 f4 f5
  obtain ⟨o,e,c,d⟩:=id st'
  exact ⟨u,rfl,go_of (s:={ s with heap:=h' }) e c d (by decide) ⟨x,H,I1,ru,⟨rfl,fun ys hy=>by rw [I.tuple_inj hy hq];exact hx⟩,st',fun b hb=>(hf b hb).1⟩⟩
 done:=by
  intro X hP hw hK hc i pins s σ H E I hf st hg
  subst hP hw hK
  obtain ⟨xs,hq,hx⟩:=hg
  obtain ⟨its,rv,p,hz⟩:=I.tuple hq
  obtain ⟨f0,f1,f2,f3,f4,f5⟩:=hf it (by simp)
  have hl:=rv.length
  exact wpAny_pyNext_tuple_end (I.ok.hd hc) st (show s.heap.IsTuple a its.toArray from p) (by simp;lia) fun h' eb=>⟨rfl,I.turned (t':=s.toks) (fun b o hb e=>eb b o hb e) f0 f1 f3 f4 f5⟩
 self:=fun _ _ _ _ _ st h=>wpAny_pyIter_tupleiter st h
theorem turn_range {P : Program} {w : World} {K : PySem.W.Frag} {tg : Expr} (it : Addr) (lo : Int) (n : Nat) : Turn P w K tg (Itr lo n) [it] it (fun i h=>IsRangeIter h it (lo + (i : Nat) * 1) ((n : Int) - (i : Nat)) 1) where
 mem:=by simp
 obj:=fun i h st b hb=>by
  have e : b = it:=by simpa using hb
  subst e
  exact ⟨_,st,fun v z=>by
   have z' : Data.fields _ = Data.cell v:=z
   cases z'⟩
 keep:=fun i h h' st k=>k it (by simp) _ st
 item:=by
  intro X hP hw hK hc i pins s σ H E I hf st hg
  subst hP hw hK
  obtain ⟨f0,f1,f2,f3,f4,f5⟩:=hf it (by simp)
  have W:=Walks.range (prog:=X.prog) (w:=X.w) (I.ok.hd hc) it lo 1 n
  refine W.item i s _ _ hg st fun v h' tk hv st' kk=>?_
  obtain ⟨t,rfl⟩:=hv
  have I1 : Inv X pins σ H { s with heap:=h',toks:=tk }:=I.turned (fun b o hb e=>kk b o (by simpa using hb) e) f0 f1 f3 f4 f5
  refine ⟨_,rfl,go_of (s:={ s with heap:=h',toks:=tk }) (n := "range_iterator") st' rfl rfl (by decide) ⟨.int (lo + i),H,I1,⟨t,?_⟩,⟨rfl,rfl⟩,st',fun b hb=>(hf b hb).1⟩⟩
  rw [Int.mul_one]
 done:=by
  intro X hP hw hK hc i pins s σ H E I hf st hg
  subst hP hw hK
  obtain ⟨f0,f1,f2,f3,f4,f5⟩:=hf it (by simp)
  exact wpAny_pyNext_range_end (I.ok.hd hc) st (by have : n<=i:=hg;lia) fun h' eb=>⟨rfl,I.turned (t':=s.toks) (fun b o hb e=>eb b o hb e) f0 f1 f3 f4 f5⟩
 self:=fun _ _ _ _ _ st h=>wpAny_pyIter_rangeiter st h
end L2
namespace L2
open PySem PySem.Spec PyProof.Rows
section
variable {X : Cx} {tg : Expr}
theorem range_it {pins : List (Addr × Obj)} {σ : St} {H : Hp} {s : Shared} {R : It->Hp->Prop} {E : Value->Shared->Prop} {lo hi : Int} {t u v : Tok} {tk : Nat} (I : Inv X pins σ H s) (h1 : -(2 ^ 62)<=lo) (h2 : lo < 2 ^ 62) (h3 : -(2 ^ 62)<=hi) (h4 : hi < 2 ^ 62)
  (q : R (Itr lo (hi - lo).toNat) H) : wpAny (model X.prog X.w) X.A (pyIter (.ref s.heap.objs.size)) (PIE X pins σ tg R) E { s with heap:=s.heap.push { cls:=.type "range",data:=.fields #[.int lo t,.int hi u,.int 1 v] },toks:=tk }:=by
 refine wpAny_pyIter_range (IsRange.new ..) (small_one h1 h2 h3 h4) ?_
 have I1 : Inv X pins σ H { s with heap:=s.heap.push { cls:=.type "range",data:=.fields #[.int lo t,.int hi u,.int 1 v] },toks:=tk }:=I.kept fun b o e=>Heap.get?_push_of_some _ e
 refine ⟨(s.heap.push { cls:=.type "range",data:=.fields #[.int lo t,.int hi u,.int 1 v] }).objs.size,[(s.heap.push { cls:=.type "range",data:=.fields #[.int lo t,.int hi u,.int 1 v] }).objs.size],_,_,H,rfl,
  I1.kept (t':=tk) fun b o e=>Heap.get?_push_of_some _ e,turn_range _ lo (hi - lo).toNat,?_,fun b hb=>?_,q⟩
 ·have e1 : lo + ((0 : Nat) : Int) * 1 = lo:=by simp
  have e2 : (((hi - lo).toNat : Nat) : Int) - ((0 : Nat) : Int) = Builtin.Range.rangeSize lo hi 1:=by rw [rangeSize_one];split <;> lia
  show IsRangeIter _ _ (lo + ((0 : Nat) : Int) * 1) ((((hi - lo).toNat : Nat) : Int) - ((0 : Nat) : Int)) 1
  rw [e1,e2]
  exact Heap.get?_push_size _ rfl
 ·have e : b = (s.heap.push { cls:=.type "range",data:=.fields #[.int lo t,.int hi u,.int 1 v] }).objs.size:=by simpa using hb
  subst e
  exact I1.fpOk (Nat.le_refl _) (I1.hok.fresh (Nat.le_refl _))
noncomputable def iRng1 (ta : TA) : TI:=fun σ H R=>ta σ H fun vs H1=>∃ j : Int,vs = [.int j]/\-(2 ^ 62)<=j/\j < 2 ^ 62/\R (Itr 0 j.toNat) H1
theorem pi_range1 {a : Expr} {ta : TA} {p pos : Pos} (hg : Gl X "range") (hm : X.mg "range" = none) (ha : PA X [a] ta) (hs : starEach [a] X.env = [(false,eval a X.env)]:=by rfl) : PI X tg (.Call (.Name "range" p) [a] [] pos) (iRng1 ta):=by
 intro pins s σ H R I h
 refine Call_ (ld_blt I hg hm boot_range (PyProof.Rows.callWith_type1 (thn (ha pos pins s σ H _ I h) fun us s1 ⟨vs,H1,I1,r1,q1⟩=>?_) hs rfl))
 obtain ⟨j,e,q1,q2,q⟩:=q1
 subst e
 cases r1 with
 | cons r rr=>
  cases rr
  obtain ⟨t,rfl⟩:=r
  exact call_range_1 (range_it I1 (by lia) (by lia) q1 q2 (by simpa using q))
noncomputable def tFor (wi : TI) (g : TG) (tb : TS) : TS:=fun D σ H=>wi σ H fun J H1=>∃ W : Nat->Nat->St->Hp->Prop,(∃ m,W 0 m σ H1)/\∀ i m σ H,W i m σ H->
 (J.stop i H/\D.nx σ H)\/(J.go i H/\∃ N : St->Hp->Prop,(∀ σ' H',N σ' H'->∃ m',m' < m/\W (i + 1) m' σ' H')/\∀ x H',J.yld i H x H'->g x σ H' fun σ2 H2=>tb { D with nx:=N,ct:=N,bk:=D.nx } σ2 H2)
noncomputable def pinsAt (fp : List Addr) (h : Heap) : List (Addr × Obj):=fp.filterMap fun b=>(h.get? b).map fun o=>(b,o)
theorem mem_pinsAt {fp : List Addr} {h : Heap} {b : Addr} {o : Obj} (hb : b ∈ fp) (e : h.get? b = some o) : (b,o) ∈ pinsAt fp h:=List.mem_filterMap.mpr ⟨b,hb,by rw [e];rfl⟩
theorem of_pinsAt {fp : List Addr} {h : Heap} {p : Addr × Obj} (hp : p ∈ pinsAt fp h) : p.1 ∈ fp/\h.get? p.1 = some p.2:=by
 obtain ⟨b,hb,e⟩:=List.mem_filterMap.mp hp
 cases q : h.get? b with
 | none=>rw [q] at e;cases e
 | some o=>
  rw [q] at e
  have e' : (b,o) = p:=Option.some.inj e
  subst e'
  exact ⟨hb,q⟩
theorem Inv.pinned {pins : List (Addr × Obj)} {σ : St} {H : Hp} {s : Shared} {fp : List Addr} (I : Inv X pins σ H s) (hf : ∀ b ∈ fp,FpOk X pins H b) (ho : ∀ b ∈ fp,∃ o,s.heap.get? b = some o/\∀ v,o.data ≠ .cell v) : Inv X (pins ++ pinsAt fp s.heap) σ H s:=
 I.pins_of fun p hp=>(List.mem_append.mp hp).elim (fun z=>I.pin p (List.mem_append_right _ z)) fun z=>by
  obtain ⟨hb,e⟩:=of_pinsAt z
  obtain ⟨f0,f1,f2,_⟩:=hf p.1 hb
  obtain ⟨o,e',d⟩:=ho p.1 hb
  rw [e] at e';cases e'
  exact ⟨e,f0,f1,f2,d⟩
theorem Inv.unpinned {pins pl : List (Addr × Obj)} {σ : St} {H : Hp} {s : Shared} (I : Inv X (pins ++ pl) σ H s) : Inv X pins σ H s:=I.pins_of fun p hp=>I.pin p (List.mem_append_right _ (List.mem_append_left _ hp))
theorem ps_for {iter : Expr} {body : List Stmt} {wi : TI} {g : TG} {tb : TS} {pos : Pos} (hp : PassesOwn (model X.prog X.w) X.A X.env X.xe) (hc : X.calm = true) (hi : PI X tg iter wi) (hg : PG X tg g) (hb : PSs X body tb)
  (hs : ∀ x,foldedSetIterable iter X.env x = pure x:=by intro _;rfl) : PS X (.For tg iter body [] pos) (tFor wi g tb):=by
 intro pins s σ H D I h
 refine wpAny_For (thn (hi pins s σ H _ I h) fun v s1 h1=>thn h1 fun itv s2 h2=>?_) hs
 obtain ⟨it,fp,tn,J,H2,e,I2,T,st2,f2,W,⟨m0,w0⟩,turn⟩:=h2
 subst e
 -- what stays true of the iterator's objects through the loop
 have stat : ∀ {H' : Hp},(∀ b ∈ fp,H' b = none)->∀ b ∈ fp,FpOk X pins H' b:=fun hn b hb=>⟨hn b hb,(f2 b hb).2⟩
 refine codeAny_forLoop_any (fun n s'=>∃ i σ' H',Inv X pins σ' H' s'/\tn i s'.heap/\(∀ b ∈ fp,H' b = none)/\W i n σ' H') ?_ m0 ⟨0,σ,H2,I2,st2,fun b hb=>(f2 b hb).1,w0⟩
 rintro n s3 ⟨i,σ3,H3,I3,st3,fr3,w3⟩
 rcases turn i n σ3 H3 w3 with ⟨stop,qn⟩ | ⟨go,N,hN,step⟩
 ·refine wpAny_passesOwn hp (thn (T.done X rfl rfl rfl hc i pins s3 σ3 H3 X.xe I3 (stat fr3) st3 stop) fun r s4 ⟨hr,I4⟩=>?_)
  subst hr
  exact wpAny_execs_nil ⟨σ3,H3,I4,qn⟩
 ·refine wpAny_passesOwn hp (thn (T.item X rfl rfl rfl hc i pins s3 σ3 H3 X.xe I3 (stat fr3) st3 go) fun r s4 ⟨u,hr,h4⟩=>?_)
  subst hr
  refine wpAny_passesOwn hp (thn h4 fun _ s5 ⟨x,H5,I5,r5,y5,st5,fr5⟩=>?_)
  have I5':=I5.pinned (stat fr5) (T.obj _ _ st5)
  refine wpAny_passesOwn hp (thn (hg _ s5 σ3 H5 x u _ I5' r5 (step x H5 y5)) fun _ s6 ⟨σ6,H6,I6,q6⟩=>?_)
  refine wpAny_passesOwn hp (thn (hb _ s6 σ6 H6 _ I6 q6) fun f s7 q7=>?_)
  have again : ∀ {σ7 : St} {H7 : Hp},Inv X (pins ++ pinsAt fp s5.heap) σ7 H7 s7->N σ7 H7->∃ m,m < n/\∃ i σ' H',Inv X pins σ' H' s7/\tn i s7.heap/\(∀ b ∈ fp,H' b = none)/\W i m σ' H':=fun {σ7 H7} I7 n7=>by
   obtain ⟨m',hm,w7⟩:=hN σ7 H7 n7
   refine ⟨m',hm,i + 1,σ7,H7,I7.unpinned,T.keep _ _ _ st5 fun b hb o e=>(I7.pin (b,o) (List.mem_append_right _ (List.mem_append_right _ (mem_pinsAt hb e)))).1,fun b hb=>?_,w7⟩
   obtain ⟨o,e,d⟩:=T.obj _ _ st5 b hb
   exact (I7.pin (b,o) (List.mem_append_right _ (List.mem_append_right _ (mem_pinsAt hb e)))).2.1
  cases f with
  | next=>obtain ⟨σ7,H7,I7,n7⟩:=q7;exact again I7 n7
  | cont=>obtain ⟨σ7,H7,I7,n7⟩:=q7;exact again I7 n7
  | brk=>obtain ⟨σ7,H7,I7,q7⟩:=q7;exact ⟨σ7,H7,I7.unpinned,q7⟩
  | ret v=>obtain ⟨x7,σ7,H7,I7,r7,q7⟩:=q7;exact ⟨x7,σ7,H7,I7.unpinned,r7,q7⟩
end
end L2
namespace L2
open PySem PySem.Spec PyProof.Rows
noncomputable abbrev R2:=V->V->Hp->VK->Prop
noncomputable def OpR (X : Cx) (f : Value->Value->Sem Value) (r : R2) : Prop:=
 ∀ (pins : List (Addr × Obj)) (s : Shared) (σ : St) (H : Hp) (x y : V) (v u : Value) (Q : VK),Inv X pins σ H s->RelV x v->RelV y u->r x y H Q->
  wpAny (model X.prog X.w) X.A (f v u) (EP X pins σ Q) X.xe s
noncomputable def CallR (X : Cx) (f : Value) (r : List V->Hp->VK->Prop) : Prop:=
 ∀ (pins : List (Addr × Obj)) (s : Shared) (σ : St) (H : Hp) (xs : List V) (us : List Value) (Q : VK),Inv X pins σ H s->Vals xs us->r xs H Q->
  wpAny (model X.prog X.w) X.A (call f us) (EP X pins σ Q) X.xe s
noncomputable def TruR (X : Cx) (r : V->Hp->(Bool->Hp->Prop)->Prop) : Prop:=
 ∀ (pins : List (Addr × Obj)) (s : Shared) (σ : St) (H : Hp) (x : V) (v : Value) (Q : Bool->Hp->Prop),Inv X pins σ H s->RelV x v->r x H Q->
  wpAny (model X.prog X.w) X.A (truthy v) (TP X pins σ Q) X.xe s
noncomputable def tOp (r : R2) (ta tb : TE) : TE:=fun σ H Q=>ta σ H fun x H1=>tb σ H1 fun y H2=>r x y H2 Q
noncomputable def rI (C : Int->Int->Prop) (g : Int->Int->V) : R2:=fun x y H Q=>∃ i j,x = .int i/\y = .int j/\C i j/\Q (g i j) H
noncomputable def rI0 (g : Int->Int->V) : R2:=fun x y H Q=>∃ i j,x = .int i/\y = .int j/\Q (g i j) H
section
variable {X : Cx} {a b c : Expr} {ta tb tc : TE} {pos : Pos}
theorem binT (ha : PE X a ta) (hb : PE X b tb) {pins : List (Addr × Obj)} {s : Shared} {σ : St} {H : Hp} {R : V->V->Hp->Prop} (I : Inv X pins σ H s)
  (h : ta σ H fun x H1=>tb σ H1 fun y H2=>R x y H2) {Q : Value->Shared->Prop} {f : Value->Value->Sem Value}
  (hf : ∀ v u s2 x y H2,Inv X pins σ H2 s2->RelV x v->RelV y u->R x y H2->wpAny (model X.prog X.w) X.A (f v u) Q X.xe s2) :
  wpAny (model X.prog X.w) X.A (eval a X.env) (fun v s₁=>wpAny (model X.prog X.w) X.A (eval b X.env) (fun u s₂=>wpAny (model X.prog X.w) X.A (f v u) Q X.xe s₂) X.xe s₁) X.xe s:=by
 refine thn (ha pins s σ H _ I h) fun v s1 ⟨x,H1,I1,r1,q1⟩=>?_
 refine thn (hb pins s1 σ H1 _ I1 q1) fun u s2 ⟨y,H2,I2,r2,q2⟩=>?_
 exact hf v u s2 x y H2 I2 r1 r2 q2
theorem pe_op {op : Operator} {r : R2} (ho : OpR X (binaryOp op) r) (ha : PE X a ta) (hb : PE X b tb) : PE X (.BinOp a op b pos) (tOp r ta tb):=by
 intro pins s σ H Q I h
 exact wpAny_BinOp (binT ha hb I h fun v u s2 x y H2 I2 rx ry q=>ho pins s2 σ H2 x y v u Q I2 rx ry q)
theorem opI {f : Value->Value->Sem Value} {C : Int->Int->Prop} {g : Int->Int->Int}
  (rule : ∀ (i j : Int) (t u : Tok) (s : Shared) (Q : Value->Shared->Prop) (E : Value->Shared->Prop),C i j->Q (.int (g i j) s.toks) { s with toks:=s.toks + 1 }->wpAny (model X.prog X.w) X.A (f (.int i t) (.int j u)) Q E s) :
  OpR X f (rI C fun i j=>.int (g i j)):=by
 intro pins s σ H x y v u Q I rx ry h
 obtain ⟨i,j,rfl,rfl,hc,q⟩:=h
 obtain ⟨t,rfl⟩:=rx
 obtain ⟨t',rfl⟩:=ry
 exact rule i j t t' s _ _ hc ⟨.int (g i j),H,I.tok _,⟨_,rfl⟩,q⟩
theorem opI0 {f : Value->Value->Sem Value} {g : Int->Int->Int}
  (rule : ∀ (i j : Int) (t u : Tok) (s : Shared) (Q : Value->Shared->Prop) (E : Value->Shared->Prop),Q (.int (g i j) s.toks) { s with toks:=s.toks + 1 }->wpAny (model X.prog X.w) X.A (f (.int i t) (.int j u)) Q E s) :
  OpR X f (rI0 fun i j=>.int (g i j)):=by
 intro pins s σ H x y v u Q I rx ry h
 obtain ⟨i,j,rfl,rfl,q⟩:=h
 obtain ⟨t,rfl⟩:=rx
 obtain ⟨t',rfl⟩:=ry
 exact rule i j t t' s _ _ ⟨.int (g i j),H,I.tok _,⟨_,rfl⟩,q⟩
noncomputable def CDiv (i j : Int) : Prop:=0 < j/\j < 1073741824
noncomputable def CMul (i j : Int) : Prop:=(-(2 ^ 64) < i/\i < 2 ^ 64)\/(-(2 ^ 64) < j/\j < 2 ^ 64)
theorem CMul.ok {i j : Int} (h : CMul i j) : IntMulOk i j:=by
 rcases h with ⟨h1,h2⟩ | ⟨h1,h2⟩
 ·exact .of_left (intBits_le_64 h1 h2)
 ·exact .of_right (intBits_le_64 h1 h2)
theorem op_add : OpR X (binaryOp .Add) (rI0 fun i j=>.int (i + j)):=opI0 fun _ _ _ _ _ _ _ q=>add_int q
theorem op_sub : OpR X (binaryOp .Sub) (rI0 fun i j=>.int (i - j)):=opI0 fun _ _ _ _ _ _ _ q=>sub_int q
theorem op_mul : OpR X (binaryOp .Mult) (rI CMul fun i j=>.int (i * j)):=opI fun _ _ _ _ _ _ _ hc q=>mul_int q hc.ok
theorem op_fdiv : OpR X (binaryOp .FloorDiv) (rI CDiv fun i j=>.int (i / j)):=opI fun i j _ _ _ _ _ hc q=>by
 have h1 : (0 : Int) < j:=hc.1
 have h2 : j < 1073741824:=hc.2
 exact floordiv_int (by lia) (by rw [Int.fdiv_eq_ediv_of_nonneg i (by lia)];exact q) (.inl (PyProof.noPylong_small (by lia)))
theorem op_mod : OpR X (binaryOp .Mod) (rI (fun _ j=>0 < j) fun i j=>.int (i % j)):=opI fun i j _ _ _ _ _ hc q=>by
 have h1 : (0 : Int) < j:=hc
 exact mod_int' (by lia) (by rw [Int.fmod_eq_emod_of_nonneg i (by lia)];exact q)
end
section
variable {X : Cx} {a b c : Expr} {ta tb tc : TE} {pos : Pos}
theorem fin_bl {pins : List (Addr × Obj)} {σ : St} {H : Hp} {s : Shared} {Q : VK} {k k' : Bool} (I : Inv X pins σ H s) (q : Q (.bl k) H) (e : k = k') : EP X pins σ Q (.bool k') s:=by
 subst e
 exact ⟨.bl k,H,I,rfl,q⟩
theorem op_isN : OpR X (compareOp .Is) (fun x y H Q=>y = .non/\Q (.bl (decide (x = .non))) H):=by
 intro pins s σ H x y v u Q I rx ry h
 obtain ⟨rfl,q⟩:=h
 cases ry
 refine is_none_gen (fin_bl I q ?_)
 cases x <;> first
  | (cases rx;rfl)
  | (obtain ⟨t,rfl⟩:=rx;rfl)
theorem nomark (b : Expr) {op : CmpOp} (h : op ≠ .In:=by decide) (h2 : op ≠ .NotIn:=by decide) : behindInMarks op b = false:=by
 have e1 : (op == CmpOp.In) = false:=by cases op <;> first | rfl | exact absurd rfl h
 have e2 : (op == CmpOp.NotIn) = false:=by cases op <;> first | rfl | exact absurd rfl h2
 cases b <;> simp [behindInMarks,e1,e2]
theorem pe_cmpR {op : CmpOp} {r : R2} (ho : OpR X (compareOp op) r) (ha : PE X a ta) (hb : PE X b tb) (hm : behindInMarks op b = false) : PE X (.Compare a [op] [b] pos) (tOp r ta tb):=by
 intro pins s σ H Q I h
 exact wpAny_Compare1 (binT ha hb I h fun v u s2 x y H2 I2 rx ry q=>ho pins s2 σ H2 x y v u Q I2 rx ry q) hm
noncomputable def tTest (t : TE) : TT:=fun σ H Q=>t σ H fun x H'=>∃ k,x = .bl k/\Q k H'
theorem pt_cmpR {op : CmpOp} {r : R2} (ho : OpR X (compareOp op) r) (ha : PE X a ta) (hb : PE X b tb) (hm : behindInMarks op b = false) : PT X (.Compare a [op] [b] pos) (tTest (tOp r ta tb)):=by
 intro pins s σ H Q I h
 refine wpAny_isTrue_Compare1 (thn (ha pins s σ H _ I h) fun v s1 ⟨x,H1,I1,r1,q1⟩=>thn (hb pins s1 σ H1 _ I1 q1) fun u s2 ⟨y,H2,I2,r2,q2⟩=>
  thn (ho pins s2 σ H2 x y v u _ I2 r1 r2 q2) fun c s3 ⟨z,H3,I3,r3,k,e,q3⟩=>?_) hm
 subst e
 cases r3
 exact wpAny_truthy_bool ⟨H3,I3,q3⟩
noncomputable def tChain (r r' : R2) (ta tb tc : TE) : TE:=fun σ H Q=>ta σ H fun x H1=>tb σ H1 fun y H2=>r x y H2 fun z H3=>∃ k,z = .bl k/\
 (if k = true then tc σ H3 fun w' H4=>r' y w' H4 Q else Q (.bl false) H3)
theorem pe_chain {op op' : CmpOp} {r r' : R2} (ho : OpR X (compareOp op) r) (ho' : OpR X (compareOp op') r') (ha : PE X a ta) (hb : PE X b tb) (hc : PE X c tc)
  (hm : lastMarks [op,op'] [b,c] = false:=by with_unfolding_all rfl) : PE X (.Compare a [op,op'] [b,c] pos) (tChain r r' ta tb tc):=by
 intro pins s σ H Q I h
 refine Compare_chain (thn (ha pins s σ H _ I h) fun v s1 ⟨x,H1,I1,r1,q1⟩=>chain_link (thn (hb pins s1 σ H1 _ I1 q1) fun u s2 ⟨y,H2,I2,r2,q2⟩=>
  thn (ho pins s2 σ H2 x y v u _ I2 r1 r2 q2) fun d s3 ⟨z,H3,I3,r3,k,e,q3⟩=>?_)) hm
 subst e
 cases r3
 refine wpAny_truthy_bool ?_
 cases k with
 | false=>exact ite_ff ⟨.bl false,H3,I3,rfl,q3⟩
 | true=>exact ite_tt (chain_last (thn (hc pins s3 σ H3 _ I3 q3) fun w' s4 ⟨z',H4,I4,r4,q4⟩=>ho' pins s4 σ H4 y z' u w' Q I4 r2 r4 q4))
theorem pt_chain {op op' : CmpOp} {r r' : R2} (ho : OpR X (compareOp op) r) (ho' : OpR X (compareOp op') r') (ha : PE X a ta) (hb : PE X b tb) (hc : PE X c tc)
  (hm : lastMarks [op,op'] [b,c] = false:=by with_unfolding_all rfl) : PT X (.Compare a [op,op'] [b,c] pos) (tTest (tChain r r' ta tb tc)):=by
 intro pins s σ H Q I h
 refine isTrue_chain (thn (ha pins s σ H _ I h) fun v s1 ⟨x,H1,I1,r1,q1⟩=>test_link (thn (hb pins s1 σ H1 _ I1 q1) fun u s2 ⟨y,H2,I2,r2,q2⟩=>
  thn (ho pins s2 σ H2 x y v u _ I2 r1 r2 q2) fun d s3 ⟨z,H3,I3,r3,k,e,q3⟩=>?_)) hm
 subst e
 cases r3
 refine wpAny_truthy_bool ?_
 cases k with
 | false=>
  obtain ⟨k',e',q'⟩:=q3
  cases e'
  exact ite_ff ⟨H3,I3,q'⟩
 | true=>
  refine ite_tt (test_last (thn (hc pins s3 σ H3 _ I3 q3) fun w' s4 ⟨z',H4,I4,r4,q4⟩=>thn (ho' pins s4 σ H4 y z' u w' _ I4 r2 r4 q4) fun d' s5 ⟨z2,H5,I5,r5,k2,e2,q5⟩=>?_))
  subst e2
  cases r5
  exact wpAny_truthy_bool ⟨H5,I5,q5⟩
noncomputable def TruV (K : PySem.W.Frag) (x : V) (H : Hp) (k : Bool) : Prop:=
 match x with
 | .non=>k = false
 | .bl b=>k = b
 | .int i=>k = (i != 0)
 | .str y=>y.length<=sizeLine/\k = ((y.length : Int) != 0)
 | .byt y=>y.size<=sizeLine/\k = ((y.size : Int) != 0)
 | .ref p=>(∃ xs,SqL K H p xs/\k = !xs.isEmpty)\/(∃ xs,SqT K H p xs/\k = !xs.isEmpty)\/∃ kvs,H p = some (.dK kvs)/\k = !kvs.isEmpty
 | _=>False
theorem isEmpty_kv {κ : Type} {kvs : List (κ × V)} {vs : List (κ × Value)} (r : KV kvs vs) : (!vs.isEmpty) = !kvs.isEmpty:=by
 cases r <;> rfl
theorem isEmpty_of {xs : List V} {its : List Value} (r : Vals xs its) : (!its.toArray.isEmpty) = !xs.isEmpty:=by
 cases r <;> simp
theorem line63 : (sizeLine : Nat) < 2 ^ 63:=by rw [sizeLine_eq];decide
theorem tru_ok : TruR X (fun x H Q=>∃ k,TruV X.K x H k/\Q k H):=by
 intro pins s σ H x v Q I rx h
 obtain ⟨k,e,q⟩:=h
 have hl:=line63
 have hs : sizeLine = 16777216:=sizeLine_eq
 cases x with
 | non=>
  cases rx
  have e' : k = false:=e
  subst e'
  exact truthy_none ⟨H,I,q⟩
 | bl b=>
  cases rx
  have e' : k = b:=e
  subst e'
  exact wpAny_truthy_bool ⟨H,I,q⟩
 | int i=>
  obtain ⟨t,rfl⟩:=rx
  have e' : k = (i != 0):=e
  subst e'
  exact PySem.P.truthy_int ⟨H,I,q⟩
 | str y=>
  obtain ⟨t,rfl⟩:=rx
  obtain ⟨hy,e'⟩ : y.length<=sizeLine/\k = ((y.length : Int) != 0):=e
  subst e'
  exact PySem.P.truthy_str (by lia) ⟨H,I.tok _,q⟩
 | byt y=>
  obtain ⟨t,rfl⟩:=rx
  obtain ⟨hy,e'⟩ : y.size<=sizeLine/\k = ((y.size : Int) != 0):=e
  subst e'
  exact PySem.W.truthy_bytes (by lia) ⟨H,I.tok _,q⟩
 | ref p=>
  cases rx
  have e' : (∃ xs,SqL X.K H p xs/\k = !xs.isEmpty)\/(∃ xs,SqT X.K H p xs/\k = !xs.isEmpty)\/∃ kvs,H p = some (.dK kvs)/\k = !kvs.isEmpty:=e
  rcases e' with ⟨xs,hx,e'⟩ | ⟨xs,hx,e'⟩ | ⟨kvs,hx,e'⟩
  ·subst e'
   obtain ⟨its,r,pl,hz⟩:=I.list hx
   have hlen:=r.length
   exact wpAny_truthy_list pl.isList (by simp only [List.size_toArray];lia) ⟨H,I.tok _,by rw [isEmpty_of r];exact q⟩
  ·subst e'
   obtain ⟨its,r,pl,hz⟩:=I.tuple hx
   have hlen:=r.length
   exact truthy_tuple pl (by simp only [List.size_toArray];lia) ⟨H,I.tok _,by rw [isEmpty_of r];exact q⟩
  ·subst e'
   obtain ⟨hz,hS,vs,r,m⟩ : kvs.length<=sizeLine/\(p == sysModules) = false/\∃ vs,KV kvs vs/\s.heap.DictOf (mixKind X.prog X.w) p vs:=I.hok p _ hx
   have hlen : kvs.length = vs.length:=Paired.length r
   exact wpAny_truthy_dict hS m (by lia) ⟨H,I.tok _,by rw [isEmpty_kv r];exact q⟩
 | _=>exact (show False from e).elim
theorem pt_truth (ha : PE X a ta) (he : ∀ whole,isTrue a X.env whole = (do let v <- whole;standAt a.pos;holding [v] (truthy v))) :
  PT X a (fun σ H Q=>ta σ H fun x H'=>∃ k,TruV X.K x H' k/\Q k H'):=by
 intro pins s σ H Q I h
 exact isTrue_plain (thn (ha pins s σ H _ I h) fun v s1 ⟨x,H1,I1,r1,q1⟩=>tru_ok pins s1 σ H1 x v Q I1 r1 q1) (he _)
theorem op_add_str : OpR X (binaryOp .Add) (fun x y H Q=>∃ i j,x = .str i/\y = .str j/\i.length + j.length<=sizeLine/\Q (.str (i ++ j)) H):=by
 intro pins s σ H x y v u Q I rx ry h
 obtain ⟨i,j,rfl,rfl,hz,q⟩:=h
 obtain ⟨t,rfl⟩:=rx
 obtain ⟨t',rfl⟩:=ry
 exact add_str (fun t' tk=>⟨.str (i ++ j),H,I.tok _,⟨_,rfl⟩,q⟩) hz
theorem vals1 {x : V} {us : List Value} (r : Vals [x] us) : ∃ u,us = [u]/\RelV x u:=by
 cases r with
 | cons r1 r2=>cases r2;exact ⟨_,rfl,r1⟩
end
end L2
namespace L2
open PySem PySem.Spec PyProof.Rows
section
variable {prog : Program} {w : World} {A : Around} {E : Value->Shared->Prop} {s : Shared} {K : PySem.W.Frag} {x dx C f : Addr} {mA : Str->Option Value} {name : Str} {v : Value}
end
theorem RelO.some_of {v : V} {o : Option Value} (r : RelO (some v) o) : ∃ u,o = some u/\RelV v u:=by
 cases o with
 | none=>exact (show False from r).elim
 | some u=>exact ⟨u,rfl,r⟩
section
variable {P : Program} {w : World} {H H' : Hp} {h h' : Heap} {a C dx : Addr} {fs fs' : List (Str × V)}
end
section
variable {X : Cx} {pins : List (Addr × Obj)} {σ : St} {H : Hp} {s : Shared} {a C dx : Addr} {fs : List (Str × V)} {f : Str} {v : V} {A : Around} {E : Value->Shared->Prop}
end
section
variable {X : Cx} {o e value : Expr} {f : Str} {pos pos' tpos : Pos} {ta tv : TE}
end
section
variable {X : Cx} {pins : List (Addr × Obj)} {σ : St} {H : Hp} {s : Shared} {A : Around} {E : Value->Shared->Prop} {Q : Value->Shared->Prop} {c : Value} {b : Bool}
end
end L2
namespace L2
open PySem PySem.Spec PyProof.Rows
structure Room (k : Nat) (A : Around) : Prop where
 hd : A.handled = none
 dp : A.depth + 3 * k + 5 < recursionLimit
 un : A.units + 16 * k + 200 < cLine
theorem Room.mono {j k : Nat} {A : Around} (r : Room k A) (h : j<=k) : Room j A:=⟨r.hd,by have:=r.dp;lia,by have:=r.un;lia⟩
theorem Room.deeper {k : Nat} {A : Around} (r : Room (k + 1) A) (env : Env) : Room k (A.deeper env):=
 ⟨r.hd,by have:=r.dp;show A.depth + 1 + 3 * k + 5 < _;lia,by have:=r.un;show A.units + 3 + 16 * k + 200 < _;lia⟩
theorem Room.depth {k : Nat} {A : Around} (r : Room k A) : A.depth < recursionLimit:=by have:=r.dp;lia
theorem Room.units {k : Nat} {A : Around} (r : Room k A) : A.units + 64 < cLine:=by have:=r.un;lia
noncomputable def tNil : TA:=fun _ H Q=>Q [] H
noncomputable def tCons (ta : TE) (tr : TA) : TA:=fun σ H Q=>ta σ H fun x H1=>tr σ H1 fun xs H2=>Q (x :: xs) H2
section
variable {X : Cx} {e : Expr} {es : List Expr} {te : TE} {t : TA} {pos : Pos}
theorem pa_nil : PA X [] tNil:=fun _ _ _ _ H Q I h=>Calls.spliced_nil ⟨[],H,I,.nil,h⟩
theorem pa_cons (ha : PE X e te) (hr : PA X es t) (hs : starEach (e :: es) X.env = (false,eval e X.env) :: starEach es X.env:=by rfl) : PA X (e :: es) (tCons te t):=by
 intro pos pins s σ H Q I h
 rw [hs]
 show wpAny _ _ (spliced ((false,eval e X.env) :: backTo pos (starEach es X.env))) _ _ s
 refine Calls.spliced_cons (thn (ha pins s σ H _ I h) fun u s1 ⟨x,H1,I1,r1,q1⟩=>?_)
 exact thn (hr pos pins s1 σ H1 _ I1 q1) fun us s2 ⟨xs,H2,I2,r2,q2⟩=>⟨x :: xs,H2,I2,.cons r1 r2,q2⟩
noncomputable def tTup (t : TA) : TE:=fun σ H Q=>t σ H fun xs H1=>xs.length<=sizeLine/\∀ p,H1 p = none->Q (.ref p) (upd H1 p (.tup xs))
noncomputable def tLst (t : TA) : TE:=fun σ H Q=>t σ H fun xs H1=>xs.length<=sizeLine/\∀ p,H1 p = none->Q (.ref p) (upd H1 p (.lst xs))
theorem pe_tup {x1} (h : PA X es t) : PE X (.Tuple es x1 pos) (tTup t):=by
 intro pins s σ H Q I hq
 refine wpAny_Tuple_spliced (thn (h pos pins s σ H _ I hq) fun us s1 ⟨xs,H1,I1,r,z,q⟩=>⟨by rw [<- r.length];exact z,?_⟩)
 have hf : H1 s1.heap.objs.size = none:=I1.hok.fresh (Nat.le_refl _)
 refine ⟨.ref s1.heap.objs.size,upd H1 s1.heap.objs.size (.tup xs),I1.laid (t':=s1.toks) (fun b u e=>Heap.get?_push_of_some _ e) (Nat.le_refl _) ?_,rfl,q _ hf⟩
 exact ⟨z,us,r,⟨_,Heap.get?_push_size _ rfl,rfl,_,rfl⟩⟩
theorem pe_lst (h : PA X es t) : PE X (.List es pos) (tLst t):=by
 intro pins s σ H Q I hq
 refine wpAny_List_spliced (thn (h pos pins s σ H _ I hq) fun us s1 ⟨xs,H1,I1,r,z,q⟩=>⟨by rw [<- r.length];exact z,?_⟩)
 have hf : H1 s1.heap.objs.size = none:=I1.hok.fresh (Nat.le_refl _)
 refine ⟨.ref s1.heap.objs.size,upd H1 s1.heap.objs.size (.lst xs),I1.laid (t':=s1.toks) (fun b u e=>Heap.get?_push_of_some _ e) (Nat.le_refl _) ?_,rfl,q _ hf⟩
 exact ⟨z,us,0,r,Heap.get?_push_size _ rfl⟩
end
noncomputable abbrev Sp:=List V->Hp->VK->XK->Prop
noncomputable abbrev CXT:=List Env->Hp->Shared->XK->Value->Shared->Prop
structure Env0 (P : Program) (w : World) (K : PySem.W.Frag) (mg : Str->Option Value) (base : Heap) (A : Around) (outer : List Env) (s : Shared) (H : Hp) : Prop where
 frames : A.frames = some outer
 mod : Mod K mg base
 bs : ∀ b o,base.get? b = some o->s.heap.get? b = some o/\H b = none
 bsz : base.objs.size<=s.heap.objs.size
 funs : s.heap.FunFrames base outer
 frf : ∀ b ∈ frs outer,H b = none
 hok : HOk P w H s.heap
 bare : AllBare s.gens
noncomputable def CE (outer : List Env) (P : Program) (w : World) (H : Hp) (s : Shared) (Q : VK) (u : Value) (s' : Shared) : Prop:=
 ∃ v H',s'.os = s.os/\AllBare s'.gens/\Un (frs outer) [] H H' s.heap s'.heap/\HOk P w H' s'.heap/\RelV v u/\Q v H'
noncomputable def CR (CX : CXT) (outer : List Env) (P : Program) (w : World) (H : Hp) (s : Shared) (Q : VK) (E : XK) (r : Result) (s' : Shared) : Prop:=
 match r with
 | .ok (.ret u)=>CE outer P w H s Q u s'
 | .ok _=>False
 | .error e=>CX outer H s E e s'
structure FnOk (P : Program) (w : World) (K : PySem.W.Frag) (mg : Str->Option Value) (base : Heap) (CX : CXT) (k : Nat) (f : Addr) (fd : FuncData) (ps : List Str) (sp : Sp) : Prop where
 len : ∀ vs H Q E,sp vs H Q E->vs.length = ps.length
 run : ∀ (A : Around) (outer : List Env) (s : Shared) (H : Hp) (args : Args) (us : List Value) (vs : List V) (Q : VK) (E : XK),Room k A->Env0 P w K mg base A outer s H->BindsTo s fd args (ps.zip us)->Vals vs us->sp vs H Q E->
  codeAny (model P w) A (.call (.ref f) args) (CR CX outer P w H s Q E) s
section
variable {X : Cx} {pins : List (Addr × Obj)} {σ : St} {H : Hp} {s s' : Shared}
theorem Inv.env0 (I : Inv X pins σ H s) : Env0 X.prog X.w X.K X.mg X.base X.A X.stack s H:=
 ⟨I.ok.frames,I.ok.mod,I.bs,Nat.le_trans I.ok.bsz I.sz,I.stack,I.stkFree,I.hok,I.bare⟩
theorem Inv.after {Q : VK} {u : Value} (I : Inv X pins σ H s) (h : CE X.stack X.prog X.w H s Q u s') : EP X pins σ Q u s':=by
 obtain ⟨v,H',os,bare,un,hok,r,q⟩:=h
 obtain ⟨hh,g,d,t,os'⟩:=s'
 obtain rfl : os' = s.os:=os
 exact ⟨v,H',I.call (h':=hh) (g':=g) (d':=d) (t':=t) (ch:=[]) un hok bare (fun b z=>absurd z (by simp)),r,q⟩
end
noncomputable def tCall (sp : Sp) (dvs : List V) (E : XK) (t : TA) : TE:=fun σ H Q=>t σ H fun vs H1=>sp (vs ++ dvs) H1 Q E
noncomputable def Binds (K : PySem.W.Frag) (fd : FuncData) (ps : List Str) (ds : List Value) : Prop:=
 ∀ (s : Shared) (us : List Value),K.In s.heap->(us ++ ds).length = ps.length->BindsTo s fd ⟨us,[]⟩ (ps.zip (us ++ ds))
theorem Binds.all {K : PySem.W.Frag} {fd : FuncData} {ps : List Str} (h : ∀ us : List Value,us.length = ps.length->bindArgs fd ⟨us,[]⟩ = pure (ps.zip us)) : Binds K fd ps []:=fun s us _ hl=>by
 rw [List.append_nil] at hl ⊢
 exact .of_eq (h us hl)
noncomputable def Passes (CX : CXT) (X : Cx) (E : XK) : Prop:=∀ (pins : List (Addr × Obj)) (σ : St) (H : Hp) (s : Shared) (e : Value) (s' : Shared),Inv X pins σ H s->CX X.stack H s E e s'->X.xe e s'
section
variable {X : Cx} {CX : CXT} {k : Nat} {f C : Addr} {fd : FuncData} {ps : List Str} {sp : Sp} {dvs : List V} {ds : List Value} {E : XK} {x m : Str} {p pos apos : Pos} {e o : Expr} {es : List Expr} {ta : TE} {t : TA}
theorem run_fn {pins : List (Addr × Obj)} {σ : St} {H : Hp} {s : Shared} {Q : VK} {us : List Value} {vs : List V} (F : FnOk X.prog X.w X.K X.mg X.base CX k f fd ps sp) (hr : Room k X.A) (hb : Binds X.K fd ps ds) (hd : Vals dvs ds) (hx : Passes CX X E)
  (I : Inv X pins σ H s) (r : Vals vs us) (h : sp (vs ++ dvs) H Q E) : wpAny (model X.prog X.w) X.A (call (.ref f) us) (EP X pins σ Q) X.xe s:=by
 have r2 : Vals (vs ++ dvs) (us ++ ds):=r.append hd
 have hl : (us ++ ds).length = ps.length:=by rw [<- r2.length];exact F.len _ _ _ _ h
 refine wpAny_call (codeAny_mono (F.run X.A X.stack s H ⟨us,[]⟩ (us ++ ds) (vs ++ dvs) Q E hr I.env0 (hb s us I.kIn hl) r2 h) fun r s' hq=>?_)
 cases r with
 | error e=>exact hx pins σ H s e s' I hq
 | ok fl=>
  cases fl with
  | ret u=>exact I.after hq
  | next=>exact False.elim hq
  | brk=>exact False.elim hq
  | cont=>exact False.elim hq
theorem pe_call (F : FnOk X.prog X.w X.K X.mg X.base CX k f fd ps sp) (hr : Room k X.A) (hg : Gl X x) (hm : X.mg x = some (.ref f)) (hk : PySem.W.keepIn X.K (.ref f) = true) (hb : Binds X.K fd ps ds) (hd : Vals dvs ds) (hx : Passes CX X E)
  (ha : PA X (e :: es) t) (hdb : (x == ("__debug__" : Str)) = false:=by decide) (he : starEach (e :: es) X.env = (false,eval e X.env) :: starEach es X.env:=by rfl) (hpl : (backTo pos (starEach es X.env)).any (·.1) = false:=by rfl) :
  PE X (.Call (.Name x p) (e :: es) [] pos) (tCall sp dvs E t):=by
 intro pins s σ H Q I h
 refine wpAny_Call_Name_kw (ld_glob I hg hm ?_ hdb)
 refine PySem.W.callWith_K (h₀:=X.base) I.ok.mod.kin hk (thn (ha pos pins s σ H _ I h) fun us s1 ⟨vs,H1,I1,r,q⟩=>⟨I1.kIn,?_⟩) he hpl
 exact run_fn F hr hb hd hx I1 r q
end
section
variable {X : Cx} {CX : CXT} {k : Nat} {f C : Addr} {fd : FuncData} {ps ks : List Str} {sp : Sp} {E : XK} {x m : Str} {p pos apos kpos : Pos} {e o : Expr} {es : List Expr} {kws : List Keyword} {te ta : TE} {t tk : TA} {nm : Option Str}
variable {g : List Value->List Value->List Value} {gV : List V->List V->List V}
end
structure FnScope (N P : List Str) (sc : Scope) : Prop where
 kind : sc.kind = .function
 co : sc.isCoroutine = false
 gen : sc.isGenerator = false
 nd : N.Nodup
 pre : N.take P.length = P
 par : ∀ x ∈ P,sc.names.lookup x = some .local\/sc.names.lookup x = some .cell
 nofree : ∀ y ∈ sc.names,y.2 ≠ .free
theorem bindL_out {kindOf : Str->Option NameKind} {x : Str} : ∀ {binds : List (Str × Value)} {m : Str->Option Value},(∀ v,(x,v) ∉ binds)->bindL kindOf binds m x = m x
 | [],_,_=>rfl
 | (n,v) :: r,m,h=>by
  unfold bindL
  rw [bindL_out fun w hw=>h w (List.mem_cons_of_mem _ hw)]
  split
  ·have : x ≠ n:=by rintro rfl;exact h v List.mem_cons_self
   simp [this]
  ·rfl
theorem bindC_out {kindOf : Str->Option NameKind} {x : Str} : ∀ {binds : List (Str × Value)} {m : Str->Option Value},(∀ v,(x,v) ∉ binds)->bindC kindOf binds m x = m x
 | [],_,_=>rfl
 | (n,v) :: r,m,h=>by
  unfold bindC
  rw [bindC_out fun w hw=>h w (List.mem_cons_of_mem _ hw)]
  split
  ·rfl
  ·have : x ≠ n:=by rintro rfl;exact h v List.mem_cons_self
   simp [this]
theorem bindL_get {kindOf : Str->Option NameKind} {x : Str} {v : Value} : ∀ {P : List Str} {vs : List Value} {i : Nat} {m : Str->Option Value},P.Nodup->P[i]? = some x->vs[i]? = some v->kindOf x = some .local->
  bindL kindOf (P.zip vs) m x = some v
 | [],_,_,_,_,h,_,_=>by simp at h
 | _ :: _,[],_,_,_,_,h,_=>by simp at h
 | p :: P,w :: vs,0,m,nd,h1,h2,hk=>by
  simp at h1 h2;subst h1;subst h2
  show bindL kindOf ((p,w) :: P.zip vs) m p = _
  unfold bindL
  rw [bindL_out fun v hv=>(List.nodup_cons.mp nd).1 (List.of_mem_zip hv).1,if_pos hk]
  simp
 | p :: P,w :: vs,i + 1,m,nd,h1,h2,hk=>by
  show bindL kindOf ((p,w) :: P.zip vs) m x = _
  unfold bindL
  exact bindL_get (i:=i) (List.nodup_cons.mp nd).2 (by simpa using h1) (by simpa using h2) hk
theorem bindC_get {kindOf : Str->Option NameKind} {x : Str} {v : Value} : ∀ {P : List Str} {vs : List Value} {i : Nat} {m : Str->Option Value},P.Nodup->P[i]? = some x->vs[i]? = some v->kindOf x ≠ some .local->
  bindC kindOf (P.zip vs) m x = some v
 | [],_,_,_,_,h,_,_=>by simp at h
 | _ :: _,[],_,_,_,_,h,_=>by simp at h
 | p :: P,w :: vs,0,m,nd,h1,h2,hk=>by
  simp at h1 h2;subst h1;subst h2
  show bindC kindOf ((p,w) :: P.zip vs) m p = _
  unfold bindC
  rw [bindC_out fun v hv=>(List.nodup_cons.mp nd).1 (List.of_mem_zip hv).1,if_neg hk]
  simp
 | p :: P,w :: vs,i + 1,m,nd,h1,h2,hk=>by
  show bindC kindOf ((p,w) :: P.zip vs) m x = _
  unfold bindC
  exact bindC_get (i:=i) (List.nodup_cons.mp nd).2 (by simpa using h1) (by simpa using h2) hk
noncomputable def start (N : List Str) (vs : List V) : St:=vs.map some ++ List.replicate (N.length - vs.length) none
noncomputable def cxOf (CX : CXT) (P : Program) (w : World) (K : PySem.W.Frag) (mg : Str->Option Value) (base : Heap) (N : List Str) (qual : Str) (scope : Scope) (f : Addr) (cd : Value) (A : Around) (outer : List Env) (s : Shared) (H : Hp) (E : XK) : Cx where
 prog:=P
 w:=w
 K:=K
 mg:=mg
 base:=base
 A:=A.deeper (envOfC qual scope s.heap.objs.size f cd)
 N:=N
 s₀:=s
 H₀:=H
 env:=envOfC qual scope s.heap.objs.size f cd
 outer:=outer
 stack:=envOfC qual scope s.heap.objs.size f cd :: outer
 ex:=[]
 calm:=true
 fn:=fun _=>true
 pn:=[]
 xe:=fun e s'=>wpAny (model P w) (A.deeper (envOfC qual scope s.heap.objs.size f cd)) (leaving (envOfC qual scope s.heap.objs.size f cd) e) (fun _ s''=>CX outer H s E e s'') (fun e' s''=>CX outer H s E e' s'') s'
theorem cell_has {sc : Scope} {n : Nat} {x : Str} (h : sc.names.lookup x = some .cell) : ∃ c,(cellsFrom n sc.names []).lookup x = some c:=by
 have q:=PySem.W.cellsFrom_some sc.names n [] (.inl h)
 exact Option.isSome_iff_exists.mp q
theorem inv_start {CX : CXT} {P : Program} {w : World} {K : PySem.W.Frag} {mg : Str->Option Value} {base : Heap} {N ps : List Str} {qual : Str} {scope : Scope} {f : Addr} {cd : Value} {A : Around} {outer : List Env} {s s1 : Shared} {H : Hp} {E : XK} {us : List Value} {vs : List V}
  (S : FnScope N ps scope) (hd : A.handled = none) (e0 : Env0 P w K mg base A outer s H) (hl : vs.length = ps.length) (r : Vals vs us)
  (x : InCallC s s.heap.objs.size (bindL (envOfC qual scope s.heap.objs.size f cd).kindOf (ps.zip us) fun _=>none) (cellsFrom (s.heap.objs.size + 1) scope.names []) (bindC (envOfC qual scope s.heap.objs.size f cd).kindOf (ps.zip us) fun _=>none) s1) :
  Inv (cxOf CX P w K mg base N qual scope f cd A outer s H E) [] (start N vs) H s1:=by
 have hpl : ps.length<=N.length:=by have:=congrArg List.length S.pre;rw [List.length_take] at this;lia
 obtain ⟨h1,tk,rfl,hk⟩:=x.done
 have noA : ∀ b : Addr,b ∉ (cxOf CX P w K mg base N qual scope f cd A outer s H E).ex:=fun b z=>absurd (show b ∈ ([] : List Addr) from z) (by simp)
 refine ⟨⟨e0.mod,S.kind,rfl,rfl,Nat.le_refl _,fun y z c h1 h2=>?_,fun y hy=>?_,fun y c _ h=>?_,fun _=>hd,Around.frames_deeper e0.frames,.inr ⟨rfl,rfl⟩,fun b z=>absurd z (noA b),e0.bs,e0.bsz,fun b _ _=>noA b,fun b z=>absurd z (noA b),e0.funs,e0.frf⟩,
  rfl,e0.bare,Un.kept hk,⟨_,x.toInCall.ns,fun i y v h1 h2 h3=>?_⟩,fun y c h=>⟨_,x.cell y c h⟩,e0.hok.fresh (Nat.le_refl _),fun y c h=>?_,fun p hp=>absurd (show p ∈ ([] : List (Addr × Obj)) from hp) (by simp),e0.hok.kept hk,?_⟩
 ·exact name_of_addr x.apart (PySem.mem_of_lookup h1) (PySem.mem_of_lookup h2)
 ·have hy : scope.names.lookup y = some .cell\/scope.names.lookup y = some .free:=hy
  rcases hy with hy | hy
  ·exact cell_has hy
  ·exact absurd rfl (S.nofree _ (PySem.mem_of_lookup hy))
 ·exact Nat.le_of_lt (x.above y c (PySem.mem_of_lookup h))
 ·have hi : i < vs.length:=by
   unfold start at h2
   by_cases hi : i < vs.length
   ·exact hi
   ·rw [List.getElem?_append_right (by simpa using hi)] at h2
    rw [List.getElem?_replicate] at h2
    split at h2 <;> cases h2
  have ha : vs[i]? = some v:=by
   unfold start at h2
   rw [List.getElem?_append_left (by simpa using hi),List.getElem?_map] at h2
   cases e : vs[i]? with
   | none=>rw [e] at h2;cases h2
   | some a=>rw [e] at h2;cases h2;rfl
  obtain ⟨u,hu,rv⟩:=r.get ha
  have hp : ps[i]? = some y:=by
   rw [<- S.pre,List.getElem?_take_of_lt (by lia)];exact h1
  have ndP : ps.Nodup:=by rw [<- S.pre];exact S.nd.sublist (List.take_sublist _ _)
  refine ⟨u,rv,?_⟩
  rcases S.par y (List.mem_of_getElem? hp) with k | k
  ·exact .inl ⟨k,bindL_get ndP hp hu k⟩
  ·obtain ⟨c,e⟩:=cell_has (n:=s.heap.objs.size + 1) k
   refine .inr ⟨.inl k,c,e,?_⟩
   have q:=x.cell y c e
   rw [bindC_get ndP hp hu (by show scope.names.lookup y ≠ _;rw [k];decide)] at q
   exact q
 ·exact e0.hok.fresh (Nat.le_of_lt (x.above y c (PySem.mem_of_lookup h)))
 ·unfold start
  show _ = N.length
  rw [List.length_append,List.length_map,List.length_replicate]
  lia
theorem fn_of {CX : CXT} {P : Program} {w : World} {K : PySem.W.Frag} {mg : Str->Option Value} {base : Heap} {k : Nat} {f : Addr} {name qual : Str} {params : Arguments} {body : List Stmt} {scope : Scope} {dV kV doc pm cdv ct oc : Value} {an od : Option Addr}
  {osl : Array (Option Value)} {N ps : List Str} {sp : Sp} (lk : K.lookup f = some ⟨oc,od,.func (PySem.W.fnOf name qual params body scope dV kV doc pm an cdv ct),osl⟩) (hcd : PySem.W.codeIn K cdv qual = true) (S : FnScope N ps scope)
  (len : ∀ vs H Q E,sp vs H Q E->vs.length = ps.length)
  (hbody : ∀ (A : Around) (outer : List Env) (s : Shared) (H : Hp) (vs : List V) (Q : VK) (E : XK),Room k (A.deeper (envOfC qual scope s.heap.objs.size f cdv))->sp vs H Q E->
   ∃ t,PSs (cxOf CX P w K mg base N qual scope f cdv A outer s H E) body t/\t { nx:=fun _ H'=>Q .non H',rt:=Q } (start N vs) H) :
  FnOk P w K mg base CX (k + 1) f (PySem.W.fnOf name qual params body scope dV kV doc pm an cdv ct) ps sp:=by
 refine ⟨len,fun A outer s H args us vs Q E hr e0 hb r hsp=>?_⟩
 have hl:=len _ _ _ _ hsp
 have KX : K.In s.heap:=e0.mod.kin.keeps fun b o e=>(e0.bs b o e).1
 have lim : s.heap.NoLimit:=e0.mod.nolimit.keeps fun b o e=>(e0.bs b o e).1
 have hkind : ∀ y ∈ ps.zip us,scope.names.lookup y.1 = some .local\/(scope.names.lookup y.1 = some .cell/\((cellsFrom (s.heap.objs.size + 1) scope.names []).lookup y.1).isSome = true):=fun ⟨n,v⟩ hy=>by
  rcases S.par n (List.of_mem_zip hy).1 with q | q
  ·exact .inl q
  ·exact .inr ⟨q,PySem.W.cellsFrom_some _ _ _ (.inl q)⟩
 refine codeAny_call_function hr.depth (KX _ _ lk) rfl S.co S.gen rfl (PySem.W.codeRec_of KX hcd) (hb _ _ _ _ ?_)
 refine wpAny_newFunctionEnv_cells S.kind hkind fun env he s1 x=>?_
 subst he
 refine ⟨lim.keeps x.toInCall.keep,codeAny_func ?_⟩
 obtain ⟨t,ht,hq⟩:=hbody A outer s H vs Q E (hr.deeper _) hsp
 have I : Inv (cxOf CX P w K mg base N qual scope f cdv A outer s H E) [] (start N vs) H s1:=inv_start S hr.hd e0 hl r x
 refine wpAny_mono (ht [] s1 (start N vs) H _ I hq) (fun fl s' hs=>?_) fun e s' hs=>hs
 have fin : ∀ {σ' : St} {H' : Hp} {v : V} {u : Value},Inv (cxOf CX P w K mg base N qual scope f cdv A outer s H E) [] σ' H' s'->RelV v u->Q v H'->CE outer P w H s Q u s':=
  fun {σ' H' v u} J rv q=>⟨v,H',J.os,J.bare,J.base,J.hok,rv,q⟩
 cases fl with
 | ret u=>
  obtain ⟨v,σ',H',J,rv,q⟩:=hs
  exact fin J rv q
 | next=>
  obtain ⟨σ',H',J,q⟩:=hs
  exact fin (v:=V.non) (u:=Value.none) J rfl q
 | brk=>
  obtain ⟨_,_,_,q⟩:=hs
  exact False.elim q
 | cont=>
  obtain ⟨_,_,_,q⟩:=hs
  exact False.elim q
end L2
namespace L2
open PySem PySem.Spec PyProof.Rows
section
variable {X : Cx} {x : Str} {p pos : Pos} {e : Expr} {es : List Expr} {t : TA} {id T : String} {r : List V->Hp->VK->Prop}
noncomputable def tCB (r : List V->Hp->VK->Prop) (t : TA) : TE:=fun σ H Q=>t σ H fun vs H1=>r vs H1 Q
theorem pe_callB (hc : CallR X (.builtin id) r) (hg : Gl X x) (hm : X.mg x = none) (hv : bootBuiltins x = some (.builtin id)) (ha : PA X (e :: es) t) (hn : x ≠ "__name__":=by decide) (hdb : (x == ("__debug__" : Str)) = false:=by decide)
  (he : starEach (e :: es) X.env = (false,eval e X.env) :: starEach es X.env:=by rfl) (hpl : (backTo pos (starEach es X.env)).any (·.1) = false:=by rfl) : PE X (.Call (.Name x p) (e :: es) [] pos) (tCB r t):=by
 intro pins s σ H Q I h
 refine wpAny_Call_Name_kw (ld_blt I hg hm hv ?_ hn hdb)
 exact PyProof.Rows.callWith_builtin1 (thn (ha pos pins s σ H _ I h) fun us s1 ⟨vs,H1,I1,r1,q1⟩=>hc pins s1 σ H1 vs us Q I1 r1 q1) he hpl
theorem pe_callTy (hc : CallR X (.type T) r) (hg : Gl X x) (hm : X.mg x = none) (hv : bootBuiltins x = some (.type T)) (ha : PA X (e :: es) t) (hn : x ≠ "__name__":=by decide) (hdb : (x == ("__debug__" : Str)) = false:=by decide)
  (he : starEach (e :: es) X.env = (false,eval e X.env) :: starEach es X.env:=by rfl) (hpl : (backTo pos (starEach es X.env)).any (·.1) = false:=by rfl) : PE X (.Call (.Name x p) (e :: es) [] pos) (tCB r t):=by
 intro pins s σ H Q I h
 refine wpAny_Call_Name_kw (ld_blt I hg hm hv ?_ hn hdb)
 exact PyProof.Rows.callWith_type1 (thn (ha pos pins s σ H _ I h) fun us s1 ⟨vs,H1,I1,r1,q1⟩=>hc pins s1 σ H1 vs us Q I1 r1 q1) he hpl
end
end L2
namespace HT
open PySem PyProof.Rows
section
open PySem.SeqAt
open PySem.AutoSeq1 (wpAny_loadPart')
open PySem.MeetsSeq PySem.MeetsSeq2 PySem.MeetsSeq3
end
section
variable {prog : Program} {w : World} {A : Around} {E : Value->Shared->Prop} {s : Shared}
noncomputable def sIx (n d : Nat) : Option Int->Nat
 | none=>d
 | some v=>if v < 0 then (v + (n : Int)).toNat else min v.toNat n
theorem sIx_le (n d : Nat) (hd : d<=n) (o : Option Int) : sIx n d o<=n:=by
 cases o with
 | none=>exact hd
 | some v=>
  show (if v < 0 then (v + (n : Int)).toNat else min v.toNat n)<=n
  by_cases hv : v < 0
  ·rw [if_pos hv];lia
  ·rw [if_neg hv];exact Nat.min_le_right _ _
theorem clip_eq (v : Int) (n d : Nat) : (if v < 0 then max (v + (n : Int)) 0 else min v (n : Int)) = ((sIx n d (some v) : Nat) : Int):=by
 show (if v < 0 then max (v + (n : Int)) 0 else min v (n : Int)) = (((if v < 0 then (v + (n : Int)).toNat else min v.toNat n) : Nat) : Int)
 by_cases hv : v < 0
 ·simp only [if_pos hv];lia
 ·simp only [if_neg hv];lia
theorem adjust_gen (lo hi : Option Int) (n : Nat) : Builtin.Slice.sliceAdjust lo hi 1 (n : Int) = (((sIx n 0 lo : Nat) : Int),((sIx n n hi : Nat) : Int)):=by
 have h1 : ¬ ((1 : Int) < 0):=by lia
 unfold Builtin.Slice.sliceAdjust
 simp only [h1,if_false]
 refine Prod.ext ?_ ?_
 ·cases lo with
  | none=>rfl
  | some v=>exact clip_eq v n 0
 ·cases hi with
  | none=>rfl
  | some v=>exact clip_eq v n n
theorem places_gen (i j : Nat) : Builtin.Slice.slicePlaces (i : Int) (j : Int) 1 = j - i:=by
 unfold Builtin.Slice.slicePlaces
 have h1 : (1 : Int) > 0:=by lia
 simp only [h1,if_true,Int.ediv_one]
 split <;> lia
theorem slicePart_ {v : Value} {o : Option Int} {Q : Option Int->Shared->Prop} (p : IsPart v o) (h : Q o s) : wpAny (model prog w) A (Builtin.Slice.slicePartIndex v) Q E s:=by
 cases p with
 | none=>exact slicePart_none h
 | int i t=>exact slicePart_int h
theorem sliceApplied_gen {sl : Addr} {vl vu : Value} {lo hi : Option Int} {n : Nat} {Q : Int × Int × Nat->Shared->Prop} (hs : s.heap.IsSliceOf sl vl vu .none) (pl : IsPart vl lo) (pu : IsPart vu hi)
  (h : Q (((sIx n 0 lo : Nat) : Int),1,sIx n n hi - sIx n 0 lo) s) : wpAny (model prog w) A (Builtin.Slice.sliceApplied (.ref sl) (pure (n : Int))) Q E s:=by
 obtain ⟨os,hos,hcs,hds⟩:=id hs
 unfold Builtin.Slice.sliceApplied Builtin.Slice.sliceFields
 refine wpAny_bind (wpAny_bind (wpAny_field hos hds (x:=vl) rfl (wpAny_bind (wpAny_field hos hds (x:=vu) rfl (wpAny_bind (wpAny_field hos hds (x:=.none) rfl (wpAny_pure ?_)))))))
 refine wpAny_bind (slicePart_none ?_)
 show wpAny _ _ (if ((1 : Int) == 0) = true then _ else _) _ _ s
 rw [if_neg (by decide)]
 refine wpAny_bind (slicePart_ pl (wpAny_bind (slicePart_ pu (wpAny_bind (wpAny_pure ?_)))))
 show wpAny _ _ (match Builtin.Slice.sliceAdjust lo hi 1 (n : Int) with | (lo,hi)=>pure (lo,(1 : Int),Builtin.Slice.slicePlaces lo hi 1)) _ _ s
 rw [adjust_gen lo hi n]
 show wpAny _ _ (pure (((sIx n 0 lo : Nat) : Int),(1 : Int),Builtin.Slice.slicePlaces ((sIx n 0 lo : Nat) : Int) ((sIx n n hi : Nat) : Int) 1)) _ _ s
 rw [places_gen]
 exact wpAny_pure h
theorem pick_gen (xs : Array Value) (i k : Nat) : ((List.range k).filterMap fun (m : Nat)=>xs[((i : Int) + (m : Int) * 1).toNat]?).toArray = ((xs.toList.drop i).take k).toArray:=by
 have e : (fun (m : Nat)=>xs[((i : Int) + (m : Int) * 1).toNat]?) = fun m=>xs[i + m]?:=by
  funext m
  have : ((i : Int) + (m : Int) * 1).toNat = i + m:=by lia
  rw [this]
 rw [e]
 have:=pick_run xs i k
 rw [List.filterMap_map] at this
 have e2 : ((fun x=>xs[x]?) ∘ fun x=>i + x) = fun m=>xs[i + m]?:=rfl
 rw [e2] at this
 rw [this]
theorem getItem_tuple_cut {t sl : Addr} {items : Array Value} {vl vu : Value} {lo hi : Option Int} {Q : Value->Shared->Prop} (ht : IsTup s.heap t items) (hs : s.heap.IsSliceOf sl vl vu .none) (pl : IsPart vl lo) (pu : IsPart vu hi)
  (hw : ¬ (sIx items.size 0 lo = 0/\sIx items.size items.size hi = items.size))
  (h : Q (.ref s.heap.objs.size) { s with heap:=s.heap.push { cls:=.type "tuple",data:=.seq ((items.toList.drop (sIx items.size 0 lo)).take (sIx items.size items.size hi - sIx items.size 0 lo)).toArray } })
  (hsz : items.size<=sizeLine) : wpAny (model prog w) A (getItem (.ref t) (.ref sl)) Q E s:=by
 have htake : sizeOk (.seq ((items.toList.drop (sIx items.size 0 lo)).take (sIx items.size items.size hi - sIx items.size 0 lo)).toArray):=by
  show ((items.toList.drop (sIx items.size 0 lo)).take (sIx items.size items.size hi - sIx items.size 0 lo)).toArray.size<=sizeLine
  rw [List.size_toArray,List.length_take,List.length_drop,Array.length_toList]
  lia
 have hj : sIx items.size items.size hi<=items.size:=sIx_le _ _ (Nat.le_refl _) hi
 obtain ⟨os,hos,hcs,hds⟩:=id hs
 have hTs : s.TypeIs (.ref sl) "slice":=⟨os,hos,hcs⟩
 unfold getItem
 try with_reducible refine wpAny_holding ?_
 first | refine wpAny_bind (wpAny_pure ?_) | skip
 refine wpAny_bind (wpAny_sequenceKey ht.typeIs (by decide) ?_)
 refine wpAny_bind (wpAny_callSpecial?_slot (name:=Str.ofString "__getitem__") ht.typeIs PyProof.Rows.slot_tuple_getitem
  (wpAny_call_entry PyProof.Rows.slot_tuple_getitem ht.typeIs entry_tuple_getitem ?_ (args_tuple_getitem _ _)))
 show wpAny _ _ (Builtin.Tuple.tupleItemsOf (.ref t) >>= _) _ _ s
 refine wpAny_bind (tupleItemsOf_ ht ?_)
 refine wpAny_bind (wpAny_typeOf hTs ?_)
 rw [if_pos (by decide)]
 refine wpAny_bind (sliceApplied_gen hs pl pu ?_)
 have hno : ¬ ((((sIx items.size 0 lo : Nat) : Int) == 0 && (1 : Int) == 1 && (sIx items.size items.size hi - sIx items.size 0 lo) == items.size) = true):=by
  intro q
  rw [Bool.and_eq_true,Bool.and_eq_true] at q
  have q1 : ((sIx items.size 0 lo : Nat) : Int) = 0:=eq_of_beq q.1.1
  have q2 : sIx items.size items.size hi - sIx items.size 0 lo = items.size:=eq_of_beq q.2
  exact hw ⟨by lia,by lia⟩
 show wpAny _ _ (if (((sIx items.size 0 lo : Nat) : Int) == 0 && (1 : Int) == 1 && (sIx items.size items.size hi - sIx items.size 0 lo) == items.size) = true then _ else _) _ _ s
 rw [if_neg hno,pick_gen]
 first
  | exact wpAny_bind (m:=Builtin.Tuple.tupleExact _) (wpAny_newObj_type (wpAny_pure ⟨_,rfl,wpAny_pure h⟩) htake)
  | exact wpAny_bind (m:=Builtin.Tuple.tupleExact _) (wpAny_newObj_type (wpAny_bind (wpAny_pure (wpAny_pure ⟨_,rfl,wpAny_pure h⟩))) htake)
  | exact wpAny_bind (wpAny_bind (m:=Builtin.Tuple.tupleExact _) (wpAny_newObj_type (wpAny_pure (wpAny_pure ⟨_,rfl,wpAny_pure h⟩)) htake))
  | exact wpAny_bind (wpAny_bind (m:=Builtin.Tuple.tupleExact _) (wpAny_newObj_type (wpAny_pure ⟨_,rfl,wpAny_pure h⟩) htake))
end
end HT
namespace L2
open PySem PySem.Spec PyProof.Rows
noncomputable abbrev TO:=St->Hp->(Option Int->Hp->Prop)->Prop
noncomputable def PO (X : Cx) (e : Option Expr) (t : TO) : Prop:=
 ∀ (pins : List (Addr × Obj)) (s : Shared) (σ : St) (H : Hp) (Q : Option Int->Hp->Prop),Inv X pins σ H s->t σ H Q->
  wpAny (model X.prog X.w) X.A (evalPart e X.env) (fun u s'=>∃ o H',Inv X pins σ H' s'/\IsPart u o/\Q o H') X.xe s
noncomputable def tNoPart : TO:=fun _ H Q=>Q none H
noncomputable def tPart (t : TE) : TO:=fun σ H Q=>t σ H fun x H1=>∃ i,x = .int i/\Q (some i) H1
section
variable {X : Cx} {e : Expr} {te : TE} {lo hi : Option Expr} {tl th : TO} {pos p2 : Pos}
theorem po_none : PO X none tNoPart:=by
 intro pins s σ H Q I h
 rw [evalPart_none]
 exact wpAny_pure ⟨none,H,I,.none,h⟩
theorem po_some (h : PE X e te) : PO X (some e) (tPart te):=by
 intro pins s σ H Q I hw
 rw [evalPart_some]
 refine thn (h pins s σ H _ I hw) fun u s1 ⟨x,H1,I1,r1,q1⟩=>?_
 obtain ⟨i,rfl,q⟩:=q1
 obtain ⟨t,rfl⟩:=r1
 exact ⟨some i,H1,I1,.int i t,q⟩
noncomputable def SlR (X : Cx) (r : V->Option Int->Option Int->Hp->VK->Prop) : Prop:=
 ∀ (pins : List (Addr × Obj)) (s : Shared) (σ : St) (H : Hp) (x : V) (v vl vu : Value) (lo hi : Option Int) (sl : Addr) (Q : VK),Inv X pins σ H s->RelV x v->s.heap.IsSliceOf sl vl vu .none->IsPart vl lo->IsPart vu hi->r x lo hi H Q->
  ∃ T id,typeLookup (.type T) "__getitem__" = pure (some (.builtin id))/\s.TypeIs v T/\wpAny (model X.prog X.w) X.A (getItem v (.ref sl)) (EP X pins σ Q) X.xe s
noncomputable def tSl (r : V->Option Int->Option Int->Hp->VK->Prop) (te : TE) (tl th : TO) : TE:=fun σ H Q=>te σ H fun x H1=>tl σ H1 fun l H2=>th σ H2 fun u H3=>r x l u H3 Q
theorem pe_slice {r : V->Option Int->Option Int->Hp->VK->Prop} (hr : SlR X r) (he : PE X e te) (hl : PO X lo tl) (hu : PO X hi th) : PE X (.Subscript e (.Slice lo hi none p2) pos) (tSl r te tl th):=by
 intro pins s σ H Q I h
 refine Subscript_ (thn (he pins s σ H _ I h) fun v s1 ⟨x,H1,I1,r1,q1⟩=>?_)
 refine wpAny_Slice (thn (hl pins s1 σ H1 _ I1 q1) fun vl s2 ⟨l,H2,I2,pl,q2⟩=>thn (hu pins s2 σ H2 _ I2 q2) fun vu s3 ⟨u,H3,I3,pu,q3⟩=>?_)
 rw [evalPart_none]
 refine wpAny_pure ?_
 have I4 : Inv X pins σ H3 { s3 with heap:=s3.heap.push { cls:=.type "slice",data:=.fields #[vl,vu,.none] } }:=I3.kept (t':=s3.toks) fun b ob q=>Heap.get?_push_of_some _ q
 obtain ⟨T,id,hT,ht,hg⟩:=hr pins { s3 with heap:=s3.heap.push { cls:=.type "slice",data:=.fields #[vl,vu,.none] } } σ H3 x v vl vu l u s3.heap.objs.size Q I4 r1 (Heap.IsSliceOf.new ..) pl pu q3
 show wpAny (model X.prog X.w) X.A (subscriptTail e (.Slice lo hi none p2) v (.ref s3.heap.objs.size)) (EP X pins σ Q) X.xe { s3 with heap:=s3.heap.push { cls:=.type "slice",data:=.fields #[vl,vu,.none] } }
 exact tail_any (ops:=[.ref s3.heap.objs.size,v]) ht hT hg (by with_unfolding_all rfl)
noncomputable def cutV (xs : List V) (lo hi : Option Int) : List V:=(xs.drop (HT.sIx xs.length 0 lo)).take (HT.sIx xs.length xs.length hi - HT.sIx xs.length 0 lo)
theorem cutV_length (xs : List V) (lo hi : Option Int) : (cutV xs lo hi).length<=xs.length:=by
 unfold cutV
 rw [List.length_take,List.length_drop]
 lia
noncomputable def rSlT (K : PySem.W.Frag) : V->Option Int->Option Int->Hp->VK->Prop:=fun x lo hi H Q=>∃ a xs,x = .ref a/\SqT K H a xs/\
 ¬ (HT.sIx xs.length 0 lo = 0/\HT.sIx xs.length xs.length hi = xs.length)/\∀ p,H p = none->Q (.ref p) (upd H p (.tup (cutV xs lo hi)))
theorem sl_tup : SlR X (rSlT X.K):=by
 intro pins s σ H x v vl vu lo hi sl Q I rx hs pl pu h
 obtain ⟨a,xs,rfl,hx,hw,q⟩:=h
 cases rx
 obtain ⟨its,r,ht,hz⟩:=I.tuple hx
 have hlen : its.toArray.size = xs.length:=by rw [List.size_toArray];exact r.length.symm
 refine ⟨"tuple",_,PyProof.Rows.slot_tuple_getitem.lookup,ht.typeIs,?_⟩
 refine HT.getItem_tuple_cut ht hs pl pu (by rw [hlen];exact hw) ?_ (by rw [hlen];exact hz)
 rw [hlen]
 refine ⟨.ref s.heap.objs.size,_,I.laid (t':=s.toks) (o:=.tup (cutV xs lo hi)) (fun b ob q=>Heap.get?_push_of_some _ q) (Nat.le_refl _) ?_,rfl,q _ (I.hok.fresh (Nat.le_refl _))⟩
 exact ⟨Nat.le_trans (cutV_length xs lo hi) hz,_,(r.drop (HT.sIx xs.length 0 lo)).take (HT.sIx xs.length xs.length hi - HT.sIx xs.length 0 lo),IsTupN.new _ _⟩
end
end L2
namespace L2
open PySem PySem.Spec PyProof.Rows
noncomputable def ixN (n : Nat) (i : Int) : Option Nat:=if 0<=i then (if i < n then some i.toNat else none) else if -(n : Int)<=i then some (i + n).toNat else none
noncomputable def atI {α : Type} (xs : List α) (i : Int) : Option α:=(ixN xs.length i).bind fun j=>xs[j]?
theorem ixN_seq {n : Nat} {i : Int} {j : Nat} (h : ixN n i = some j) : seqIndex? i n = some j/\j < n/\-(n : Int)<=i/\i < n:=by
 unfold ixN at h
 by_cases h0 : 0<=i
 ·rw [if_pos h0] at h
  by_cases h1 : i < n
  ·rw [if_pos h1] at h
   have e : i.toNat = j:=Option.some.inj h
   exact ⟨by rw [seqIndex_of h0 h1,e],by lia,by lia,h1⟩
  ·rw [if_neg h1] at h;cases h
 ·rw [if_neg h0] at h
  by_cases h1 : -(n : Int)<=i
  ·rw [if_pos h1] at h
   have e : (i + n).toNat = j:=Option.some.inj h
   exact ⟨by rw [seqIndex_neg (by lia) h1,e],by lia,h1,by lia⟩
  ·rw [if_neg h1] at h;cases h
theorem atI_get {α : Type} {xs : List α} {i : Int} {v : α} (h : atI xs i = some v) : ∃ j,seqIndex? i xs.length = some j/\xs[j]? = some v/\j < xs.length/\-(xs.length : Int)<=i/\i < xs.length:=by
 unfold atI at h
 cases e : ixN xs.length i with
 | none=>rw [e] at h;cases h
 | some j=>
  rw [e] at h
  obtain ⟨h1,h2,h3,h4⟩:=ixN_seq e
  exact ⟨j,h1,h,h2,h3,h4⟩
noncomputable def PlainIx (b : Expr) : Prop:=∀ o i,subscripted b false o i = operate [o,i] (getItem o i)
noncomputable def IxR (X : Cx) (r : R2) : Prop:=
 ∀ (value slice : Expr) (pins : List (Addr × Obj)) (s : Shared) (σ : St) (H : Hp) (x y : V) (v u : Value) (Q : VK),Inv X pins σ H s->RelV x v->RelV y u->r x y H Q->
  subscripted slice false v u = operate [v,u] (getItem v u)->wpAny (model X.prog X.w) X.A (subscriptTail value slice v u) (EP X pins σ Q) X.xe s
noncomputable def MtR (X : Cx) (id : String) (r : V->List V->Hp->VK->Prop) : Prop:=
 ∀ (pins : List (Addr × Obj)) (s : Shared) (σ : St) (H : Hp) (x : V) (xs : List V) (v : Value) (us : List Value) (Q : VK),Inv X pins σ H s->RelV x v->Vals xs us->r x xs H Q->
  wpAny (model X.prog X.w) X.A (call (.builtin id) (v :: us)) (EP X pins σ Q) X.xe s
section
variable {X : Cx} {a b : Expr} {ta tb : TE} {pos : Pos}
theorem IxR.or {r r' : R2} (h : IxR X r) (h' : IxR X r') : IxR X (fun x y H Q=>r x y H Q\/r' x y H Q):=by
 intro value slice pins s σ H x y v u Q I rx ry q hs
 rcases q with q | q
 ·exact h value slice pins s σ H x y v u Q I rx ry q hs
 ·exact h' value slice pins s σ H x y v u Q I rx ry q hs
theorem pe_ix {r : R2} (hr : IxR X r) (ha : PE X a ta) (hb : PE X b tb) (hs : PlainIx b) : PE X (.Subscript a b pos) (tOp r ta tb):=by
 intro pins s σ H Q I h
 exact Subscript_ (binT ha hb I h fun v u s2 x y H2 I2 rx ry q=>hr a b pins s2 σ H2 x y v u Q I2 rx ry q (hs _ _))
noncomputable def rIxL (K : PySem.W.Frag) : R2:=fun x y H Q=>∃ p xs i v,x = .ref p/\y = .int i/\SqL K H p xs/\atI xs i = some v/\Q v H
noncomputable def rIxT (K : PySem.W.Frag) : R2:=fun x y H Q=>∃ p xs i v,x = .ref p/\y = .int i/\SqT K H p xs/\atI xs i = some v/\Q v H
noncomputable def rIxS : R2:=fun x y H Q=>∃ z i c,x = .str z/\y = .int i/\z.length<=sizeLine/\atI z.cps.toList i = some c/\Q (.str ⟨#[c]⟩) H
theorem ix_list : IxR X (rIxL X.K):=by
 intro value slice pins s σ H x y v u Q I rx ry h hs
 obtain ⟨p,xs,i,z,rfl,rfl,hq,he,q⟩:=h
 cases rx
 obtain ⟨t,rfl⟩:=ry
 obtain ⟨its,r,pl,hz⟩:=I.list hq
 obtain ⟨j,h1,h2,h3,h4,h5⟩:=atI_get he
 obtain ⟨w,ew,rw'⟩:=r.get h2
 have hl:=r.length
 have hn:=line63
 have fin : EP X pins σ Q w s:=⟨z,H,I,rw',q⟩
 by_cases h0 : 0<=i
 ·have hj : i.toNat = j:=by
   rw [seqIndex_of h0 h5] at h1
   exact Option.some.inj h1
  exact item_listR pl.isList h0 (by lia) (by rw [hj];simpa using ew) fin hs
 ·have hj : (i + (its.toArray.size : Int)).toNat = j:=by
   rw [seqIndex_neg (by lia) h4] at h1
   rw [List.size_toArray,<- hl]
   exact Option.some.inj h1
  exact subscriptTail_builtinR (x:=w) pl.isList.typeIs slot_list_getitem.lookup
   (wpAny_getItem_list_neg (Q:=fun r s'=>r = w/\EP X pins σ Q r s') pl.isList (by lia) (by rw [List.size_toArray] <;> lia) (by lia) (by rw [hj];simpa using ew) ⟨rfl,fin⟩) hs
theorem ix_tup : IxR X (rIxT X.K):=by
 intro value slice pins s σ H x y v u Q I rx ry h hs
 obtain ⟨p,xs,i,z,rfl,rfl,hq,he,q⟩:=h
 cases rx
 obtain ⟨t,rfl⟩:=ry
 obtain ⟨its,r,pl,hz⟩:=I.tuple hq
 obtain ⟨j,h1,h2,h3,h4,h5⟩:=atI_get he
 obtain ⟨w,ew,rw'⟩:=r.get h2
 have hl:=r.length
 have hn:=line63
 have fin : EP X pins σ Q w s:=⟨z,H,I,rw',q⟩
 exact subscriptTail_builtinR (x:=w) pl.typeIs slot_tuple_getitem.lookup
  (getItem_tuple (j:=j) (Q:=fun r s'=>r = w/\EP X pins σ Q r s') pl (by lia) (by lia) (by rw [List.size_toArray,<- hl];exact h1) (by simpa using ew) ⟨rfl,fin⟩) hs
theorem ix_str : IxR X rIxS:=by
 intro value slice pins s σ H x y v u Q I rx ry h hs
 obtain ⟨z,i,c,rfl,rfl,hz,he,q⟩:=h
 obtain ⟨t,rfl⟩:=rx
 obtain ⟨t',rfl⟩:=ry
 obtain ⟨j,h1,h2,h3,h4,h5⟩:=atI_get he
 have hl : z.cps.toList.length = z.length:=by simp [Str.length]
 rw [hl] at h1 h4 h5
 have hn:=line63
 exact tail_any (typeIs_str s z t) slot_str_getitem.lookup (getItem_str (c:=c) (by
  have e1 : decide (i < -(2 ^ 63 : Int)) = false:=decide_eq_false (by lia)
  have e2 : decide (i >= 2 ^ 63) = false:=decide_eq_false (by lia)
  rw [e1,e2,Bool.or_false]) (by rw [h1];simpa using h2) ⟨.str ⟨#[c]⟩,H,I.tok _,⟨_,rfl⟩,q⟩) hs
theorem slice_bounds (lo hi : Option Int) (n : Nat) : (sliceBounds lo hi none n).1 = ((HT.sIx n 0 lo : Nat) : Int)/\(sliceBounds lo hi none n).2.1 = ((HT.sIx n n hi : Nat) : Int)/\(sliceBounds lo hi none n).2.2 = 1:=by
 refine ⟨?_,?_,rfl⟩
 ·cases lo with
  | none=>simp [sliceBounds,HT.sIx]
  | some i=>
   simp only [sliceBounds,HT.sIx,Option.getD_none,show (1 : Int) > 0 by decide,if_true]
   by_cases h : i < 0
   ·simp only [h,if_true] <;> lia
   ·simp only [h,if_false] <;> lia
 ·cases hi with
  | none=>simp [sliceBounds,HT.sIx]
  | some i=>
   simp only [sliceBounds,HT.sIx,Option.getD_none,show (1 : Int) > 0 by decide,if_true]
   by_cases h : i < 0
   ·simp only [h,if_true] <;> lia
   ·simp only [h,if_false] <;> lia
theorem slicePick_cut (its : List Value) (lo hi : Option Int) : slicePick its.toArray lo hi none = ((its.drop (HT.sIx its.length 0 lo)).take (HT.sIx its.length its.length hi - HT.sIx its.length 0 lo)).toArray:=by
 obtain ⟨h1,h2,h3⟩:=slice_bounds lo hi its.toArray.size
 unfold slicePick
 rw [h1,h2,h3]
 simp only [sliceRange_one,pick_run,List.size_toArray] <;> rfl
noncomputable def rSlL (K : PySem.W.Frag) : V->Option Int->Option Int->Hp->VK->Prop:=fun x lo hi H Q=>∃ a xs,x = .ref a/\SqL K H a xs/\∀ p,H p = none->Q (.ref p) (upd H p (.lst (cutV xs lo hi)))
theorem sl_list : SlR X (rSlL X.K):=by
 intro pins s σ H x v vl vu lo hi sl Q I rx hs pl pu h
 obtain ⟨a,xs,rfl,hx,q⟩:=h
 cases rx
 obtain ⟨its,r,ht,hz⟩:=I.list hx
 have hlen:=r.length
 refine ⟨"list",_,slot_list_getitem.lookup,ht.isList.typeIs,?_⟩
 refine wpAny_getItem_list_slice ht.isList hs pl pu .none (by simp) ?_ (by rw [List.size_toArray] <;> lia)
 rw [slicePick_cut,<- hlen]
 refine ⟨.ref s.heap.objs.size,_,I.laid (t':=s.toks) (o:=.lst (cutV xs lo hi)) (fun b ob q=>Heap.get?_push_of_some _ q) (Nat.le_refl _) ?_,rfl,q _ (I.hok.fresh (Nat.le_refl _))⟩
 exact ⟨Nat.le_trans (cutV_length xs lo hi) hz,_,0,(r.drop (HT.sIx xs.length 0 lo)).take (HT.sIx xs.length xs.length hi - HT.sIx xs.length 0 lo),Heap.get?_push_size _ rfl⟩
theorem call_len_seq : CallR X (.builtin "len") (fun xs H Q=>∃ p ys,xs = [.ref p]/\(SqL X.K H p ys\/SqT X.K H p ys)/\Q (.int ys.length) H):=by
 intro pins s σ H xs us Q I r h
 obtain ⟨p,ys,rfl,hq,q⟩:=h
 obtain ⟨u,rfl,rx⟩:=vals1 r
 cases rx
 have hn:=line63
 rcases hq with hq | hq
 ·obtain ⟨its,r',pl,hz⟩:=I.list hq
  have hlen:=r'.length
  exact Calls.call_len_list pl.isList (by simp only [List.size_toArray] <;> lia) ⟨.int ys.length,H,I.tok _,⟨s.toks + 1,by rw [List.size_toArray,hlen]⟩,q⟩
 ·obtain ⟨its,r',pl,hz⟩:=I.tuple hq
  have hlen:=r'.length
  exact len_tuple pl (by simp only [List.size_toArray] <;> lia) ⟨.int ys.length,H,I.tok _,⟨s.toks + 1,by rw [List.size_toArray,hlen]⟩,q⟩
theorem call_len_str : CallR X (.builtin "len") (fun xs H Q=>∃ z,xs = [.str z]/\z.length<=sizeLine/\Q (.int z.length) H):=by
 intro pins s σ H xs us Q I r h
 obtain ⟨z,rfl,hz,q⟩:=h
 obtain ⟨u,rfl,t,rfl⟩:=vals1 r
 have hn:=line63
 exact len_str (by lia) ⟨.int z.length,H,I.tok _,⟨_,rfl⟩,q⟩
theorem call_tuple_of : CallR X (.type "tuple") (fun xs H Q=>∃ p ys,xs = [.ref p]/\((SqL X.K H p ys/\∀ l,H l = none->Q (.ref l) (upd H l (.tup ys)))\/(SqT X.K H p ys/\Q (.ref p) H))):=by
 intro pins s σ H xs us Q I r h
 obtain ⟨p,ys,rfl,h⟩:=h
 obtain ⟨u,rfl,rx⟩:=vals1 r
 cases rx
 rcases h with ⟨hq,q⟩ | ⟨hq,q⟩
 ·obtain ⟨its,r',pl,hz⟩:=I.list hq
  have hlen:=r'.length
  refine call_tuple_list pl.isList (fun h' kp=>?_) (by simp only [List.size_toArray] <;> lia)
  have I1 : Inv X pins σ H { s with heap:=h' }:=I.kept (t':=s.toks) kp
  have I2 : Inv X pins σ (upd H h'.objs.size (.tup ys)) { s with heap:=h'.push { cls:=.type "tuple",data:=.seq its.toArray } }:=
   I1.laid (t':=s.toks) (fun b o e=>Heap.get?_push_of_some _ e) (Nat.le_refl _) (show ObjOk X.prog X.w _ _ _ (.tup ys) from ⟨hz,its,r',IsTupN.new _ _⟩)
  exact ⟨.ref h'.objs.size,_,I2,rfl,q _ (I1.hok.fresh (Nat.le_refl _))⟩
 ·obtain ⟨its,r',pl,hz⟩:=I.tuple hq
  exact call_tuple_same pl ⟨.ref p,H,I,rfl,q⟩
noncomputable def tyV (K : PySem.W.Frag) (T : String) (x : V) (H : Hp) : Prop:=match x with
 | .str _=>T = "str"
 | .int _=>T = "int"
 | .ref p=>(T = "list"/\∃ xs,SqL K H p xs)\/(T = "tuple"/\((∃ o,K.lookup p = some o/\o.cls = .type "tuple"/\o.dict = none)\/∃ xs,H p = some (.tup xs)))\/
   (T = "dict"/\((∃ kvs,H p = some (.dK kvs))\/∃ kvs,H p = some (.dT kvs)))\/(T = "set"/\∃ S n,H p = some (.set S n))
 | _=>False
theorem tyV_is {pins : List (Addr × Obj)} {σ : St} {H : Hp} {s : Shared} {T : String} {x : V} {v : Value} (I : Inv X pins σ H s) (r : RelV x v) (ty : tyV X.K T x H) :
  s.TypeIs v T/\∀ a,v = .ref a->∃ ob,s.heap.get? a = some ob/\ob.dict = none:=by
 cases x with
 | str z=>
  obtain ⟨t,rfl⟩:=r
  cases (show T = "str" from ty)
  exact ⟨typeIs_str s z t,fun _ e=>nomatch e⟩
 | int i=>
  obtain ⟨t,rfl⟩:=r
  cases (show T = "int" from ty)
  exact ⟨typeIs_int s i t,fun _ e=>nomatch e⟩
 | ref p=>
  cases r
  rcases ty with ⟨rfl,xs,hq⟩ | ⟨rfl,⟨o,hk,hc,hd⟩ | ⟨xs,hk⟩⟩ | ⟨rfl,hk⟩ | ⟨rfl,S,n,hk⟩
  ·obtain ⟨its,_,pl,_⟩:=I.list hq
   refine ⟨pl.isList.typeIs,fun a e=>?_⟩
   cases e
   obtain ⟨o,n,e,c,hd,_⟩:=pl
   exact ⟨o,e,hd⟩
  ·refine ⟨⟨o,I.kIn p o hk,hc⟩,fun a e=>?_⟩
   cases e
   exact ⟨o,I.kIn _ o hk,hd⟩
  ·obtain ⟨_,its,_,pl⟩:=I.hok p _ hk
   refine ⟨(IsTupN.tup pl).typeIs,fun a e=>?_⟩
   cases e
   exact IsTupN.bare pl
  ·have z : ∃ o,s.heap.get? p = some o/\o.ExactDict:=by
    rcases hk with ⟨kvs,hk⟩ | ⟨kvs,hk⟩
    ·obtain ⟨_,_,_,_,o,_,_,e,ex,_⟩:=I.hok p _ hk
     exact ⟨o,e,ex⟩
    ·obtain ⟨_,_,_,_,o,_,_,e,ex,_⟩:=I.hok p _ hk
     exact ⟨o,e,ex⟩
   obtain ⟨o,e,ex⟩:=z
   refine ⟨⟨o,e,ex.1⟩,fun a e2=>?_⟩
   cases e2
   exact ⟨o,e,ex.2.1⟩
  ·obtain ⟨o,_,_,_,e,ex,_⟩:=I.hok p _ hk
   refine ⟨⟨o,e,ex.1⟩,fun a e2=>?_⟩
   cases e2
   exact ⟨o,e,ex.2.1⟩
 | _=>exact False.elim ty
noncomputable def tBM (K : PySem.W.Frag) (T : String) (r : V->List V->Hp->VK->Prop) (to : TE) (t : TA) : TE:=fun σ H Q=>to σ H fun x H1=>tyV K T x H1/\t σ H1 fun xs H2=>r x xs H2 Q
variable {o e : Expr} {es : List Expr} {to : TE} {t : TA} {name : Str} {apos cpos : Pos} {T id : String} {r : V->List V->Hp->VK->Prop}
theorem pe_bm (pa : PlainAttrs T) (slot : Slot T name id) (hty : typeOf (.builtin id) = pure (.type "method_descriptor")) (hm : MtR X id r) (ho : PE X o to) (ha : PA X (e :: es) t)
  (hbase : attributeBase o name X.env (eval o X.env) = eval o X.env:=by rfl)
  (hfew : ((backTo cpos (starEach (e :: es) X.env)).all (fun x=>!x.1) && (backToKw cpos (keywordEach [] X.env)).all (fun x=>x.1.isSome)
   && decide ((e :: es).length + ([] : List Keyword).length + (if ([] : List Keyword).isEmpty then 0 else 1) < 30)) = true:=by rfl)
  (hline : (apos.endLine == cpos.line) = true:=by rfl) (hs : starEach (e :: es) X.env = (false,eval e X.env) :: starEach es X.env:=by rfl) (hplain : (backTo cpos (starEach es X.env)).any (·.1) = false:=by rfl) :
  PE X (.Call (.Attribute o name apos) (e :: es) [] cpos) (tBM X.K T r to t):=by
 intro pins s σ H Q I h
 refine wpAny_Call_method_late hbase hfew hline rfl (thn (ho pins s σ H _ I h) fun v s1 ⟨x,H1,I1,r1,ty,q1⟩=>?_)
 obtain ⟨h1,h2⟩:=tyV_is I1 r1 ty
 refine ⟨T,id,pa,slot,hty,h1,h2,?_⟩
 have hA:=ha cpos pins s1 σ H1 _ I1 q1
 rw [hs] at hA ⊢
 refine Calls.callWith_builtin (by show (false || (backTo cpos (starEach es X.env)).any (·.1)) = false;rw [hplain] <;> rfl) (Calls.evalArgs_plain ?_)
 exact thn hA fun us s2 ⟨vs,H2,I2,r2,q2⟩=>hm pins s2 σ H2 x vs v us Q I2 r1 r2 q2
end
end L2
namespace L2
open PySem PySem.Spec PyProof.Rows
noncomputable def MtM (X : Cx) (id : String) (r : V->List V->Hp->VK->Prop) : Prop:=
 ∀ (pins : List (Addr × Obj)) (s : Shared) (σ : St) (H : Hp) (x : V) (xs : List V) (v : Value) (us : List Value) (Q : VK),Inv X pins σ H s->RelV x v->Vals xs us->r x xs H Q->
  wpAny (model X.prog X.w) X.A (call (.builtin id) (v :: us)) (EP X pins σ Q) X.xe s
theorem Vals.one : ∀ {x : V} {us : List Value},Vals [x] us->∃ u,us = [u]/\RelV x u
 | _,_,.cons r .nil=>⟨_,rfl,r⟩
section
variable {X : Cx} {pins : List (Addr × Obj)} {σ : St} {H : Hp} {s : Shared} {l b : Addr} {xs ys zs : List V}
theorem Inv.lset {its its' : List Value} {n : Nat} {f : Array Value->Array Value} {t' : Nat} (I : Inv X pins σ H s) (hH : H l = some (.lst xs))
  (e : s.heap.get? l = some { cls:=.type "list",data:=.seq its.toArray n }) (hf : f its.toArray = its'.toArray) (hv : Vals ys its') (hz : ys.length<=sizeLine) :
  Inv X pins σ (upd H l (.lst ys)) { s with heap:=s.heap.update l (Obj.mapSeq f),toks:=t' }:=by
 have q:=PySem.IsL.update e f
 rw [hf] at q
 refine I.write (x:=l) (e:=l) (by rw [hH];exact trivial) (.inl rfl) (fun b' u hb hu=>(Heap.get?_update_other s.heap (Obj.mapSeq f) (Ne.symm hb)).trans hu) ⟨_,q⟩ ?_
 exact ⟨hz,its',_,hv,q⟩
theorem Inv.lnew {its : List Value} {t' : Nat} (I : Inv X pins σ H s) (hv : Vals ys its) (hz : ys.length<=sizeLine) :
  Inv X pins σ (upd H s.heap.objs.size (.lst ys)) { s with heap:=s.heap.push { cls:=.type "list",data:=.seq its.toArray },toks:=t' }:=
 I.laid (fun _ _ q=>Heap.get?_push_of_some _ q) (Nat.le_refl _) ⟨hz,its,0,hv,Heap.get?_push_size _ rfl⟩
theorem Inv.fresh (I : Inv X pins σ H s) : H s.heap.objs.size = none:=I.hok.fresh (Nat.le_refl _)
theorem Inv.lstM (I : Inv X pins σ H s) (hH : H l = some (.lst xs)) : xs.length<=sizeLine/\∃ (its : List Value) (n : Nat),Vals xs its/\xs.length = its.length/\s.heap.get? l = some { cls:=.type "list",data:=.seq its.toArray n }:=by
 obtain ⟨z,its,n,r,e⟩:=I.hok l _ hH
 exact ⟨z,its,n,r,r.length,e⟩
end
section
variable {X : Cx}
noncomputable def rAppend : V->List V->Hp->VK->Prop:=fun x vs H Q=>∃ l xs y,x = .ref l/\vs = [y]/\H l = some (.lst xs)/\xs.length < sizeLine/\Q .non (upd H l (.lst (xs ++ [y])))
theorem mt_append : MtM X "list.append" rAppend:=by
 intro pins s σ H x vs v us Q I rx rv h
 obtain ⟨l,xs,y,rfl,rfl,hH,hz,q⟩:=h
 cases rx
 obtain ⟨u,rfl,ru⟩:=rv.one
 obtain ⟨z,its,n,r,hl,e⟩:=I.lstM hH
 refine call_meets F.slot_list_append ⟨_,e,rfl⟩ F.entry_list_append (F.args_list_append_2 _ _) (PySem.list_append l its.toArray n u (by rw [List.size_toArray];lia)) ⟨e,?_⟩
 refine ⟨.non,_,I.lset (its':=its ++ [u]) hH e (by simp) (r.append (.cons ru .nil)) ?_,rfl,q⟩
 rw [List.length_append,List.length_singleton]
 lia
end
section
variable {prog : Program} {w : World} {A : Around} {E : Value->Shared->Prop} {s : Shared}
end
section
variable {X : Cx}
end
end L2
namespace L2
open PySem PySem.Spec PyProof.Rows
section
variable {κ : Type} [DecidableEq κ]
noncomputable def valV (kvs : List (κ × V)) (k : κ) : Option V:=(kvs.find? fun kv=>decide (kv.1 = k)).map (·.2)
noncomputable def putK (kvs : List (κ × V)) (k : κ) (v : V) : List (κ × V):=
 if (kvs.any fun kv=>decide (kv.1 = k)) = true then kvs.map (fun kv=>if kv.1 = k then (kv.1,v) else kv) else kvs ++ [(k,v)]
theorem valV_pos {p : κ × V} {r : List (κ × V)} {k : κ} (e : p.1 = k) : valV (p :: r) k = some p.2:=by simp [valV,List.find?_cons,e]
theorem valV_neg {p : κ × V} {r : List (κ × V)} {k : κ} (e : ¬ p.1 = k) : valV (p :: r) k = valV r k:=by simp [valV,List.find?_cons,e]
theorem length_putK (kvs : List (κ × V)) (k : κ) (v : V) : (putK kvs k v).length<=kvs.length + 1:=by
 unfold putK
 split
 ·rw [List.length_map];lia
 ·rw [List.length_append,List.length_cons,List.length_nil];lia
theorem RelO.isSome_eq {o : Option V} {u : Option Value} (r : RelO o u) : o.isSome = u.isSome:=by
 cases o with
 | none=>cases u with
  | none=>rfl
  | some _=>exact (show False from r).elim
 | some _=>cases u with
  | none=>exact (show False from r).elim
  | some _=>rfl
theorem KV.val {kvs : List (κ × V)} {vs : List (κ × Value)} (r : KV kvs vs) (k : κ) : RelO (valV kvs k) (valueAt vs k):=by
 unfold KV at r
 induction r with
 | nil=>exact True.intro
 | @cons p q ps qs h t ih=>
  obtain ⟨h1,h2⟩:=h
  by_cases e : p.1 = k
  ·have e' : q.1 = k:=h1.symm.trans e
   have b : valueAt (q :: qs) k = some q.2:=by simp [valueAt,List.find?_cons,e']
   rw [valV_pos e,b];exact h2
  ·have e' : ¬ q.1 = k:=fun z=>e (h1.trans z)
   have b : valueAt (q :: qs) k = valueAt qs k:=by simp [valueAt,List.find?_cons,e']
   rw [valV_neg e,b];exact ih
theorem KV.any {kvs : List (κ × V)} {vs : List (κ × Value)} (r : KV kvs vs) (k : κ) : (kvs.any fun kv=>decide (kv.1 = k)) = vs.any fun kv=>decide (kv.1 = k):=by
 unfold KV at r
 induction r with
 | nil=>rfl
 | cons h t ih=>rw [List.any_cons,List.any_cons,ih,h.1]
theorem KV.repl {kvs : List (κ × V)} {vs : List (κ × Value)} (r : KV kvs vs) (k : κ) {y : V} {u : Value} (ry : RelV y u) :
  KV (kvs.map fun kv=>if kv.1 = k then (kv.1,y) else kv) (vs.map fun kv=>if kv.1 = k then (kv.1,u) else kv):=by
 unfold KV at r ⊢
 induction r with
 | nil=>exact .nil
 | @cons p q ps qs h t ih=>
  rw [List.map_cons,List.map_cons]
  refine .cons ?_ ih
  obtain ⟨h1,h2⟩:=h
  by_cases e : p.1 = k
  ·rw [if_pos e,if_pos (h1.symm.trans e)];exact ⟨h1,ry⟩
  ·rw [if_neg e,if_neg (fun z=>e (h1.trans z))];exact ⟨h1,h2⟩
theorem KV.put {kvs : List (κ × V)} {vs : List (κ × Value)} (r : KV kvs vs) (k : κ) {y : V} {u : Value} (ry : RelV y u) : KV (putK kvs k y) (stored vs k u):=by
 unfold putK stored
 rw [r.any k]
 by_cases e : (vs.any fun kv=>decide (kv.1 = k)) = true
 ·rw [if_pos e,if_pos e];exact r.repl k ry
 ·rw [if_neg e,if_neg e];exact Paired.snoc r ⟨rfl,ry⟩
end
theorem kV_is {P : Program} {w : World} {k : Key} {u : Value} (r : RelV (kV k) u) : (mixKind P w).is k u = true:=by
 cases k with
 | inl i=>obtain ⟨t,e⟩:=(show ∃ t,u = Value.int i t from r);subst e;exact mixKind_int P w i t
 | inr x=>obtain ⟨t,e⟩:=(show ∃ t,u = Value.str x t from r);subst e;exact mixKind_str P w x t
theorem items_are {P : Program} {w : World} : ∀ {ks : List Key} {us : List Value},Vals (ks.map kV) us->ItemsAre (mixKind P w) ks us
 | [],_,r=>by rw [List.map_nil] at r;cases r;exact .nil
 | k :: ks,_,r=>by
  rw [List.map_cons] at r
  cases r with
  | cons h t=>exact .cons (kV_is h) (items_are t)
noncomputable abbrev KT (H : Hp) : List (List Key × V)->List (List Key × Addr × Value)->Prop:=Paired fun p q=>p.1 = q.1/\H q.2.1 = some (.tup (p.1.map kV))/\RelV p.2 q.2.2
theorem KT.val {H : Hp} {kvs : List (List Key × V)} {xs : List (List Key × Addr × Value)} (r : KT H kvs xs) (k : List Key) : RelO (valV kvs k) ((atKey xs k).map (·.2)):=by
 induction r with
 | nil=>exact True.intro
 | @cons p q ps qs h t ih=>
  obtain ⟨h1,_,h2⟩:=h
  by_cases e : p.1 = k
  ·have e' : q.1 = k:=h1.symm.trans e
   have b : atKey (q :: qs) k = some q.2:=by simp [atKey,List.find?_cons,e']
   rw [valV_pos e,b];exact h2
  ·have e' : ¬ q.1 = k:=fun z=>e (h1.trans z)
   have b : atKey (q :: qs) k = atKey qs k:=by simp [atKey,List.find?_cons,e']
   rw [valV_neg e,b];exact ih
section
variable {P : Program} {w : World} {H : Hp} {h : Heap} {a : Addr}
theorem rd_of {u : HO} (ok : HOk P w H h) (e : Rd H a u) : ObjOk P w H h a u:=e.ok ok
theorem dk_rd {kvs : List (Key × V)} (ok : HOk P w H h) (e : Rd H a (.dK kvs)) : kvs.length<=sizeLine/\(a == sysModules) = false/\∃ vs,KV kvs vs/\h.DictOf (mixKind P w) a vs:=
 show ObjOk P w H h a (.dK kvs) from rd_of ok e
theorem dk_of {kvs : List (Key × V)} (ok : HOk P w H h) (e : H a = some (.dK kvs)) : kvs.length<=sizeLine/\(a == sysModules) = false/\∃ vs,KV kvs vs/\h.DictOf (mixKind P w) a vs:=dk_rd ok (.inl e)
theorem key_of {ks : List Key} (ok : HOk P w H h) (e : H a = some (.tup (ks.map kV))) : (tupleKind (mixKind P w)).is h ks a:=by
 obtain ⟨_,its,r,o,h1,h2,n,h3⟩:=(show ObjOk P w H h a (.tup (ks.map kV)) from ok a _ e)
 exact ⟨o,its.toArray,n,h1,h2,congrArg (·.1) h3,by simpa using items_are r⟩
theorem dt_rd {kvs : List (List Key × V)} (ok : HOk P w H h) (e : Rd H a (.dT kvs)) : kvs.length<=sizeLine/\(a == sysModules) = false/\
  ∃ xs,KT H kvs xs/\h.DictOfH (tupleKind (mixKind P w)) a xs:=by
 obtain ⟨z,y,xs,r,o,es,ep,h1,h2,h3,h4,h5⟩:=(show ObjOk P w H h a (.dT kvs) from rd_of ok e)
 refine ⟨z,y,xs,r,o,es,ep,h1,h2,h3,h4,fun x hx=>?_,h5⟩
 have all : ∀ {l : List (List Key × V)} {m : List (List Key × Addr × Value)},KT H l m->∀ x ∈ m,(tupleKind (mixKind P w)).is h x.1 x.2.1:=by
  intro l m q
  induction q with
  | nil=>intro x hx;exact nomatch hx
  | @cons p q ps qs hq t ih=>
   intro x hx
   rcases List.mem_cons.mp hx with e | hx
   ·subst e
    exact key_of ok (by rw [<- hq.1];exact hq.2.1)
   ·exact ih x hx
 exact all r x hx
theorem dt_of {kvs : List (List Key × V)} (ok : HOk P w H h) (e : H a = some (.dT kvs)) : kvs.length<=sizeLine/\(a == sysModules) = false/\
  ∃ xs,KT H kvs xs/\h.DictOfH (tupleKind (mixKind P w)) a xs:=dt_rd ok (.inl e)
end
noncomputable def DGet (H : Hp) (a : Addr) (y : V) (r : Option V) : Prop:=
 (∃ kvs k,Rd H a (.dK kvs)/\y = kV k/\r = valV kvs k)\/∃ kvs k b,Rd H a (.dT kvs)/\y = .ref b/\H b = some (.tup (k.map kV))/\r = valV kvs k
theorem DGet.k {H : Hp} {a : Addr} {kvs : List (Key × V)} {k : Key} (e : H a = some (.dK kvs)) : DGet H a (kV k) (valV kvs k):=.inl ⟨kvs,k,.inl e,rfl,rfl⟩
theorem DGet.t {H : Hp} {a b : Addr} {kvs : List (List Key × V)} {k : List Key} (e : H a = some (.dT kvs)) (eb : H b = some (.tup (k.map kV))) : DGet H a (.ref b) (valV kvs k):=.inr ⟨kvs,k,b,.inl e,rfl,eb,rfl⟩
section
variable {X : Cx} {pins : List (Addr × Obj)} {σ : St} {H : Hp} {s : Shared} {a : Addr} {y v : V} {u r : Value} {o : Option V} {A : Around} {E : Value->Shared->Prop}
theorem Inv.big (I : Inv X pins σ H s) : sysModules < s.heap.objs.size:=by
 have h : mainGlobals < s.heap.objs.size:=(I.mod.glob.keeps I.bk).lt
 exact Nat.lt_trans (by decide) h
theorem d_getItem {Q : Value->Shared->Prop} (hu : A.units + 1 < cLine) (I : Inv X pins σ H s) (g : DGet H a y (some v)) (ry : RelV y u) (h : ∀ w' s',Inv X pins σ H s'->RelV v w'->Q w' s') :
  wpAny (model X.prog X.w) A (getItem (.ref a) u) Q E s:=by
 rcases g with ⟨kvs,k,e,ey,l⟩ | ⟨kvs,k,b,e,ey,eb,l⟩
 ·subst ey
  obtain ⟨z,hd,vs,rel,dd⟩:=dk_rd I.hok e
  obtain ⟨w',hw,rw'⟩:=RelO.some_of (v:=v) (o:=valueAt vs k) (by rw [l];exact rel.val k)
  exact wpAny_getItem_of (kV_is ry) dd.mapOf hw (h w' _ (I.tok _) rw')
 ·subst ey
  cases (show u = Value.ref b from ry)
  obtain ⟨z,hd,xs,rel,dd⟩:=dt_rd I.hok e
  obtain ⟨w',hw,rw'⟩:=RelO.some_of (v:=v) (o:=(atKey xs k).map (·.2)) (by rw [l];exact rel.val k)
  obtain ⟨p,hp,hp2⟩:=Option.map_eq_some_iff.mp hw
  refine wpAny_getItem_heap (tupleKind_room_in1 hu) (key_of I.hok eb) dd hp ?_
  rw [hp2]
  exact h w' _ (I.tok _) rw'
theorem d_notIn {Q : Value->Shared->Prop} (hu : A.units + 1 < cLine) (I : Inv X pins σ H s) (g : DGet H a y o) (ry : RelV y u) (h : ∀ s',Inv X pins σ H s'->Q (.bool (!o.isSome)) s') :
  wpAny (model X.prog X.w) A (compareOp .NotIn u (.ref a)) Q E s:=by
 rcases g with ⟨kvs,k,e,ey,l⟩ | ⟨kvs,k,b,e,ey,eb,l⟩
 ·subst ey
  obtain ⟨z,hd,vs,rel,dd⟩:=dk_rd I.hok e
  refine wpAny_notIn_of (kV_is ry) hd dd.mapOf ?_
  rw [<- (rel.val k).isSome_eq,<- l]
  exact h _ (I.tok _)
 ·subst ey
  cases (show u = Value.ref b from ry)
  obtain ⟨z,hd,xs,rel,dd⟩:=dt_rd I.hok e
  refine wpAny_notIn_heap (tupleKind_room_in1 hu) (key_of I.hok eb) hd dd ?_
  have q:=(rel.val k).isSome_eq
  rw [Option.isSome_map] at q
  rw [<- q,<- l]
  exact h _ (I.tok _)
theorem d_write {h' : Heap} {t' : Nat} {ob : HO} (I : Inv X pins σ H s) (mu : Mut (H a)) (hs : Heap.SameBut a s.heap h') (he : ∃ q,h'.get? a = some q) (new : ObjOk X.prog X.w (upd H a ob) h' a ob) :
  Inv X pins σ (upd H a ob) { s with heap:=h',toks:=t' }:=
 I.write (x:=a) (e:=a) mu (.inl rfl) (fun b q hb z=>(hs.2 b hb).trans z) he new
theorem dk_new {P : Program} {w : World} {H' : Hp} {h' : Heap} {kvs : List (Key × V)} {vs : List (Key × Value)} (z : kvs.length<=sizeLine) (hd : (a == sysModules) = false) (rel : KV kvs vs) (dd : h'.DictOf (mixKind P w) a vs) :
  ObjOk P w H' h' a (.dK kvs):=⟨z,hd,vs,rel,dd⟩
end
section
variable {X : Cx} {pins : List (Addr × Obj)} {σ : St} {H : Hp} {s : Shared} {a : Addr} {kvs : List (Key × V)} {k : Key} {u : Value} {A : Around} {E : Value->Shared->Prop}
end
theorem dict_typeIs {X : Cx} {pins : List (Addr × Obj)} {σ : St} {H : Hp} {s : Shared} {a : Addr} {y : V} {o : Option V} (I : Inv X pins σ H s) (g : DGet H a y o) : s.TypeIs (.ref a) "dict":=by
 rcases g with ⟨kvs,k,e,_,_⟩ | ⟨kvs,k,b,e,_,_,_⟩
 ·obtain ⟨_,_,vs,_,dd⟩:=dk_rd I.hok e
  exact dd.typeIs
 ·obtain ⟨_,_,xs,_,dd⟩:=dt_rd I.hok e
  exact dd.typeIs
section
variable {X : Cx} {o i e value : Expr} {pos pos' tpos : Pos} {td ty tv : TE}
end
theorem dk_empty {P : Program} {w : World} {H : Hp} (h : Heap) (hb : sysModules < h.objs.size) : ObjOk P w H (h.push { cls:=.type "dict",data:=.dict #[] }) h.objs.size (.dK []):=
 ⟨Nat.zero_le _,beq_eq_false_iff_ne.mpr (Ne.symm (Nat.ne_of_lt hb)),[],.nil,Heap.DictOf.new h⟩
section
variable {X : Cx} {pos : Pos}
end
noncomputable def tPairs : List (TE × TE)->St->Hp->(List (V × V)->Hp->Prop)->Prop
 | [],_,H,Q=>Q [] H
 | (tk,tv) :: r,σ,H,Q=>tk σ H fun x H1=>tv σ H1 fun y H2=>tPairs r σ H2 fun ps H3=>Q ((x,y) :: ps) H3
noncomputable abbrev VV : List (V × V)->List (Value × Value)->Prop:=Paired fun p q=>RelV p.1 q.1/\RelV p.2 q.2
noncomputable def PPs (X : Cx) (pos : Pos) (keys : List (Option Expr)) (values : List Expr) (trs : List (TE × TE)) : Prop:=
 ∀ (pins : List (Addr × Obj)) (s : Shared) (σ : St) (H : Hp) (Q : List (V × V)->Hp->Prop),Inv X pins σ H s->tPairs trs σ H Q->
  wpAny (model X.prog X.w) X.A (evalPairs (pairTrees keys values X.env pos)) (fun vs s'=>∃ ps H',Inv X pins σ H' s'/\VV ps vs/\Q ps H') X.xe s
theorem pps_nil {X : Cx} {pos : Pos} : PPs X pos [] [] []:=fun pins s σ H Q I h=>pairTrees_nil_walk ⟨[],H,I,.nil,h⟩
theorem pps_cons {X : Cx} {pos : Pos} {k v : Expr} {ks : List (Option Expr)} {vs : List Expr} {tk tv : TE} {trs : List (TE × TE)} (hk : PE X k tk) (hv : PE X v tv) (hr : PPs X pos ks vs trs) :
  PPs X pos (some k :: ks) (v :: vs) ((tk,tv) :: trs):=fun pins s σ H Q I h=>
 pairTrees_cons_walk (thn (hk pins s σ H _ I h) fun u s1 ⟨x,H1,I1,rx,q1⟩=>thn (hv pins s1 σ H1 _ I1 q1) fun w2 s2 ⟨y,H2,I2,ry,q2⟩=>
  thn (hr pins s2 σ H2 _ I2 q2) fun ws s3 ⟨ps,H3,I3,rel,q3⟩=>⟨(x,y) :: ps,H3,I3,.cons ⟨rx,ry⟩ rel,q3⟩)
noncomputable def mergeK (kvs more : List (Key × V)) : List (Key × V):=more.foldl (fun acc kv=>putK acc kv.1 kv.2) kvs
theorem KV.merge : ∀ {more : List (Key × V)} {rs : List (Key × Value)} {kvs : List (Key × V)} {vs : List (Key × Value)},KV more rs->KV kvs vs->KV (mergeK kvs more) (merged vs rs):=by
 intro more rs kvs vs r
 unfold KV at r
 induction r generalizing kvs vs with
 | nil=>intro q;exact q
 | @cons p q ps qs h t ih=>
  intro r0
  have e : KV (putK kvs p.1 p.2) (stored vs q.1 q.2):=by
   have:=r0.put p.1 h.2
   rw [<- h.1];exact this
  exact ih e
theorem length_mergeK : ∀ (more kvs : List (Key × V)),(mergeK kvs more).length<=kvs.length + more.length
 | [],kvs=>by show kvs.length<=kvs.length + 0;lia
 | p :: r,kvs=>by
  have h1:=length_mergeK r (putK kvs p.1 p.2)
  have h2:=length_putK kvs p.1 p.2
  show (mergeK (putK kvs p.1 p.2) r).length<=_
  rw [List.length_cons];lia
theorem carries_of {P : Program} {w : World} : ∀ {kvs : List (Key × V)} {ws : List (Value × Value)},VV (kvs.map fun kv=>(kV kv.1,kv.2)) ws->∃ rs,Carries (mixKind P w) ws rs/\KV kvs rs
 | [],_,r=>by rw [List.map_nil] at r;cases r;exact ⟨[],True.intro,.nil⟩
 | p :: kvs,_,r=>by
  rw [List.map_cons] at r
  cases r with
  | @cons a b as bs h t=>
   obtain ⟨rs,c,q⟩:=carries_of (P:=P) (w:=w) t
   obtain ⟨b1,b2⟩:=b
   exact ⟨(p.1,b2) :: rs,⟨kV_is h.1,rfl,c⟩,.cons ⟨rfl,h.2⟩ q⟩
noncomputable def tDisp (trs : List (TE × TE)) : TE:=fun σ H Q=>∀ p,H p = none->tPairs trs σ (upd H p (.dK [])) fun ps H2=>H2 p = some (.dK [])/\∃ kvs : List (Key × V),ps = kvs.map (fun kv=>(kV kv.1,kv.2))/\kvs.length<=15/\Q (.ref p) (upd H2 p (.dK (mergeK [] kvs)))
theorem pe_disp {X : Cx} {pos : Pos} {keys : List (Option Expr)} {values : List Expr} {trs : List (TE × TE)} (h : PPs X pos keys values trs) (hall : keys.all (·.isSome) = true) (hl : keys.length = values.length) (h0 : keys ≠ [])
  (h15 : keys.length<=15) : PE X (.Dict keys values pos) (tDisp trs):=by
 intro pins s σ H Q I q
 have hn:=I.hok.fresh (Nat.le_refl s.heap.objs.size)
 have I1:=I.laid (a:=s.heap.objs.size) (o:=.dK []) (h':=s.heap.push { cls:=.type "dict",data:=.dict #[] }) (t':=s.toks) (fun _ _ q=>Heap.get?_push_of_some _ q) (Nat.le_refl _) (dk_empty s.heap I.big)
 refine wpAny_Dict_walk (knd:=mixKind X.prog X.w) hall hl h0 h15 (thn (h pins _ σ _ _ I1 (q _ hn)) fun ws s2 ⟨ps,H2,I2,rel,e,kvs,ep,lk,q2⟩=>?_)
 subst ep
 obtain ⟨rs,c,rk⟩:=carries_of (P:=X.prog) (w:=X.w) rel
 obtain ⟨z,hd,vs0,r0,dd⟩:=dk_of I2.hok e
 cases r0
 refine ⟨rs,c,dd,fun h' dd' hs=>⟨.ref s.heap.objs.size,_,?_,rfl,q2⟩⟩
 have hz : (mergeK [] kvs).length<=sizeLine:=by
  have h1:=length_mergeK kvs []
  rw [List.length_nil] at h1
  rw [sizeLine_eq];lia
 have he : ∃ q,h'.get? s.heap.objs.size = some q:=let ⟨q,_,_,hq,_⟩:=dd';⟨q,hq⟩
 exact d_write I2 (by rw [e];exact True.intro) hs he (dk_new hz hd (rk.merge .nil) dd')
section
variable {X : Cx} {pins : List (Addr × Obj)} {σ : St} {H : Hp} {s : Shared} {a : Addr} {y d : V} {u r : Value} {o : Option V} {A : Around} {E : Value->Shared->Prop}
end
section
variable {X : Cx} {o e f : Expr} {apos cpos : Pos} {td ty tx : TE}
end
section
variable {X : Cx} {pins : List (Addr × Obj)} {σ : St} {H : Hp} {s : Shared} {a : Addr} {kvs : List (Key × V)} {A : Around} {E : Value->Shared->Prop}
end
section
variable {X : Cx} {pins : List (Addr × Obj)} {σ : St} {H : Hp} {s : Shared} {a : Addr} {y : V} {u : Value} {A : Around} {E : Value->Shared->Prop}
end
end L2
namespace Att
open PySem PySem.W PySem.Calls PyProof.Rows
theorem ints_of_wellAll {P : Params} {h : Heap} : ∀ (ns : List Int) (vs : List Value),WellAll P h vs (ns.map WData.int)->IntsAre vs ns:=by
 intro ns
 induction ns with
 | nil=>
  intro vs w
  rw [List.map_nil] at w
  cases w
  exact .nil
 | cons n ns ih=>
  intro vs w
  rw [List.map_cons] at w
  cases w with
  | cons a b=>
   cases a
   exact .cons _ _ (ih _ b)
theorem script_of {l : OpenLaw} {n : Nat} (hn : l.most = some n) {P : Params} {h : Heap} {args : List WData} {vals : List Value}
  (hpre : l.row.toRowW.claim.pre args = true) (hwl : WellAll P h vals args) :
  ∃ a vs ns,vals = [Value.ref a]/\args = [WData.list (ns.map WData.int)]/\h.get? a = some { cls:=.type "list",data:=.seq vs.toArray }/\IntsAre vs ns/\ns.length<=n:=by
 have hsh : WShape.hasAll [] args [.list .int] = true:=(pre_splitW hpre).1
 have hc : l.pre.holds [] { args:=args } = true:=(pre_splitW hpre).2
 obtain ⟨d,r,rfl,h1,h2⟩:=hasAllW_cons hsh
 obtain rfl:=hasAllW_nil h2
 obtain ⟨xs,rfl,h3⟩:=hasW_list h1
 obtain ⟨ns,rfl⟩:=items_int h3
 have hlen : ns.length<=n:=by
  unfold OpenLaw.pre at hc
  have h4 : (WTm.not (.lt (.lit (.int (n : Int))) (.len (.arg 0)))).holds [] { args:=[.list (ns.map .int)] } = true:=by
   have h4:=(holds_andW hc).1
   rw [hn] at h4
   exact h4
  have h5:=condW_of h4 (w_not (w_lt w_lit (w_len_list (w_arg rfl))))
  rw [List.length_map] at h5
  refine Nat.le_of_not_lt fun q=>?_
  have q' : (n : Int) < ((ns.length : Nat) : Int):=by lia
  first
   | (rw [decide_eq_true q'] at h5;exact absurd h5 (by decide))
   | (simp at h5;lia)
 cases hwl with
 | cons w1 w2=>
  cases w2
  cases w1 with
  | list ho hall=>exact ⟨_,_,ns,rfl,rfl,ho,ints_of_wellAll ns _ hall,hlen⟩
theorem post_true (l : OpenLaw) (args : List WData) : l.row.toRowW.claim.post args (.bool true) args = true:=
 postW_of (r:=l.row.toRowW) (X:=(true == true))
  (show WShape.has [] (.bool true) .bool = true by first | rfl | decide | simp [WShape.has,WShape.arms,WShape.armsAll])
  (show (WTm.eq .res (.lit (.bool true))).value [] { args:=args,res:=some (.bool true),after:=args } = some (.bool (true == true)) from w_eq_bool (w_res rfl) w_lit) rfl
theorem attach_call {l : OpenLaw} {n : Nat} {q : Program} {loose : List Str} {XP : (Str->Option Value)->Heap->Prop} {YP : World->Heap->Prop} {d : DefRec}
  (hn : l.most = some n) (hdf : d.params.defaults = [])
  (call : ∀ (w : World) (s₀ s₁ : Shared) (mg mb : Str->Option Value) (fa : Addr) (o : Obj) (pm cd doc : Value) (a : Addr) (vs : List Value) (ns : List Int),
   Ground q loose [] XP w s₀ mg mb s₁.heap->YP w s₁.heap->
   s₁.heap.get? fa = some o->o.data = .func (docDef d.name d.params d.body d.scope pm cd doc)->s₁.heap.CodeRec cd d.name->mg d.name = some (.ref fa)->
   s₁.heap.get? a = some { cls:=.type "list",data:=.seq vs.toArray }->IntsAre vs ns->ns.length<=n->s₁.gens = #[]->
   codeAny (model l.prog w) callerA (.call (.ref fa) ⟨[.ref a],[]⟩) (fun r s'=>r = .ok (.ret (.bool true))/\OldK s₁.heap s'.heap/\s'.os = s₁.os/\AllBare s'.gens) s₁) :
  WalkO q loose XP YP l.row.toRowW d [] (fun f vs=>PySem.call f vs):=by
 intro w s₀ s₁ mg mb G Y fa o pm cd doc dV kV ho hd hcd hD hmg hg args vals as hpre hlay hrd hwl hlo
 obtain rfl : dV = .none:=Dflts.none hD hdf
 obtain rfl : kV = .none:=Dflts.noKw hD
 obtain ⟨a,vs,ns,rfl,rfl,hobj,hints,hlen⟩:=script_of hn hpre hwl
 refine enter_call (codeAny_mono (call w s₀ s₁ mg mb fa o pm cd doc a vs ns G Y ho (fd_plain hd) hcd hmg hobj hints hlen hg) fun r s' hq=>?_)
 obtain ⟨rfl,h2,h3,h4⟩:=hq
 exact ⟨.inl ⟨.bool true,.bool true,[],rfl,fun _=>rfl,.bool true,post_true l _,fun _=>⟨List.Pairwise.nil,fun _ hm=>(nomatch hm)⟩⟩,h2,h3,h4⟩
section
variable {prog : Program} {w : World} {A : Around} {E : Value->Shared->Prop} {s : Shared} {K : Frag}
end
end Att
namespace L2
open PySem PySem.Spec PyProof.Rows
theorem vals_ints : ∀ {vs : List Value} {ns : List Int},IntsAre vs ns->Vals (ns.map V.int) vs
 | _,_,.nil=>.nil
 | _,_,.cons n t h=>.cons ⟨t,rfl⟩ (vals_ints h)
noncomputable def Only (H : Hp) : Prop:=∀ b,H b = none\/∃ o xs,H b = some (.frz o (.lst xs))
theorem law_call {P : Program} {w : World} {K : PySem.W.Frag} {mg mb : Str->Option Value} {CX : CXT} {k : Nat} {fa a : Addr} {fd : FuncData} {x : Str} {sp : Sp} {s₁ : Shared} {vs : List Value} {ns : List Int}
  (KX : K.In s₁.heap) (hns : s₁.heap.Ns mainGlobals mg) (hb : s₁.heap.Ns builtinsNs mb) (hbb : ∀ x : Str,x ≠ "__name__"->mb x = bootBuiltins x) (hlim : s₁.heap.NoLimit) (hg : s₁.gens = #[])
  (ha : s₁.heap.get? a = some { cls:=.type "list",data:=.seq vs.toArray }) (hi : IntsAre vs ns) (hl : ns.length<=sizeLine) (hr : Room k callerA)
  (F : ∀ base : Heap,K.In base->base.Ns mainGlobals mg->FnOk P w K mg base CX k fa fd [x] sp) (hbind : ∀ (s : Shared) (u : Value),BindsTo s fd ⟨[u],[]⟩ [(x,u)])
  (hsp : ∀ H : Hp,Only H->SqL K H a (ns.map V.int)->sp [.ref a] H (fun v _=>v = .bl true) fun _ _ _=>False)
  (hCX : ∀ H e s',CX [] H s₁ (fun _ _ _=>False) e s'->False) :
  codeAny (model P w) callerA (.call (.ref fa) ⟨[.ref a],[]⟩) (fun r s'=>r = .ok (.ret (.bool true))/\OldK s₁.heap s'.heap/\s'.os = s₁.os/\AllBare s'.gens) s₁:=by
 have rv:=vals_ints hi
 have lenV:=hi.length
 -- from an abstract heap in which nothing but the script may be tracked
 have core : ∀ H : Hp,Only H->SqL K H a (ns.map V.int)->HOk P w H s₁.heap->(∀ b,H b ≠ none->b = a)->(H a ≠ none->K.lookup a = none)->
   codeAny (model P w) callerA (.call (.ref fa) ⟨[.ref a],[]⟩) (fun r s'=>r = .ok (.ret (.bool true))/\OldK s₁.heap s'.heap/\s'.os = s₁.os/\AllBare s'.gens) s₁:=by
  intro H hO hS hok hA hK
  have base_of : ∀ {b : Addr} {o : Obj},s₁.heap.get? b = some o->H b = none->(hidT s₁.heap H).get? b = some o:=fun e n=>hidT_get e n
  have noA : ∀ {b : Addr} {o : Obj} {es : Array DictEntry} {ep : Nat},s₁.heap.get? b = some o->o.data = .dict es ep->H b = none:=fun {b o es ep} e d=>by
   cases q : H b with
   | none=>rfl
   | some u=>
    have e' : b = a:=hA b (by rw [q];simp)
    subst e'
    rw [ha] at e;cases e
    have d' : Data.seq vs.toArray _ = Data.dict es ep:=d
    cases d'
  have nsK : ∀ {b : Addr} {m : Str->Option Value},s₁.heap.Ns b m->(hidT s₁.heap H).Ns b m:=fun {b m} ⟨o,es,ep,e,d,r⟩=>⟨o,es,ep,base_of e (noA e d),d,r⟩
  have hKb : K.In (hidT s₁.heap H):=fun b o e=>base_of (KX b o e) (by
   cases q : H b with
   | none=>rfl
   | some u=>
    have e' : b = a:=hA b (by rw [q];simp)
    subst e'
    rw [hK (by rw [q];simp)] at e;cases e)
  have hM : Mod K mg (hidT s₁.heap H):=⟨hKb,nsK hns,⟨mb,nsK hb,hbb⟩,let ⟨mc,h1,h2⟩:=hlim;⟨mc,nsK h1,h2⟩⟩
  have e0 : Env0 P w K mg (hidT s₁.heap H) callerA [] s₁ H:=⟨rfl,hM,fun b o e=>of_hidT e,Nat.le_of_eq (hidT_size _ _),trivial,fun b hb=>absurd (show b ∈ ([] : List Addr) from hb) (by simp),hok,.of_eq hg⟩
  refine codeAny_mono ((F _ hKb (nsK hns)).run callerA [] s₁ H ⟨[.ref a],[]⟩ [.ref a] [.ref a] _ _ hr e0 (hbind s₁ (.ref a)) (.cons rfl .nil) (hsp H hO hS)) fun r s' h=>?_
  cases r with
  | error e=>exact (hCX H e s' h).elim
  | ok fl=>
   cases fl with
   | next=>exact False.elim h
   | brk=>exact False.elim h
   | cont=>exact False.elim h
   | ret u=>
    obtain ⟨v,H',os,bare,un,hok',r',q⟩:=h
    have q' : v = .bl true:=q
    subst q'
    obtain rfl : u = Value.bool true:=r'
    refine ⟨rfl,OldK.of_keep fun b o e=>?_,os,bare⟩
    cases q : H b with
    | none=>exact un.keep b o e q (by intro z;exact absurd (show b ∈ ([] : List Addr) from z) (by simp)) (by simp)
    | some u=>
     rcases hO b with z | ⟨ob,xs,z⟩
     ·rw [q] at z;cases z
     ·have z2:=un.frzs b ob _ z
      obtain ⟨e1,_⟩:=hok b _ z
      obtain ⟨e2,_⟩:=hok' b _ z2
      rw [e] at e1;cases e1
      exact e2
 cases hk : K.lookup a with
 | some o=>
  -- the script is one of the module's own objects
  have e:=KX a o hk
  rw [ha] at e
  cases e
  refine core (fun _=>none) (fun _=>.inl rfl) (.inr ⟨_,vs.toArray,_,hk,rfl,rfl,rfl,by rw [List.size_toArray,lenV];exact hl,by simpa using rv⟩) (fun b u z=>by have z' : (none : Option HO) = some u:=z;cases z') (fun b z=>absurd rfl z) fun z=>absurd rfl z
 | none=>
  refine core (fun b=>if b = a then some (.frz { cls:=.type "list",data:=.seq vs.toArray } (.lst (ns.map V.int))) else none) (fun b=>?_) (.inl (.inr ⟨{ cls:=.type "list",data:=.seq vs.toArray },if_pos rfl⟩)) (fun b u z=>?_) (fun b z=>?_) fun _=>hk
  ·by_cases hb : b = a
   ·exact .inr ⟨_,_,if_pos hb⟩
   ·exact .inl (if_neg hb)
  ·by_cases hb : b = a
   ·have z':=(if_pos hb).symm.trans z
    cases z'
    subst hb
    exact ⟨ha,by rw [List.length_map];exact hl,vs,_,rv,ha⟩
   ·have z':=(if_neg hb).symm.trans z
    cases z'
  ·by_cases hb : b = a
   ·exact hb
   ·exact absurd (if_neg hb) z
end L2
namespace L2
open PySem PySem.Spec PyProof.Rows
theorem walk_of {l : PySem.W.OpenLaw} {n k : Nat} {q : Program} {loose : List Str} {XP : (Str->Option Value)->Heap->Prop} {YP : World->Heap->Prop} {d : DefRec} {K : Params->PySem.W.Frag} {CX : World->CXT} {sp : World->Sp} {x : Str}
  (hn : l.most = some n) (hn2 : n<=sizeLine) (hdf : d.params.defaults = []) (hr : Room k callerA)
  (hY : ∀ (w : World) (h : Heap),YP w h->(K w.params).In h)
  (F : ∀ (w : World) (mg : Str->Option Value) (fa : Addr) (h : Heap),(K w.params).In h->h.Ns mainGlobals mg->mg d.name = some (.ref fa)->
   ∃ fd : FuncData,(∀ (s : Shared) (u : Value),BindsTo s fd ⟨[u],[]⟩ [(x,u)])/\
    ∀ base : Heap,(K w.params).In base->base.Ns mainGlobals mg->FnOk l.prog w (K w.params) mg base (CX w) k fa fd [x] (sp w))
  (hsp : ∀ (w : World) (H : Hp) (a : Addr) (ns : List Int),ns.length<=n->Only H->SqL (K w.params) H a (ns.map V.int)->sp w [.ref a] H (fun v _=>v = .bl true) fun _ _ _=>False)
  (hCX : ∀ (w : World) (H : Hp) (s : Shared) (e : Value) (s' : Shared),CX w [] H s (fun _ _ _=>False) e s'->False) :
  PySem.W.WalkO q loose XP YP l.row.toRowW d [] (fun f vs=>PySem.call f vs):=by
 refine Att.attach_call hn hdf fun w s₀ s₁ mg mb fa o pm cd doc a vs ns G Y ho hd hcd hmg hobj hints hlen hg=>?_
 have KX:=hY w _ Y
 obtain ⟨fd,hb,hF⟩:=F w mg fa _ KX G.T.g hmg
 exact law_call KX G.T.g G.T.b G.T.builtins G.T.nolimit hg hobj hints (Nat.le_trans hlen hn2) hr hF hb (fun H hO hS=>hsp w H a ns hlen hO hS) fun H e s'=>hCX w H s₁ e s'
end L2
namespace L2
open PySem PySem.Spec PyProof.Rows
noncomputable def defArgs (s : Stmt) : Arguments:=match s with
 | .FunctionDef _ a _ _ _ _ _ _ _ _=>a
 | _=>{ posonlyargs:=[],args:=[],vararg:=none,kwonlyargs:=[],kw_defaults:=[],kwarg:=none,defaults:=[] }
noncomputable def defBody (s : Stmt) : List Stmt:=match s with
 | .FunctionDef _ _ b _ _ _ _ _ _ _=>b
 | _=>[]
noncomputable def defScope (s : Stmt) : Scope:=match s with
 | .FunctionDef _ _ _ _ _ _ sc _ _ _=>sc
 | _=>{ kind:=.function,names:=[],isGenerator:=false,isCoroutine:=false }
noncomputable abbrev CX0 : CXT:=fun _ _ _ _ _ _=>False
noncomputable abbrev E0 : XK:=fun _ _ _=>False
theorem pass0 {X : Cx} : Passes CX0 X E0:=fun _ _ _ _ _ _ _ h=>h.elim
structure Fun (K : PySem.W.Frag) (x qual : Str) (st : Stmt) (f : Addr) (fd : FuncData) : Prop where
 ex : ∃ (oc : Value) (od : Option Addr) (kV doc pm : Value) (an : Option Addr) (cdv ct : Value) (osl : Array (Option Value)),
  fd = PySem.W.fnOf x qual (defArgs st) (defBody st) (defScope st) .none kV doc pm an cdv ct/\K.lookup f = some ⟨oc,od,.func fd,osl⟩/\PySem.W.codeIn K cdv qual = true
 kp : PySem.W.keepIn K (.ref f) = true
section
variable {P : Program} {w : World} {K : PySem.W.Frag} {mg : Str->Option Value} {base : Heap}
theorem Fun.ok {x qual : Str} {st : Stmt} {f : Addr} {fd : FuncData} {N ps : List Str} {k : Nat} {sp : Sp} (F : Fun K x qual st f fd) (S : FnScope N ps (defScope st)) (len : ∀ vs H Q E,sp vs H Q E->vs.length = ps.length)
  (hbody : ∀ (cdv : Value) (A : Around) (outer : List Env) (s : Shared) (H : Hp) (vs : List V) (Q : VK) (E : XK),Room k (A.deeper (envOfC qual (defScope st) s.heap.objs.size f cdv))->sp vs H Q E->
   ∃ t,PSs (cxOf CX0 P w K mg base N qual (defScope st) f cdv A outer s H E).nox (defBody st) t/\t { nx:=fun _ H'=>Q .non H',rt:=Q } (start N vs) H) : FnOk P w K mg base CX0 (k + 1) f fd ps sp:=by
 obtain ⟨oc,od,kV,doc,pm,an,cdv,ct,osl,rfl,lk,hcd⟩:=F.ex
 refine fn_of lk hcd S len fun A outer s H vs Q E hr hsp=>?_
 obtain ⟨t,h,q⟩:=hbody cdv A outer s H vs Q E hr hsp
 exact ⟨t,h.nox,q⟩
theorem Fun.binds {x qual : Str} {st : Stmt} {f : Addr} {fd : FuncData} {ps : List Str} (F : Fun K x qual st f fd)
  (h : ∀ (kV doc pm : Value) (an : Option Addr) (cdv ct : Value) (us : List Value),us.length = ps.length->bindArgs (PySem.W.fnOf x qual (defArgs st) (defBody st) (defScope st) .none kV doc pm an cdv ct) ⟨us,[]⟩ = pure (ps.zip us)) : Binds K fd ps []:=by
 obtain ⟨oc,od,kV,doc,pm,an,cdv,ct,osl,rfl,lk,hcd⟩:=F.ex
 exact .all (h kV doc pm an cdv ct)
theorem fun_mk {x qual : Str} {st : Stmt} {f : Addr} {oc : Value} {od an : Option Addr} {osl : Array (Option Value)} {kV doc pm cdv ct : Value} (l : K.lookup f = some ⟨oc,od,.func (PySem.W.fnOf x qual (defArgs st) (defBody st) (defScope st) .none kV doc pm an cdv ct),osl⟩)
  (c : PySem.W.codeIn K cdv qual = true) (k : PySem.W.keepIn K (.ref f) = true) : Fun K x qual st f (PySem.W.fnOf x qual (defArgs st) (defBody st) (defScope st) .none kV doc pm an cdv ct):=⟨⟨oc,od,kV,doc,pm,an,cdv,ct,osl,rfl,l,c⟩,k⟩
end
section
variable {X : Cx}
end
noncomputable def Same (H H' : Hp) : Prop:=∀ b o,H b = some o->H' b = some o
theorem Same.refl (H : Hp) : Same H H:=fun _ _ h=>h
theorem Same.trans {H H1 H2 : Hp} (a : Same H H1) (b : Same H1 H2) : Same H H2:=fun c o h=>b c o (a c o h)
theorem Same.free {H H' : Hp} (e : Same H H') {l : Addr} (h : H' l = Option.none) : H l = Option.none:=by
 cases q : H l with
 | none=>rfl
 | some o=>
  rw [e l o q] at h
  cases h
section
variable {X : Cx}
end
section
variable {κ : Type} [DecidableEq κ]
end
end L2
end
section
namespace TS
open PySem PyProof.Rows
end TS
end
section
namespace TS
open PySem PyProof.Rows
section
variable {prog : Program} {w : World} {A : Around} {E : Value->Shared->Prop} {s : Shared}
end
end TS
end
section
namespace TS
open PySem PyProof.Rows
section
variable {prog : Program} {w : World} {A : Around} {E : Value->Shared->Prop} {s : Shared} {kd : SortKind} {U : Keyed->Prop} {blt : Keyed->Keyed->Bool}
end
section
variable (blt : Keyed->Keyed->Bool)
variable {blt}
variable {a b out : Array Keyed} {ia ib : Nat}
end
end TS
end
section
set_option maxHeartbeats 1000000
namespace TS
open PySem PyProof.Rows
section
variable {prog : Program} {w : World} {A : Around} {E : Value->Shared->Prop} {s : Shared} {kd : SortKind} {U : Keyed->Prop} {blt : Keyed->Keyed->Bool}
end
end TS
end
section
set_option maxHeartbeats 1000000
namespace TS
open PySem PyProof.Rows
section
variable {blt : Keyed->Keyed->Bool}
variable {a b out : Array Keyed} {na nb : Nat}
variable {U : Keyed->Prop}
end
section
variable {prog : Program} {w : World} {A : Around} {E : Value->Shared->Prop} {s : Shared} {kd : SortKind} {U : Keyed->Prop} {blt : Keyed->Keyed->Bool}
end
end TS
end
section
set_option maxHeartbeats 1000000
namespace TS
open PySem PyProof.Rows
section
variable {blt : Keyed->Keyed->Bool} {U : Keyed->Prop}
end
section
variable {prog : Program} {w : World} {A : Around} {E : Value->Shared->Prop} {s : Shared} {kd : SortKind} {U : Keyed->Prop} {blt : Keyed->Keyed->Bool}
end
end TS
end
section
set_option maxHeartbeats 1000000
namespace TS
open PySem PyProof.Rows
section
variable {blt : Keyed->Keyed->Bool} {U : Keyed->Prop}
end
section
variable {prog : Program} {w : World} {A : Around} {E : Value->Shared->Prop} {s : Shared} {kd : SortKind} {U : Keyed->Prop} {blt : Keyed->Keyed->Bool}
end
end TS
end
section
set_option maxHeartbeats 1000000
namespace TS
open PySem PyProof.Rows
section
variable {blt : Keyed->Keyed->Bool} {U : Keyed->Prop}
end
section
variable {prog : Program} {w : World} {A : Around} {E : Value->Shared->Prop} {s : Shared} {kd : SortKind} {U : Keyed->Prop} {blt : Keyed->Keyed->Bool}
end
section
variable {blt : Keyed->Keyed->Bool} {U : Keyed->Prop}
end
end TS
end
section
set_option maxHeartbeats 1000000
namespace TS
open PySem PyProof.Rows
section
variable {prog : Program} {w : World} {A : Around} {E : Value->Shared->Prop} {s : Shared} {kd : SortKind} {U : Keyed->Prop} {blt : Keyed->Keyed->Bool}
end
end TS
end
section
namespace Mi
open PySem
inductive D where
 | undef | non | bl (b : Bool) | int (i : Int) | str (x : Str)
 | tup (xs : List D) | lst (xs : List D) | dct (kvs : List (D × D)) | scr (xs : List D) | fdc (kvs : List (D × D))
 deriving Inhabited
mutual
noncomputable def D.pure : D->Bool
 | .tup xs=>D.pures xs
 | .lst _=>false
 | .dct _=>false
 | .undef=>false
 | .scr _=>false
 | .fdc _=>false
 | _=>true
noncomputable def D.pures : List D->Bool
 | []=>true
 | x :: xs=>x.pure && D.pures xs
end
mutual
noncomputable def eqD : D->D->Bool
 | .non,.non=>true
 | .bl a,.bl b=>a == b
 | .int a,.int b=>a == b
 | .bl a,.int b=>(if a then (1 : Int) else 0) == b
 | .int a,.bl b=>a == (if b then (1 : Int) else 0)
 | .str a,.str b=>a == b
 | .tup xs,.tup ys=>eqDs xs ys
 | .lst xs,.lst ys=>eqDs xs ys
 | _,_=>false
noncomputable def eqDs : List D->List D->Bool
 | [],[]=>true
 | x :: xs,y :: ys=>eqD x y && eqDs xs ys
 | _,_=>false
end
mutual
noncomputable def D.eqok : Nat->D->Bool
 | n + 1,.tup xs=>D.eqoks n xs
 | n + 1,.lst xs=>D.eqoks n xs
 | 0,.tup _=>false
 | 0,.lst _=>false
 | _,.dct _=>false
 | _,.undef=>false
 | _,.scr _=>false
 | _,.fdc _=>false
 | _,_=>true
noncomputable def D.eqoks : Nat->List D->Bool
 | _,[]=>true
 | n,x :: xs=>D.eqok n x && D.eqoks n xs
end
inductive Ordr where | lt | le | gt | ge
 deriving DecidableEq
noncomputable def Ordr.int : Ordr->Int->Int->Bool
 | .lt,a,b=>decide (a < b) | .le,a,b=>decide (a<=b) | .gt,a,b=>decide (b < a) | .ge,a,b=>decide (b<=a)
noncomputable def Ordr.nat : Ordr->Nat->Nat->Bool
 | .lt,a,b=>decide (a < b) | .le,a,b=>decide (a<=b) | .gt,a,b=>decide (b < a) | .ge,a,b=>decide (b<=a)
noncomputable def strLt (a b : Str) : Bool:=decide (a.cps.toList < b.cps.toList)
noncomputable def Ordr.str : Ordr->Str->Str->Bool
 | .lt,a,b=>strLt a b | .le,a,b=>!strLt b a | .gt,a,b=>strLt b a | .ge,a,b=>!strLt a b
mutual
noncomputable def ordD (o : Ordr) : D->D->Option Bool
 | .int a,.int b=>some (o.int a b)
 | .str a,.str b=>some (o.str a b)
 | .tup xs,.tup ys=>ordDs o xs ys
 | _,_=>none
noncomputable def ordDs (o : Ordr) : List D->List D->Option Bool
 | [],ys=>some (o.nat 0 ys.length)
 | x :: xs,[]=>some (o.nat (x :: xs).length 0)
 | x :: xs,y :: ys=>if eqD x y then ordDs o xs ys else ordD o x y
end
inductive Res (α : Type) where
 | ok (a : α) | err (c : Str) (as : List D) | bad
noncomputable def Res.bind {α β : Type} : Res α->(α->Res β)->Res β
 | .ok a,f=>f a
 | .err c as,_=>.err c as
 | .bad,_=>.bad
noncomputable instance : Monad Res where
 pure:=.ok
 bind:=Res.bind
@[simp] theorem Res.ok_bind {α β : Type} (a : α) (f : α->Res β) : ((Res.ok a) >>= f) = f a:=rfl
@[simp] theorem Res.err_bind {α β : Type} (c : Str) (as : List D) (f : α->Res β) : ((Res.err c as : Res α) >>= f) = .err c as:=rfl
@[simp] theorem Res.bad_bind {α β : Type} (f : α->Res β) : ((Res.bad : Res α) >>= f) = .bad:=rfl
@[simp] theorem Res.pure_eq {α : Type} (a : α) : (pure a : Res α) = .ok a:=rfl
theorem Res.bind_ok {α β : Type} {m : Res α} {f : α->Res β} {b : β} (h : (m >>= f) = .ok b) : ∃ a,m = .ok a/\f a = .ok b:=by
 cases m with
 | ok a=>exact ⟨a,rfl,h⟩
 | err c as=>cases h
 | bad=>cases h
noncomputable def Res.ofOpt {α : Type} : Option α->Res α
 | some a=>.ok a
 | none=>.bad
@[simp] theorem Res.ofOpt_some {α : Type} (a : α) : Res.ofOpt (some a) = .ok a:=rfl
theorem Res.ofOpt_ok {α : Type} {o : Option α} {a : α} (h : Res.ofOpt o = .ok a) : o = some a:=by
 cases o with
 | none=>cases h
 | some b=>cases h;rfl
noncomputable def lim : Nat:=1000000
inductive Bop where | add | sub | mul | fdiv | mod | pow
 deriving DecidableEq
inductive Cop where | eq | ne | ord (o : Ordr) | isin | notin | isN | notN
 deriving DecidableEq
noncomputable def smallB (i : Int) : Bool:=decide (-(2 ^ 64) < i) && decide (i < 2 ^ 64)
noncomputable def binD : Bop->D->D->Res D
 | .add,.int a,.int b=>.ok (.int (a + b))
 | .sub,.int a,.int b=>.ok (.int (a - b))
 | .mul,.int a,.int b=>if smallB a || smallB b then .ok (.int (a * b)) else .bad
 | .fdiv,.int a,.int b=>if decide (0 < b) && decide (b < 1073741824) then .ok (.int (a / b)) else .bad
 | .mod,.int a,.int b=>if decide (0 < b) then .ok (.int (a % b)) else .bad
 | .pow,.int a,.int b=>if decide (0<=b) && decide (b<=1000000) && decide (a.natAbs < 2 ^ 64) then .ok (.int (a ^ b.toNat)) else .bad
 | .add,.str a,.str b=>if decide (a.length + b.length<=lim) then .ok (.str (a ++ b)) else .bad
 | .add,.lst a,.lst b=>if decide (a.length + b.length<=lim) && D.pures a && D.pures b then .ok (.lst (a ++ b)) else .bad
 | _,_,_=>.bad
noncomputable def truD : D->Res Bool
 | .non=>.ok false
 | .bl b=>.ok b
 | .int i=>.ok (i != 0)
 | .str x=>if decide (x.length<=lim) then .ok ((x.length : Int) != 0) else .bad
 | .tup xs=>.ok (!xs.isEmpty)
 | .lst xs=>.ok (!xs.isEmpty)
 | .dct kvs=>.ok (!kvs.isEmpty)
 | .undef=>.bad
 | .fdc _=>.bad
 | .scr xs=>.ok (!xs.isEmpty)
noncomputable def flatKey : D->Bool
 | .int _=>true
 | .str _=>true
 | _=>false
noncomputable def keyOk : D->Bool
 | .int _=>true
 | .str _=>true
 | .tup xs=>xs.all flatKey
 | _=>false
noncomputable def isTup : D->Bool
 | .tup _=>true
 | _=>false
noncomputable def lookD : List (D × D)->D->Option D
 | [],_=>none
 | (k,v) :: r,q=>if eqD k q then some v else lookD r q
noncomputable def putD : List (D × D)->D->D->List (D × D)
 | [],q,w=>[(q,w)]
 | (k,v) :: r,q,w=>if eqD k q then (k,w) :: r else (k,v) :: putD r q w
noncomputable def fitK (kvs : List (D × D)) (k : D) : Bool:=keyOk k && kvs.all (fun p=>isTup p.1 == isTup k)
noncomputable def eqdepth : Nat:=12
noncomputable def cmpD : Cop->D->D->Res D
 | .eq,a,b=>if a.eqok eqdepth && b.eqok eqdepth then .ok (.bl (eqD a b)) else .bad
 | .ne,a,b=>if a.eqok eqdepth && b.eqok eqdepth then .ok (.bl (!eqD a b)) else .bad
 | .ord o,a,b=>if a.eqok eqdepth && b.eqok eqdepth then (match ordD o a b with | some k=>.ok (.bl k) | none=>.bad) else .bad
 | .isin,a,.tup ys=>if a.eqok eqdepth && D.eqoks eqdepth ys then .ok (.bl (ys.any fun y=>eqD y a)) else .bad
 | .isin,a,.lst ys=>if a.eqok eqdepth && D.eqoks eqdepth ys then .ok (.bl (ys.any fun y=>eqD y a)) else .bad
 | .isin,a,.dct kvs=>if fitK kvs a then .ok (.bl (lookD kvs a).isSome) else .bad
 | .notin,a,.tup ys=>if a.eqok eqdepth && D.eqoks eqdepth ys then .ok (.bl (!(ys.any fun y=>eqD y a))) else .bad
 | .notin,a,.lst ys=>if a.eqok eqdepth && D.eqoks eqdepth ys then .ok (.bl (!(ys.any fun y=>eqD y a))) else .bad
 | .notin,a,.dct kvs=>if fitK kvs a then .ok (.bl (!(lookD kvs a).isSome)) else .bad
 | .isN,.scr _,.non=>.bad
 | .notN,.scr _,.non=>.bad
 | .isN,.fdc _,.non=>.bad
 | .notN,.fdc _,.non=>.bad
 | .isN,.non,.non=>.ok (.bl true)
 | .isN,a,.non=>.ok (.bl false)
 | .notN,.non,.non=>.ok (.bl false)
 | .notN,a,.non=>.ok (.bl true)
 | _,_,_=>.bad
noncomputable def ixD (n : Nat) (i : Int) : Option Nat:=if 0<=i then (if i < n then some i.toNat else none) else if -(n : Int)<=i then some (i + n).toNat else none
noncomputable def getD (d i : D) : Res D:=
 match d,i with
 | .tup xs,.int i=>Res.ofOpt ((ixD xs.length i).bind fun j=>xs[j]?)
 | .lst xs,.int i=>Res.ofOpt ((ixD xs.length i).bind fun j=>xs[j]?)
 | .scr xs,.int i=>Res.ofOpt ((ixD xs.length i).bind fun j=>xs[j]?)
 | .str x,.int i=>if decide (x.length<=lim) then Res.ofOpt (((ixD x.cps.toList.length i).bind fun j=>x.cps.toList[j]?).map fun c=>D.str ⟨#[c]⟩) else .bad
 | .dct kvs,k=>if keyOk k then Res.ofOpt (lookD kvs k) else .bad
 | .fdc kvs,k=>if keyOk k then Res.ofOpt (lookD kvs k) else .bad
 | _,_=>.bad
noncomputable def sIxD (n d : Nat) : Option Int->Nat
 | none=>d
 | some v=>if v < 0 then (max (v + (n : Int)) 0).toNat else (min v (n : Int)).toNat
noncomputable def cutD {α : Type} (xs : List α) (lo hi : Option Int) : List α:=(xs.drop (sIxD xs.length 0 lo)).take (sIxD xs.length xs.length hi - sIxD xs.length 0 lo)
inductive Ty where | int | str | bool | list | tuple | dict
 deriving DecidableEq
noncomputable def isTy : Ty->D->Res Bool
 | _,.undef=>.bad
 | _,.scr _=>.bad
 | _,.fdc _=>.bad
 | .int,.int _=>.ok true
 | .int,.bl _=>.ok true
 | .bool,.bl _=>.ok true
 | .str,.str _=>.ok true
 | .tuple,.tup _=>.ok true
 | .list,.lst _=>.ok true
 | .dict,.dct _=>.ok true
 | _,_=>.ok false
noncomputable def bound62 (i : Int) : Bool:=decide (-(2 ^ 62)<=i) && decide (i < 2 ^ 62)
noncomputable def asB : D->Res Bool
 | .bl b=>.ok b
 | _=>.bad
noncomputable def asI : D->Res Int
 | .int i=>.ok i
 | _=>.bad
inductive Fl where
 | nx (ρ : List D) | rt (d : D) | bk (ρ : List D) | ct (ρ : List D)
noncomputable def endD : Fl->Res D
 | .rt d=>.ok d
 | .nx _=>.ok .non
 | _=>.bad
noncomputable abbrev FE:=List D->Res D
noncomputable abbrev FT:=List D->Res Bool
noncomputable abbrev FA:=List D->Res (List D)
noncomputable def bVar (i : Nat) : FE:=fun ρ=>match ρ.getD i .undef with | .undef=>.bad | d=>.ok d
noncomputable def bC (d : D) : FE:=fun _=>.ok d
noncomputable def b2 (f : D->D->Res D) (a b : FE) : FE:=fun ρ=>do let x <- a ρ;let y <- b ρ;f x y
noncomputable def b1 (f : D->Res D) (a : FE) : FE:=fun ρ=>do let x <- a ρ;f x
noncomputable def bTB (a : FE) : FT:=fun ρ=>do let x <- a ρ;asB x
noncomputable def bNot (a : FT) : FT:=fun ρ=>do let x <- a ρ;pure (!x)
noncomputable def bAnd (a b : FT) : FT:=fun ρ=>do let x <- a ρ;if x then b ρ else pure false
noncomputable def bOr (a b : FT) : FT:=fun ρ=>do let x <- a ρ;if x then pure true else b ρ
noncomputable def bAndV (a b : FE) : FE:=fun ρ=>do let x <- a ρ;let k <- asB x;if k then b ρ else pure (.bl false)
noncomputable def bCh (f g : D->D->Res D) (a b c : FE) : FE:=fun ρ=>do let x <- a ρ;let y <- b ρ;let z <- f x y;let k <- asB z;if k then (do let u <- c ρ;g y u) else pure (.bl false)
noncomputable def bNil : FA:=fun _=>.ok []
noncomputable def bCons (a : FE) (b : FA) : FA:=fun ρ=>do let x <- a ρ;let xs <- b ρ;pure (x :: xs)
noncomputable def bTup (a : FA) : FE:=fun ρ=>do let xs <- a ρ;if decide (xs.length<=lim) then pure (.tup xs) else .bad
noncomputable def bLst (a : FA) : FE:=fun ρ=>do let xs <- a ρ;if decide (xs.length<=lim) then pure (.lst xs) else .bad
noncomputable def bCall (f : List D->Res D) (a : FA) : FE:=fun ρ=>do let xs <- a ρ;f xs
noncomputable def bM (f : D->List D->Res D) (o : FE) (a : FA) : FE:=fun ρ=>do let x <- o ρ;let xs <- a ρ;f x xs
noncomputable def bSome (a : FE) : List D->Res (Option Int):=fun ρ=>do let x <- a ρ;let i <- asI x;pure (some i)
noncomputable def bNone : List D->Res (Option Int):=fun _=>.ok none
noncomputable def truN : D->Res Bool
 | .dct _=>.bad
 | .scr _=>.bad
 | .fdc _=>.bad
 | d=>truD d
noncomputable def bTr (a : FE) : FT:=fun ρ=>do let x <- a ρ;truN x
noncomputable def slcD : D->Option Int->Option Int->Res D
 | .lst xs,lo,hi=>if D.pures xs then .ok (.lst (cutD xs lo hi)) else .bad
 | .scr xs,lo,hi=>if D.pures xs then .ok (.lst (cutD xs lo hi)) else .bad
 | .tup xs,lo,hi=>if !D.pures xs || decide (sIxD xs.length 0 lo = 0/\sIxD xs.length xs.length hi = xs.length) then .bad else .ok (.tup (cutD xs lo hi))
 | _,_,_=>.bad
noncomputable def lenD : List D->Res D
 | [.tup xs]=>.ok (.int xs.length)
 | [.lst xs]=>.ok (.int xs.length)
 | [.scr xs]=>.ok (.int xs.length)
 | [.str x]=>if decide (x.length<=lim) then .ok (.int x.length) else .bad
 | _=>.bad
noncomputable def tupleD : List D->Res D
 | [.tup xs]=>.ok (.tup xs)
 | [.lst xs]=>.ok (.tup xs)
 | _=>.bad
noncomputable def Ty.nm : Ty->String
 | .int => "int" | .str => "str" | .bool => "bool" | .list => "list" | .tuple => "tuple" | .dict => "dict"
noncomputable def isTyD (t : Ty) (d : D) : Res D:=do let k <- isTy t d;pure (.bl k)
noncomputable def argN (n : Nat) (f : List D->Res D) : List D->Res D:=fun ds=>if decide (ds.length = n) then f ds else .bad
noncomputable abbrev FI:=List D->Res (List D × Bool)
noncomputable def itemsD : D->Res (List D)
 | .lst xs=>.ok xs
 | .tup xs=>.ok xs
 | _=>.bad
noncomputable def rng1D : List D->Res (List D × Bool)
 | [.int n]=>if bound62 n then .ok ((List.range n.toNat).map fun (k : Nat)=>D.int (0 + (k : Int)),true) else .bad
 | _=>.bad
noncomputable def bThen (f : FA) (g : List D->Res (List D × Bool)) : FI:=fun ρ=>do let xs <- f ρ;g xs
noncomputable def padD (n : Nat) (ρ : List D) : List D:=(List.range n).map fun i=>ρ.getD i .undef
noncomputable def oneT : D->Res (List D):=fun d=>.ok [d]
noncomputable def tupT (m : Nat) : D->Res (List D)
 | .tup ds=>if decide (ds.length = m) then .ok ds else .bad
 | _=>.bad
noncomputable def cstep (n : Nat) (t : D->Res (List D)) (c : FT) (f : FE) (k : Bool) (ρ : List D) (acc : List D) (x : D) : Res (List D):=do
 let bs <- t x
 let ok <- c (padD n ρ ++ bs)
 if ok then (do
  let y <- f (padD n ρ ++ bs)
  if k || y.pure then pure (acc ++ [y]) else .bad)
 else pure acc
noncomputable def cfold (g : List D->D->Res (List D)) : List D->List D->Res (List D)
 | acc,[]=>.ok acc
 | acc,x :: xs=>do let a <- g acc x;cfold g a xs
noncomputable def bComp (n : Nat) (it : FI) (t : D->Res (List D)) (c : FT) (f : FE) (k : Bool) : FE:=fun ρ=>do
 let xs <- it ρ
 if decide (xs.1.length<=lim) then (do
  let ys <- cfold (cstep n t c f k ρ) [] xs.1
  pure (.lst ys)) else .bad
noncomputable def bTrue : FT:=fun _=>.ok true
noncomputable abbrev FS:=List D->Res Fl
noncomputable def inner : D->Bool
 | .lst xs=>D.pures xs
 | .dct kvs=>D.pures (kvs.map (·.2))
 | _=>false
noncomputable def sNil : FS:=fun ρ=>.ok (.nx ρ)
noncomputable def sSeq (f g : FS) : FS:=fun ρ=>do
 let r <- f ρ
 match r with
 | .nx ρ'=>g ρ'
 | r=>.ok r
noncomputable def sSet (o : Bool) (i : Nat) (f : FE) (k : Bool) : FS:=fun ρ=>do
 let d <- f ρ
 if (if o then k && inner d else k || d.pure) then .ok (.nx (ρ.set i d)) else .bad
noncomputable def sIf (c : FT) (f g : FS) : FS:=fun ρ=>do
 let k <- c ρ
 if k then f ρ else g ρ
noncomputable def sRet (f : FE) (k : Bool) : FS:=fun ρ=>do
 let d <- f ρ
 if k || d.pure then .ok (.rt d) else .bad
noncomputable def sRetV (i : Nat) : FS:=fun ρ=>do
 let d <- bVar i ρ
 .ok (.rt d)
noncomputable def sApp (i : Nat) (f : FE) : FS:=fun ρ=>do
 let d <- f ρ
 match ρ.getD i .undef with
 | .lst xs=>if decide (xs.length < lim) && d.pure then .ok (.nx (ρ.set i (.lst (xs ++ [d])))) else .bad
 | _=>.bad
noncomputable def tg1 (i : Nat) : D->List D->Res (List D):=fun d ρ=>.ok (ρ.set i d)
noncomputable def setsD : List Nat->List D->List D->List D
 | i :: is,d :: ds,ρ=>setsD is ds (ρ.set i d)
 | _,_,ρ=>ρ
noncomputable def tgN (is : List Nat) : D->List D->Res (List D)
 | .tup ds,ρ=>if decide (ds.length = is.length) then .ok (setsD is ds ρ) else .bad
 | _,_=>.bad
noncomputable def forS (t : D->List D->Res (List D)) (body : FS) : List D->List D->Res Fl
 | [],ρ=>.ok (.nx ρ)
 | x :: xs,ρ=>do
  let ρ1 <- t x ρ
  let r <- body ρ1
  match r with
  | .nx ρ'=>forS t body xs ρ'
  | .ct ρ'=>forS t body xs ρ'
  | .bk ρ'=>.ok (.nx ρ')
  | .rt d=>.ok (.rt d)
noncomputable def sFor (it : FI) (t : D->List D->Res (List D)) (body : FS) : FS:=fun ρ=>do
 let xs <- it ρ
 if xs.2 then forS t body xs.1 ρ else .bad
noncomputable def sForV (i : Nat) (t : D->List D->Res (List D)) (body : FS) : FS:=fun ρ=>do
 let d <- bVar i ρ
 let xs <- itemsD d
 forS t body xs ρ
noncomputable def fnS (n m : Nat) (f : FS) : List D->Res D:=fun ds=>do
 let r <- f (ds ++ List.replicate (m - n) .undef)
 endD r
end Mi
end
section
namespace Mi
open PySem
end Mi
end
section
set_option maxRecDepth 100000
namespace Mi
open PySem L2
class KFrag where
 K : PySem.W.Frag
variable [KFrag]
noncomputable def ScrAt (H : Hp) (a : Addr) (xs : List V) : Prop:=(∃ o,H a = some (.frz o (.lst xs)))\/
 ∃ (o : Obj) (its : Array Value) (n : Nat),KFrag.K.lookup a = some o/\o.cls = .type "list"/\o.dict = none/\o.data = .seq its n/\its.size<=sizeLine/\Vals xs its.toList
theorem ScrAt.sq {H : Hp} {a : Addr} {xs : List V} {K : PySem.W.Frag} (h : ScrAt H a xs) (hK : KFrag.K = K) : SqL K H a xs:=by
 subst hK
 rcases h with ⟨o,h⟩ | h
 ·exact .inl (.inr ⟨o,h⟩)
 ·exact .inr h
noncomputable def kD : Key->D
 | .inl i=>.int i
 | .inr x=>.str x
noncomputable def mutO : HO->Bool
 | .lst _=>true
 | .dK _=>true
 | .dT _=>true
 | _=>false
mutual
inductive Rep (P : Addr->Prop) (H : Hp) : V->D->Prop
 | non : Rep P H .non .non
 | bl (b : Bool) : Rep P H (.bl b) (.bl b)
 | int (i : Int) : Rep P H (.int i) (.int i)
 | str (x : Str) : Rep P H (.str x) (.str x)
 | tup {a : Addr} {xs : List V} {ds : List D} : H a = some (.tup xs)->Reps P H xs ds->Rep P H (.ref a) (.tup ds)
 | lst {a : Addr} {xs : List V} {ds : List D} : H a = some (.lst xs)->P a->Reps P H xs ds->Rep P H (.ref a) (.lst ds)
 | frz {a : Addr} {xs : List V} {ds : List D} : ScrAt H a xs->Reps P H xs ds->Rep P H (.ref a) (.scr ds)
 | dK {a : Addr} {kvs : List (Key × V)} {ds : List (D × D)} : H a = some (.dK kvs)->P a->RepK P H kvs ds->(kvs.map (·.1)).Nodup->Rep P H (.ref a) (.dct ds)
 | dT {a : Addr} {kvs : List (List Key × V)} {ds : List (D × D)} : H a = some (.dT kvs)->P a->RepT P H kvs ds->(kvs.map (·.1)).Nodup->Rep P H (.ref a) (.dct ds)
 | fdK {a : Addr} {o : Obj} {kvs : List (Key × V)} {ds : List (D × D)} : H a = some (.frz o (.dK kvs))->RepK P H kvs ds->(kvs.map (·.1)).Nodup->Rep P H (.ref a) (.fdc ds)
 | fdT {a : Addr} {o : Obj} {kvs : List (List Key × V)} {ds : List (D × D)} : H a = some (.frz o (.dT kvs))->RepT P H kvs ds->(kvs.map (·.1)).Nodup->Rep P H (.ref a) (.fdc ds)
inductive Reps (P : Addr->Prop) (H : Hp) : List V->List D->Prop
 | nil : Reps P H [] []
 | cons {v : V} {d : D} {vs : List V} {ds : List D} : Rep P H v d->Reps P H vs ds->Reps P H (v :: vs) (d :: ds)
inductive RepK (P : Addr->Prop) (H : Hp) : List (Key × V)->List (D × D)->Prop
 | nil : RepK P H [] []
 | cons {k : Key} {v : V} {d : D} {r : List (Key × V)} {ds : List (D × D)} : Rep P H v d->RepK P H r ds->RepK P H ((k,v) :: r) ((kD k,d) :: ds)
inductive RepT (P : Addr->Prop) (H : Hp) : List (List Key × V)->List (D × D)->Prop
 | nil : RepT P H [] []
 | cons {k : List Key} {v : V} {d : D} {r : List (List Key × V)} {ds : List (D × D)} : Rep P H v d->RepT P H r ds->RepT P H ((k,v) :: r) ((.tup (k.map kD),d) :: ds)
end
noncomputable def Keep (P : Addr->Prop) (H H' : Hp) : Prop:=∀ a o,H a = some o->(P a\/mutO o = false)->H' a = some o
theorem Keep.same {P : Addr->Prop} {H H' : Hp} (h : Same H H') : Keep P H H':=fun a o e _=>h a o e
mutual
theorem Rep.keep {P P' : Addr->Prop} {H H' : Hp} (k : Keep P H H') (m : ∀ a,P a->P' a) : ∀ {v : V} {d : D},Rep P H v d->Rep P' H' v d
 | _,_,.non=>.non
 | _,_,.bl b=>.bl b
 | _,_,.int i=>.int i
 | _,_,.str x=>.str x
 | _,_,.tup e r=>.tup (k _ _ e (.inr rfl)) (Reps.keep k m r)
 | _,_,.lst e p r=>.lst (k _ _ e (.inl p)) (m _ p) (Reps.keep k m r)
 | _,_,.frz e r=>.frz (e.imp (fun ⟨o,e⟩=>⟨o,k _ _ e (.inr rfl)⟩) id) (Reps.keep k m r)
 | _,_,.dK e p r n=>.dK (k _ _ e (.inl p)) (m _ p) (RepK.keep k m r) n
 | _,_,.dT e p r n=>.dT (k _ _ e (.inl p)) (m _ p) (RepT.keep k m r) n
 | _,_,.fdK e r n=>.fdK (k _ _ e (.inr rfl)) (RepK.keep k m r) n
 | _,_,.fdT e r n=>.fdT (k _ _ e (.inr rfl)) (RepT.keep k m r) n
theorem Reps.keep {P P' : Addr->Prop} {H H' : Hp} (k : Keep P H H') (m : ∀ a,P a->P' a) : ∀ {v : List V} {d : List D},Reps P H v d->Reps P' H' v d
 | _,_,.nil=>.nil
 | _,_,.cons r t=>.cons (Rep.keep k m r) (Reps.keep k m t)
theorem RepK.keep {P P' : Addr->Prop} {H H' : Hp} (k : Keep P H H') (m : ∀ a,P a->P' a) : ∀ {v : List (Key × V)} {d : List (D × D)},RepK P H v d->RepK P' H' v d
 | _,_,.nil=>.nil
 | _,_,.cons r t=>.cons (Rep.keep k m r) (RepK.keep k m t)
theorem RepT.keep {P P' : Addr->Prop} {H H' : Hp} (k : Keep P H H') (m : ∀ a,P a->P' a) : ∀ {v : List (List Key × V)} {d : List (D × D)},RepT P H v d->RepT P' H' v d
 | _,_,.nil=>.nil
 | _,_,.cons r t=>.cons (Rep.keep k m r) (RepT.keep k m t)
end
theorem Rep.mono {P P' : Addr->Prop} {H : Hp} {v : V} {d : D} (r : Rep P H v d) (m : ∀ a,P a->P' a) : Rep P' H v d:=r.keep (fun _ _ e _=>e) m
theorem Reps.mono {P P' : Addr->Prop} {H : Hp} {v : List V} {d : List D} (r : Reps P H v d) (m : ∀ a,P a->P' a) : Reps P' H v d:=r.keep (fun _ _ e _=>e) m
theorem Rep.same {P : Addr->Prop} {H H' : Hp} {v : V} {d : D} (r : Rep P H v d) (s : Same H H') : Rep P H' v d:=r.keep (.same s) fun _ h=>h
theorem Reps.same {P : Addr->Prop} {H H' : Hp} {v : List V} {d : List D} (r : Reps P H v d) (s : Same H H') : Reps P H' v d:=r.keep (.same s) fun _ h=>h
mutual
theorem Rep.ofPure {P P' : Addr->Prop} {H : Hp} : ∀ {v : V} {d : D},Rep P H v d->d.pure = true->Rep P' H v d
 | _,_,.non,_=>.non
 | _,_,.bl b,_=>.bl b
 | _,_,.int i,_=>.int i
 | _,_,.str x,_=>.str x
 | _,_,.tup e r,h=>.tup e (Reps.ofPure r (by rw [D.pure] at h;exact h))
 | _,_,.lst _ _ _,h=>by rw [D.pure] at h;cases h
 | _,_,.frz _ _,h=>by rw [D.pure] at h;cases h
 | _,_,.dK _ _ _ _,h=>by rw [D.pure] at h;cases h
 | _,_,.dT _ _ _ _,h=>by rw [D.pure] at h;cases h
 | _,_,.fdK _ _ _,h=>by rw [D.pure] at h;cases h
 | _,_,.fdT _ _ _,h=>by rw [D.pure] at h;cases h
theorem Reps.ofPure {P P' : Addr->Prop} {H : Hp} : ∀ {v : List V} {d : List D},Reps P H v d->D.pures d = true->Reps P' H v d
 | _,_,.nil,_=>.nil
 | _,_,.cons r t,h=>by
  rw [D.pures,Bool.and_eq_true] at h
  exact .cons (Rep.ofPure r h.1) (Reps.ofPure t h.2)
end
theorem Reps.length {P : Addr->Prop} {H : Hp} : ∀ {v : List V} {d : List D},Reps P H v d->v.length = d.length
 | _,_,.nil=>rfl
 | _,_,.cons _ t=>by rw [List.length_cons,List.length_cons,Reps.length t]
theorem Reps.get {P : Addr->Prop} {H : Hp} : ∀ {vs : List V} {ds : List D} {i : Nat} {d : D},Reps P H vs ds->ds[i]? = some d->∃ v,vs[i]? = some v/\Rep P H v d
 | _,_,_,_,.nil,e=>by simp at e
 | _,_,0,_,.cons r _,e=>by simp at e;subst e;exact ⟨_,rfl,r⟩
 | _,_,i + 1,d,.cons _ t,e=>by
  obtain ⟨v,h1,h2⟩:=Reps.get (i:=i) (d:=d) t (by simpa using e)
  exact ⟨v,by simpa using h1,h2⟩
theorem Reps.append {P : Addr->Prop} {H : Hp} : ∀ {vs ws : List V} {ds es : List D},Reps P H vs ds->Reps P H ws es->Reps P H (vs ++ ws) (ds ++ es)
 | _,_,_,_,.nil,s=>s
 | _,_,_,_,.cons r t,s=>.cons r (Reps.append t s)
theorem Reps.take {P : Addr->Prop} {H : Hp} : ∀ {vs : List V} {ds : List D} (n : Nat),Reps P H vs ds->Reps P H (vs.take n) (ds.take n)
 | _,_,0,_=>.nil
 | _,_,_ + 1,.nil=>.nil
 | _,_,n + 1,.cons r t=>.cons r (Reps.take n t)
theorem Reps.drop {P : Addr->Prop} {H : Hp} : ∀ {vs : List V} {ds : List D} (n : Nat),Reps P H vs ds->Reps P H (vs.drop n) (ds.drop n)
 | _,_,0,r=>r
 | _,_,_ + 1,.nil=>.nil
 | _,_,n + 1,.cons _ t=>Reps.drop n t
theorem Reps.snoc {P : Addr->Prop} {H : Hp} {vs : List V} {ds : List D} {v : V} {d : D} (t : Reps P H vs ds) (r : Rep P H v d) : Reps P H (vs ++ [v]) (ds ++ [d]):=t.append (.cons r .nil)
theorem Rep.undef {P : Addr->Prop} {H : Hp} {v : V} : ¬ Rep P H v .undef:=fun h=>by cases h
noncomputable abbrev All : Addr->Prop:=fun _=>True
noncomputable abbrev New (H : Hp) : Addr->Prop:=fun a=>H a = none
theorem Rep.all {P : Addr->Prop} {H : Hp} {v : V} {d : D} (r : Rep P H v d) : Rep All H v d:=r.mono fun _ _=>trivial
theorem Reps.all {P : Addr->Prop} {H : Hp} {v : List V} {d : List D} (r : Reps P H v d) : Reps All H v d:=r.mono fun _ _=>trivial
theorem Same.new {H H' : Hp} (s : Same H H') : ∀ a,New H' a->New H a:=fun a h=>s.free h
theorem Same.upd {H : Hp} {a : Addr} {o : HO} (h : H a = none) : Same H (upd H a o):=fun b u e=>by rw [upd_ne (ne_of_none e h)];exact e
noncomputable def ER (H : Hp) (σ : St) (ρ : List D) : Prop:=∀ i,ρ.getD i .undef ≠ .undef->∃ v,σ[i]? = some (some v)/\Rep All H v (ρ.getD i .undef)
theorem ER.same {H H' : Hp} {σ : St} {ρ : List D} (e : ER H σ ρ) (s : Same H H') : ER H' σ ρ:=fun i h=>by
 obtain ⟨v,h1,h2⟩:=e i h
 exact ⟨v,h1,h2.same s⟩
section
variable (cf : Nat->List D->Res D) (ff : Nat->Bool)
end
theorem PE.imp {X : Cx} {e : PySem.Expr} {t t' : TE} (h : PE X e t) (i : ∀ σ H Q,t' σ H Q->t σ H Q) : PE X e t':=fun pins s σ H Q I q=>h pins s σ H Q I (i σ H Q q)
theorem PT.imp {X : Cx} {e : PySem.Expr} {t t' : TT} (h : PT X e t) (i : ∀ σ H Q,t' σ H Q->t σ H Q) : PT X e t':=fun pins s σ H Q I q=>h pins s σ H Q I (i σ H Q q)
theorem PA.imp {X : Cx} {e : List PySem.Expr} {t t' : TA} (h : PA X e t) (i : ∀ σ H Q,t' σ H Q->t σ H Q) : PA X e t':=fun pos pins s σ H Q I q=>h pos pins s σ H Q I (i σ H Q q)
end Mi
end
section
set_option maxRecDepth 100000
namespace L2
open PySem PySem.Spec PyProof.Rows
noncomputable def hideN (own : List Str) (x : Str) : Str:=if own.contains x then x ++ (" " : Str) else x
noncomputable def clF (env : Env) : List (Str × NameKind)->List (Str × Addr)->List (Str × Addr)
 | [],acc=>acc
 | (n,k) :: r,acc=>clF env r (if k == .free then (n,(env.cells.lookup n).getD 0) :: acc else acc)
theorem closure_eq {env : Env} : ∀ (names : List (Str × NameKind)) (acc : List (Str × Addr)),(∀ y ∈ names,y.2 = .free->∃ c,env.cells.lookup y.1 = some c)->
  (forIn names acc fun x cs=>(match x with
   | (name,kind)=>if (kind == .free) = true then cellOf env name >>= fun c=>pure (ForInStep.yield ((name,c) :: cs)) else pure (ForInStep.yield cs) : Sem (ForInStep (List (Str × Addr))))) = (pure (clF env names acc) : Sem _)
 | [],acc,_=>by rw [List.forIn_nil];rfl
 | (n,k) :: r,acc,h=>by
  rw [List.forIn_cons]
  by_cases hk : (k == .free) = true
  ·have hk' : k = .free:=by simpa using hk
   obtain ⟨c,e⟩:=h (n,k) (List.mem_cons_self ..) hk'
   have e' : cellOf env n = pure c:=by
    unfold cellOf
    have e2 : env.cells.lookup n = some c:=e
    rw [e2]
   dsimp only
   rw [if_pos hk,e',pure_bind,pure_bind]
   dsimp only
   rw [closure_eq r _ fun y hy=>h y (List.mem_cons_of_mem _ hy)]
   have e2 : env.cells.lookup n = some c:=e
   simp only [clF,hk,if_true,e2,Option.getD_some]
  ·dsimp only
   rw [if_neg hk,pure_bind]
   dsimp only
   rw [closure_eq r _ fun y hy=>h y (List.mem_cons_of_mem _ hy)]
   simp only [clF,hk,Bool.false_eq_true,if_false]
theorem closure_of {env : Env} {scope : Scope} (h : ∀ y ∈ scope.names,y.2 = .free->∃ c,env.cells.lookup y.1 = some c) : closureFor scope env = pure (clF env scope.names []):=by
 unfold closureFor
 have:=closure_eq (env:=env) scope.names [] h
 simp only [bind_pure] at *
 exact this
theorem clF_sub {env : Env} : ∀ {names : List (Str × NameKind)} {acc : List (Str × Addr)} {x : Str} {c : Addr},(∀ y ∈ names,y.2 = .free->∃ c,env.cells.lookup y.1 = some c)->(∀ x c,acc.lookup x = some c->env.cells.lookup x = some c)->
  (clF env names acc).lookup x = some c->env.cells.lookup x = some c
 | [],acc,x,c,_,h,e=>h x c e
 | (n,k) :: r,acc,x,c,q,h,e=>by
  unfold clF at e
  refine clF_sub (fun y hy=>q y (List.mem_cons_of_mem _ hy)) (fun y d hy=>?_) e
  by_cases hk : (k == .free) = true
  ·rw [if_pos hk,List.lookup_cons] at hy
   obtain ⟨c',e'⟩:=q (n,k) (List.mem_cons_self ..) (by simpa using hk)
   have e2 : env.cells.lookup n = some c':=e'
   cases hyn : y == n with
   | true=>
    rw [hyn] at hy
    have : y = n:=by simpa using hyn
    subst this
    rw [e2] at hy
    simp only [Option.getD_some] at hy
    rw [e2];exact hy
   | false=>rw [hyn] at hy;exact h y d hy
  ·rw [if_neg hk] at hy
   exact h y d hy
theorem clF_acc {env : Env} : ∀ {names : List (Str × NameKind)} {acc : List (Str × Addr)} {x : Str},(∃ c,acc.lookup x = some c)->∃ c,(clF env names acc).lookup x = some c
 | [],_,_,h=>h
 | (n,k) :: r,acc,x,⟨c,h⟩=>by
  unfold clF
  refine clF_acc ?_
  by_cases hk : (k == .free) = true
  ·rw [if_pos hk,List.lookup_cons]
   cases x == n with
   | true=>exact ⟨_,rfl⟩
   | false=>exact ⟨c,h⟩
  ·rw [if_neg hk];exact ⟨c,h⟩
theorem clF_has {env : Env} : ∀ {names : List (Str × NameKind)} {acc : List (Str × Addr)} {x : Str},(x,NameKind.free) ∈ names->∃ c,(clF env names acc).lookup x = some c
 | (n,k) :: r,acc,x,h=>by
  unfold clF
  rcases List.mem_cons.mp h with e | h
  ·cases e
   refine clF_acc ?_
   rw [if_pos (by decide),List.lookup_cons]
   simp
  ·exact clF_has h
structure CompSc (N : List Str) (sc scope : Scope) (own : List Str) : Prop where
 kind : scope.kind = .function
 nocell : ∀ y ∈ scope.names,y.2 ≠ .cell
 names : ∀ y ∈ scope.names,y.2 = .local->scope.names.lookup y.1 = some .local
 free : ∀ y ∈ scope.names,y.2 = .free->sc.names.lookup y.1 = some .cell\/sc.names.lookup y.1 = some .free
 ownl : ∀ x ∈ own,scope.names.lookup x = some .local
 hid : ∀ x ∈ own,scope.names.lookup (x ++ (" " : Str)) = none
 loc : ∀ y ∈ scope.names,y.2 = .local->y.1 ∈ own\/y.1 ∉ N
structure CompCx (X X' : Cx) (scope : Scope) (own : List Str) : Prop where
 prog : X'.prog = X.prog
 w : X'.w = X.w
 K : X'.K = X.K
 mg : X'.mg = X.mg
 base : X'.base = X.base
 A : X'.A = X.A
 N : X'.N = X.N.map (hideN own) ++ own
 scope : X'.env.scope = relabel scope X.env
 calm : X'.calm = X.calm
 xe : X'.xe = fun _ _=>False
noncomputable def cxComp (X : Cx) (scope : Scope) (cl : List (Str × Addr)) (C : Addr) (own : List Str) (s₂ : Shared) (H₂ : Hp) (fp : List Addr) : Cx:=
 { X with N:=X.N.map (hideN own) ++ own,s₀:=s₂,H₀:=H₂,env:=compEnvC scope cl C X.env,outer:=X.stack,stack:=X.stack,ex:=fp,fn:=fun _=>false,pn:=[],xe:=fun _ _=>False }
theorem cxComp_ok {X : Cx} {scope : Scope} {cl : List (Str × Addr)} {C : Addr} {own : List Str} {s₂ : Shared} {H₂ : Hp} {fp : List Addr} : CompCx X (cxComp X scope cl C own s₂ H₂ fp) scope own:=
 ⟨rfl,rfl,rfl,rfl,rfl,rfl,rfl,rfl,rfl,rfl⟩
noncomputable def Ext (σ σ2 : St) : Prop:=σ2.length = σ.length/\∀ (i : Nat) v,σ[i]? = some (some v)->σ2[i]? = some (some v)
noncomputable def tComp (wi : TI) (g : TG) (tc : TT) (te : TE) (m : Nat) : TE:=fun σ H Q=>wi σ H fun J H1=>∀ p,H1 p = none->
 ∃ W : Nat->Nat->List V->Hp->Prop,(∃ n,W 0 n [] (upd H1 p (.lst [])))/\∀ i n ys H,W i n ys H->H p = some (.lst ys)/\((J.stop i H/\Q (.ref p) H)\/(J.go i H/\ys.length < sizeLine/\
  ∀ x H2,J.yld i H x H2->g x (σ ++ List.replicate m none) H2 fun σ2 H3=>Ext (σ ++ List.replicate m none) σ2/\tc σ2 H3 fun b H4=>if b = true then te σ2 H4 fun y H5=>H5 p = some (.lst ys)/\∃ n',n' < n/\W (i + 1) n' (ys ++ [y]) (upd H5 p (.lst (ys ++ [y])))
   else ∃ n',n' < n/\W (i + 1) n' ys H4))
theorem Un.but {fs ex : List Addr} {H H1 : Hp} {h h1 h' : Heap} {C : Addr} (u : Un fs ex H H1 h h1) (sb : Heap.SameBut C h1 h') (hC : h.objs.size<=C) (hx : C ∉ ex) : Un fs ex H H1 h h':=by
 have ne : ∀ b o,h.get? b = some o->b ≠ C:=fun b o e=>Nat.ne_of_lt (Nat.lt_of_lt_of_le (Heap.lt_size e) hC)
 refine ⟨fun b o e n h1 h2=>sb.extBut b o (ne b o e) (u.keep b o e n h1 h2),fun b o e n h1 h2=>?_,u.free,fun b o e h2=>?_,u.tups,u.frzs,u.tbls⟩
 ·obtain ⟨sl,q⟩:=u.slot b o e n h1 h2
  exact ⟨sl,sb.extBut b _ (ne b o e) q⟩
 ·obtain ⟨o',q⟩:=u.there b o e h2
  exact ⟨o',sb.extBut b _ (ne b o e) q⟩
theorem HOk.but {P : Program} {w : World} {H : Hp} {h h' : Heap} {C : Addr} (ok : HOk P w H h) (sb : Heap.SameBut C h h') (hC : H C = none) : HOk P w H h':=fun a o e=>by
 refine (ok a o e).stay (fun b u hb q=>sb.extBut b u ?_ q) (fun _ q=>q) fun _ _ q=>q
 intro z
 subst z
 rcases hb with z | z
 ·subst z;rw [hC] at e;cases e
 ·rw [hC] at z;cases z
section
variable {X : Cx} {scope : Scope} {own : List Str}
theorem Inv.comp {pins : List (Addr × Obj)} {σ : St} {H2 : Hp} {s2 : Shared} {fp : List Addr} {h1 : Heap} {t1 : Nat} (I : Inv X pins σ H2 s2) (S : CompSc X.N X.env.scope scope own) (hf : ∀ b ∈ fp,FpOk X pins H2 b)
  (hfx : ∀ b ∈ fp,b < s2.heap.objs.size) (hns : h1.Ns (s2.heap.objs.size + 1) (fun _=>none))
  (hk : ∀ b o,s2.heap.get? b = some o->h1.get? b = some o) (hacc : h1.get? s2.heap.objs.size = some { cls:=.type "list",data:=.seq #[] }) :
  Inv (cxComp X scope (clF X.env scope.names []) (s2.heap.objs.size + 1) own s2 H2 fp) [] (σ ++ List.replicate own.length none) (upd H2 s2.heap.objs.size (.lst [])) { s2 with heap:=h1,toks:=t1 }:=by
 have hD : H2 s2.heap.objs.size = none:=I.hok.fresh (Nat.le_refl _)
 have hC : H2 (s2.heap.objs.size + 1) = none:=I.hok.fresh (Nat.le_succ _)
 have cells : ∀ y ∈ scope.names,y.2 = .free->∃ c,X.env.cells.lookup y.1 = some c:=fun y hy hk=>I.ok.has y.1 (S.free y hy hk)
 have sub : ∀ x c,(clF X.env scope.names []).lookup x = some c->X.env.cells.lookup x = some c:=fun x c e=>clF_sub cells (fun _ _ h=>by simp at h) e
 have relk : ∀ x,(relabel scope X.env).names.lookup x = some .cell\/(relabel scope X.env).names.lookup x = some .free->(x,NameKind.free) ∈ scope.names:=by
  intro x hx
  have go : ∀ (l : List (Str × NameKind)),(∀ y ∈ l,y.2 ≠ .cell)->((l.map fun (n,k)=>if (k == NameKind.free && X.env.scope.kind == .function && X.env.kindOf n == some .cell) then (n,NameKind.cell) else (n,k)).lookup x = some .cell\/(l.map fun (n,k)=>if (k == NameKind.free && X.env.scope.kind == .function && X.env.kindOf n == some .cell) then (n,NameKind.cell) else (n,k)).lookup x = some .free)->(x,NameKind.free) ∈ l:=by
   intro l
   induction l with
   | nil=>intro _ h;rcases h with h | h <;> simp at h
   | cons p l ih=>
    obtain ⟨n,k⟩:=p
    intro nc h
    rw [List.map_cons] at h
    dsimp only at h
    by_cases hc : (k == NameKind.free && X.env.scope.kind == .function && X.env.kindOf n == some .cell) = true
    ·rw [if_pos hc] at h
     rw [List.lookup_cons] at h
     cases e : x == n with
     | true=>
      have : x = n:=by simpa using e
      subst this
      simp only [Bool.and_eq_true] at hc
      have : k = .free:=by simpa using hc.1.1
      subst this
      exact List.mem_cons_self ..
     | false=>
      rw [e] at h
      exact List.mem_cons_of_mem _ (ih (fun y hy=>nc y (List.mem_cons_of_mem _ hy)) h)
    ·rw [if_neg hc] at h
     rw [List.lookup_cons] at h
     cases e : x == n with
     | true=>
      have : x = n:=by simpa using e
      subst this
      rw [e] at h
      dsimp only at h
      rcases h with h | h
      ·exact absurd (Option.some.inj h) (nc (x,k) (List.mem_cons_self ..))
      ·have:=Option.some.inj h
       subst this
       exact List.mem_cons_self ..
     | false=>
      rw [e] at h
      exact List.mem_cons_of_mem _ (ih (fun y hy=>nc y (List.mem_cons_of_mem _ hy)) h)
  exact go scope.names S.nocell hx
 have hne : s2.heap.objs.size ≠ s2.heap.objs.size + 1:=Nat.ne_of_lt (Nat.lt_succ_self _)
 have hlt : ∀ b o,s2.heap.get? b = some o->b < s2.heap.objs.size:=fun b o e=>Heap.lt_size e
 have hstk : ∀ b ∈ frs X.stack,b < s2.heap.objs.size:=fun b hb=>by
  obtain ⟨_,o,ho,_⟩:=I.stack.mem hb
  exact hlt b o ho
 refine ⟨⟨I.mod,?_,I.ok.glob,I.ok.blt,Nat.le_succ _,fun x y c e1 e2=>I.ok.inj x y c (sub x c e1) (sub y c e2),fun x hx=>?_,fun _ _ h=>(by cases h),I.ok.hd,I.ok.frames,.inl rfl,fun b hb=>?_,fun b o e=>I.bs b o e,?_,fun b o e hb=>?_,fun b hb hz=>?_,I.stack,I.stkFree⟩,
  rfl,I.bare,Un.laid hk (Nat.le_refl _) hD,?_,fun x c e=>?_,?_,fun x c e=>?_,fun p hp=>(by simp [cxComp] at hp),?_,?_⟩
 ·exact S.kind
 ·have hx' : (relabel scope X.env).names.lookup x = some .cell\/(relabel scope X.env).names.lookup x = some .free:=hx
  exact clF_has (relk x hx')
 ·refine ⟨Nat.ne_of_lt (Nat.lt_succ_of_lt (hfx b hb)),fun x c e z=>?_⟩
  exact (hf b hb).2.2.2.2.1 x c (sub x c e) z
 ·exact Nat.le_trans I.ok.bsz I.sz
 ·rcases (hf b hb).2.2.2.1 with z | z
  ·exact I.ok.noex b o e z
  ·exact absurd (Nat.lt_of_lt_of_le (Heap.lt_size e) (Nat.le_trans I.ok.bsz z)) (Nat.lt_irrefl _)
 ·rcases List.mem_cons.mp (I.stkSub b hz) with z' | z'
  ·exact (hf b hb).2.1 z'
  ·exact (hf b hb).2.2.1 z'
 ·refine ⟨_,hns,fun i x v e1 e2 e3=>?_⟩
  have hi : i < σ.length:=by
   rcases Nat.lt_or_ge i σ.length with h | h
   ·exact h
   ·rw [List.getElem?_append_right h,List.getElem?_replicate] at e2
    split at e2 <;> cases e2
  rw [List.getElem?_append_left hi] at e2
  have hiN : i < X.N.length:=by rw [<- I.len];exact hi
  have e1' : (X.N.map (hideN own))[i]? = some x:=by
   have : (X.N.map (hideN own) ++ own)[i]? = some x:=e1
   rwa [List.getElem?_append_left (by rw [List.length_map];exact hiN)] at this
  rw [List.getElem?_map] at e1'
  obtain ⟨y,hy,ey⟩:=Option.map_eq_some_iff.mp e1'
  have hyN : y ∈ X.N:=List.mem_of_getElem? hy
  have e3' : (relabel scope X.env).names.lookup x = some .local\/(relabel scope X.env).names.lookup x = some .cell\/(relabel scope X.env).names.lookup x = some .free:=e3
  have keys : ∀ z k,(relabel scope X.env).names.lookup z = some k->∃ k',scope.names.lookup z = some k'/\(k = .local->k' = .local):=by
   intro z k
   show (scope.names.map fun (n,k)=>if (k == NameKind.free && X.env.scope.kind == .function && X.env.kindOf n == some .cell) then (n,NameKind.cell) else (n,k)).lookup z = some k->_
   generalize scope.names = l
   induction l with
   | nil=>intro h;simp at h
   | cons p l ih=>
    obtain ⟨n,k0⟩:=p
    intro h
    rw [List.map_cons] at h
    dsimp only at h
    by_cases hc : (k0 == NameKind.free && X.env.scope.kind == .function && X.env.kindOf n == some .cell) = true
    ·rw [if_pos hc,List.lookup_cons] at h
     rw [List.lookup_cons]
     cases e : z == n with
     | true=>
      rw [e] at h
      dsimp only at h
      cases h
      exact ⟨k0,rfl,fun q=>by cases q⟩
     | false=>rw [e] at h;exact ih h
    ·rw [if_neg hc,List.lookup_cons] at h
     rw [List.lookup_cons]
     cases e : z == n with
     | true=>
      rw [e] at h
      dsimp only at h
      cases h
      exact ⟨_,rfl,fun q=>q⟩
     | false=>rw [e] at h;exact ih h
  by_cases hown : own.contains y = true
  ·exfalso
   have ex : x = y ++ (" " : Str):=by rw [<- ey];unfold hideN;rw [if_pos hown]
   have hn:=S.hid y (by simpa using hown)
   rw [<- ex] at hn
   rcases e3' with q | q | q
   all_goals
    obtain ⟨k',hk',_⟩:=keys _ _ q
    rw [hn] at hk'
    cases hk'
  ·have ex : x = y:=by rw [<- ey];unfold hideN;rw [if_neg hown]
   subst ex
   rcases e3' with q | q
   ·exfalso
    obtain ⟨k',hk',hl⟩:=keys _ _ q
    have:=hl rfl
    subst this
    rcases S.loc _ (PySem.mem_of_lookup hk') rfl with z | z
    ·exact hown (by simpa using z)
    ·exact z hyN
   ·have hfr:=relk x q
    have hv:=S.free _ hfr rfl
    obtain ⟨m,_,hl⟩:=I.loc
    obtain ⟨u,ru,lk⟩:=hl i x v hy e2 (.inr hv)
    refine ⟨u,ru,.inr ⟨q,?_⟩⟩
    rcases lk with ⟨z,_⟩ | ⟨_,c,hc,o,ho,hd⟩
    ·have z' : X.env.scope.names.lookup x = some .local:=z
     rcases hv with hv | hv <;> (rw [z'] at hv;cases hv)
    ·obtain ⟨c',hc'⟩:=clF_has (env:=X.env) (acc:=[]) hfr
     have:=sub x c' hc'
     rw [hc] at this
     cases this
     exact ⟨c,hc',o,hk c o ho,hd⟩
 ·obtain ⟨v,z⟩:=I.cell x c (sub x c e)
  obtain ⟨o,ho,hd⟩:=z
  exact ⟨v,o,hk c o ho,hd⟩
 ·show upd H2 _ _ (s2.heap.objs.size + 1) = none
  rw [upd_ne (Ne.symm hne)];exact hC
 ·obtain ⟨v,o,ho,_⟩:=I.cell x c (sub x c e)
  show upd H2 _ _ c = none
  rw [upd_ne (Nat.ne_of_lt (hlt c o ho))];exact I.freeC x c (sub x c e)
 ·exact I.hok.laid hk (Nat.le_refl _) ⟨Nat.zero_le _,[],0,.nil,hacc⟩
 ·show (σ ++ List.replicate own.length none).length = (X.N.map (hideN own) ++ own).length
  rw [List.length_append,List.length_append,List.length_replicate,List.length_map,I.len]
end
section
variable {X : Cx} {scope : Scope} {own : List Str}
theorem pe_comp0 {elt iter tg : Expr} {wi : TI} {g : TG} {te : TE} {pos : Pos} (S : CompSc X.N X.env.scope scope own) (hcalm : X.calm = true) (hi : PI X tg iter wi)
  (hg : ∀ X',CompCx X X' scope own->PG X' tg g) (he : ∀ X',CompCx X X' scope own->PE X' elt te)
  (hs : ∀ x,foldedSetIterable iter X.env x = pure x) : PE X (.ListComp elt [⟨tg,iter,[],0⟩] scope pos) (tComp wi g (fun _ H Q=>Q true H) te own.length):=by
 intro pins s σ H Q I h
 rw [eval_ListComp]
 have cells : ∀ y ∈ scope.names,y.2 = .free->∃ c,X.env.cells.lookup y.1 = some c:=fun y hy hk=>I.ok.has y.1 (S.free y hy hk)
 refine wpAny_comprehension_free (use:=none) rfl hs (closure_of cells) S.kind S.names (thn (hi pins s σ H _ I h) fun xv s1 h1=>thn h1 fun itv s2 h2=>?_)
 obtain ⟨it,fp,tn,J,H2,e,I2,T,st2,f2,hW⟩:=h2
 subst e
 have hD : H2 s2.heap.objs.size = none:=I2.hok.fresh (Nat.le_refl _)
 obtain ⟨W,⟨n0,w0⟩,turn⟩:=hW _ hD
 have hfx : ∀ b ∈ fp,b < s2.heap.objs.size:=fun b hb=>by
  obtain ⟨o,ho,_⟩:=T.obj 0 _ st2 b hb
  exact Heap.lt_size ho
 refine wpAny_newObj_type (wpAny_newFunctionEnv S.nocell (by intro y hy;simp at hy) (fun h₁ hns₁ hsb₁=>?_) S.kind)
 dsimp only at hns₁ hsb₁ ⊢
 have hC : (s2.heap.push { cls:=.type "list",dict:=none,data:=.seq ([] : List Value).toArray }).objs.size = s2.heap.objs.size + 1:=Heap.size_push ..
 have hne : s2.heap.objs.size ≠ s2.heap.objs.size + 1:=Nat.ne_of_lt (Nat.lt_succ_self _)
 rw [hC] at hns₁ hsb₁ ⊢
 have old : ∀ b o,s2.heap.get? b = some o->h₁.get? b = some o:=fun b o e=>hsb₁.extBut b o (Nat.ne_of_lt (Nat.lt_succ_of_lt (Heap.lt_size e))) (Heap.get?_push_of_some _ (Heap.get?_push_of_some _ e))
 have hacc : h₁.get? s2.heap.objs.size = some { cls:=.type "list",data:=.seq #[] }:=hsb₁.extBut _ _ hne (Heap.get?_push_of_some _ (Heap.get?_push_size _ rfl))
 have I4:=Inv.comp (t1:=s2.toks + ([] : List (Str × Value)).length) I2 S f2 hfx hns₁ old hacc
 generalize hX' : cxComp X scope (clF X.env scope.names []) (s2.heap.objs.size + 1) own s2 H2 fp = X' at I4
 have cc : CompCx X X' scope own:=by rw [<- hX'];exact cxComp_ok
 have eenv : X'.env = compEnvC scope (clF X.env scope.names []) (s2.heap.objs.size + 1) X.env:=by rw [<- hX'];rfl
 have eA : X'.A = X.A:=cc.A
 have ep : X'.prog = X.prog:=cc.prog
 have ew : X'.w = X.w:=cc.w
 have efs : X'.fs = frs X.stack:=by rw [<- hX'];rfl
 have eex : X'.ex = fp:=by rw [<- hX'];rfl
 have es0 : X'.s₀ = s2:=by rw [<- hX'];rfl
 have eH0 : X'.H₀ = H2:=by rw [<- hX'];rfl
 have epn : X'.pn = []:=by rw [<- hX'];rfl
 have eK : X'.K = X.K:=cc.K
 have exe:=cc.xe
 have ecalm : X'.calm = true:=cc.calm.trans hcalm
 -- the iterator's records within the block
 have fpok : ∀ {H' : Hp},(∀ b ∈ fp,H' b = none)->∀ b ∈ fp,FpOk X' [] H' b:=fun {H'} hn b hb=>by
  obtain ⟨_,f1,f3,_,f5,_⟩:=f2 b hb
  refine ⟨hn b hb,?_,?_,.inl (by rw [eex];exact hb),fun x c e=>?_,fun p hp=>by rw [epn] at hp;simp at hp⟩
  ·rw [eenv];exact Nat.ne_of_lt (Nat.lt_succ_of_lt (hfx b hb))
  ·rw [efs]
   intro z
   rcases List.mem_cons.mp (I2.stkSub b z) with z | z
   ·exact f1 z
   ·exact f3 z
  ·rw [eenv] at e
   exact f5 x c (clF_sub cells (fun _ _ h=>by simp at h) e)
 have st4 : tn 0 h₁:=T.keep _ _ _ st2 fun b _ o e=>old b o e
 have fr4 : ∀ b ∈ fp,(upd H2 s2.heap.objs.size (.lst [])) b = none:=fun b hb=>by rw [upd_ne (Nat.ne_of_lt (hfx b hb))];exact (f2 b hb).1
 have loop : ∀ s4 : Shared,s4 = { s2 with heap:=h₁,toks:=s2.toks + ([] : List (Str × Value)).length }->
   codeAny (model X.prog X.w) X.A (.compLoop (.ListComp elt [⟨tg,iter,[],0⟩] scope pos) 0 (.ref it) (.ref s2.heap.objs.size) X'.env)
    (compPost (model X.prog X.w) X.A X.xe none (EP X pins σ Q) (.ref s2.heap.objs.size) (s2.heap.objs.size + 1)) s4:=by
  rintro s4 rfl
  refine PySem.W.kcp_loop (fun n s'=>∃ i ys H',Inv X' [] (σ ++ List.replicate own.length none) H' s'/\tn i s'.heap/\(∀ b ∈ fp,H' b = none)/\W i n ys H') ?_ n0 ⟨0,[],_,I4,st4,fr4,w0⟩
  rintro n s5 ⟨i,ys,H5,I5,st5,fr5,w5⟩
  obtain ⟨hacc5,tr⟩:=turn i n ys H5 w5
  rcases tr with ⟨stop,q⟩ | ⟨go,hlen,step⟩
  ·have done:=T.done X' ep ew eK ecalm i [] s5 _ H5 (notedBy (model X.prog X.w) X.A X'.env fun e s'=>compPost (model X.prog X.w) X.A X.xe none (EP X pins σ Q) (.ref s2.heap.objs.size) (s2.heap.objs.size + 1) (.error e) s') I5 (fpok fr5) st5 stop
   rw [eA] at done
   refine thn done fun r s6 ⟨hr,I6⟩=>?_
   subst hr
   obtain ⟨m6,hn6,_⟩:=id I6.loc
   rw [eenv] at hn6
   refine ⟨m6,hn6,fun h' sb=>⟨.ref s2.heap.objs.size,H5,?_,rfl,q⟩⟩
   have u6 : Un (frs X.stack) fp H2 H5 s2.heap s6.heap:=by
    have:=I6.base
    rw [efs,eex,eH0,es0] at this
    exact this
   have hCn : H5 (s2.heap.objs.size + 1) = none:=by
    have:=I6.free
    rw [eenv] at this
    exact this
   have u7:=u6.but sb (Nat.le_succ _) (fun z=>absurd (hfx _ z) (Nat.not_lt.mpr (Nat.le_succ _)))
   have hok7 : HOk X.prog X.w H5 h':=by
    have:=I6.hok
    rw [ep,ew] at this
    exact this.but sb hCn
   have hos : s6.os = s2.os:=by have:=I6.os;rw [es0] at this;exact this
   obtain ⟨hh,gg,dd,tt,oo⟩:=s6
   obtain rfl : oo = s2.os:=hos
   have fin:=Inv.call (h':=h') (g':=gg) (d':=dd) (t':=tt) (ch:=fp) I2 u7 hok7 I6.bare fun b hb=>⟨(f2 b hb).2.2.2.1,(f2 b hb).2.1,(f2 b hb).2.2.2.2.1,(f2 b hb).2.2.2.2.2⟩
   exact fin
  ·have item:=T.item X' ep ew eK ecalm i [] s5 _ H5 (notedBy (model X.prog X.w) X.A X'.env fun e s'=>compPost (model X.prog X.w) X.A X.xe none (EP X pins σ Q) (.ref s2.heap.objs.size) (s2.heap.objs.size + 1) (.error e) s') I5 (fpok fr5) st5 go
   rw [eA] at item
   refine thn item fun r s6 ⟨u,hr,h6⟩=>?_
   subst hr
   refine thn h6 fun _ s7 ⟨x,H7,I7,r7,y7,st7,fr7⟩=>?_
   have I7':=I7.pinned (fpok fr7) (T.obj _ _ st7)
   have hg':=hg X' cc _ s7 _ H7 x u _ I7' r7 (step x H7 y7)
   rw [ep,ew,eA,exe] at hg'
   refine wpAny_mono hg' (fun _ s8 ⟨σ8,H8,I8,ext8,q8⟩=>?_) fun _ _ z=>False.elim z
   have back : ∀ {ys' : List V} {H9 : Hp} {s9 : Shared} {σ9 : St},Ext (σ ++ List.replicate own.length none) σ9->Inv X' ([] ++ pinsAt fp s7.heap) σ9 H9 s9->(∃ n',n' < n/\W (i + 1) n' ys' H9)->∃ m,m < n/\∃ i ys H',Inv X' [] (σ ++ List.replicate own.length none) H' s9/\tn i s9.heap/\(∀ b ∈ fp,H' b = none)/\W i m ys H':=by
    rintro ys' H9 s9 σ9 ex9 I9 ⟨n',hn',w9⟩
    refine ⟨n',hn',i + 1,ys',H9,(I9.weak ex9.1.symm ex9.2).unpinned,T.keep _ _ _ st7 fun b hb o e=>(I9.pin (b,o) (List.mem_append_right _ (List.mem_append_right _ (mem_pinsAt hb e)))).1,fun b hb=>?_,w9⟩
    obtain ⟨o,e,d⟩:=T.obj _ _ st7 b hb
    exact (I9.pin (b,o) (List.mem_append_right _ (List.mem_append_right _ (mem_pinsAt hb e)))).2.1
   simp only [if_true] at q8
   have he':=he X' cc _ s8 _ H8 _ I8 q8
   rw [ep,ew,eA,exe] at he'
   refine wpAny_mono he' (fun yv s10 ⟨y,H10,I10,r10,p10,q10⟩=>?_) fun _ _ z=>False.elim z
   have hm:=mt_append (X:=X') _ s10 σ8 H10 (.ref s2.heap.objs.size) [y] (.ref s2.heap.objs.size) [yv] (fun _ H11=>∃ n',n' < n/\W (i + 1) n' (ys ++ [y]) H11) I10 rfl (.cons r10 .nil) ⟨s2.heap.objs.size,ys,y,rfl,rfl,p10,hlen,q10⟩
   rw [ep,ew,eA,exe] at hm
   exact wpAny_mono hm (fun _ s11 ⟨_,H11,I11,_,q11⟩=>back ext8 I11 q11) fun _ _ z=>False.elim z
 have l4:=loop _ rfl
 rw [eenv] at l4
 exact codeAny_compStart_list l4 (T.self X.A 0 _ _ _ st4 l4)
end
end L2
end
section
set_option maxRecDepth 100000
namespace Mi
open PySem L2 PySem.SeqAt
variable [KFrag]
theorem fst_of {X : Cx} {pins : List (Addr × Obj)} {σ : St} {H : Hp} {s : Shared} {a : Addr} {xs : List V} (I : Inv X pins σ H s) (e : H a = some (.tup xs)) : ∃ its : List Value,Vals xs its/\s.heap.IsTuple a its.toArray:=by
 obtain ⟨_,its,r,p⟩ : xs.length<=sizeLine/\∃ its : List Value,Vals xs its/\IsTupN s.heap a its.toArray:=I.hok a _ e
 exact ⟨its,r,p.tup⟩
theorem lst_of {X : Cx} {pins : List (Addr × Obj)} {σ : St} {H : Hp} {s : Shared} {a : Addr} {xs : List V} (I : Inv X pins σ H s) (e : SqL X.K H a xs) : ∃ its : List Value,Vals xs its/\s.heap.IsList a its.toArray:=by
 obtain ⟨its,r,p,_⟩:=I.list e
 exact ⟨its,r,p.isList⟩
theorem Rep.lstAt {P : Addr->Prop} {H : Hp} {K : PySem.W.Frag} {v : V} {ds : List D} (r : Rep P H v (.lst ds)) : ∃ a xs,v = .ref a/\SqL K H a xs/\Reps P H xs ds:=by
 cases r with
 | lst e p r=>exact ⟨_,_,rfl,.inl (.inl e),r⟩
theorem Rep.tupAt {P : Addr->Prop} {H : Hp} {v : V} {ds : List D} (r : Rep P H v (.tup ds)) : ∃ a xs,v = .ref a/\H a = some (.tup xs)/\Reps P H xs ds:=by
 cases r with
 | tup e r=>exact ⟨_,_,rfl,e,r⟩
mutual
theorem eqD_refl : ∀ (n : Nat) (d : D),d.eqok n = true->eqD d d = true
 | _,.non,_=>rfl
 | _,.bl b,_=>by simp [eqD]
 | _,.int i,_=>by simp [eqD]
 | _,.str x,_=>by simp [eqD]
 | n + 1,.tup xs,h=>by rw [D.eqok] at h;rw [eqD];exact eqDs_refl n xs h
 | n + 1,.lst xs,h=>by rw [D.eqok] at h;rw [eqD];exact eqDs_refl n xs h
 | 0,.tup xs,h=>by simp [D.eqok] at h
 | 0,.lst xs,h=>by simp [D.eqok] at h
 | n,.dct _,h=>by cases n <;> simp [D.eqok] at h
 | n,.undef,h=>by cases n <;> simp [D.eqok] at h
 | n,.scr _,h=>by cases n <;> simp [D.eqok] at h
 | n,.fdc _,h=>by cases n <;> simp [D.eqok] at h
theorem eqDs_refl : ∀ (n : Nat) (ds : List D),D.eqoks n ds = true->eqDs ds ds = true
 | _,[],_=>rfl
 | n,d :: ds,h=>by
  rw [D.eqoks,Bool.and_eq_true] at h
  rw [eqDs,eqD_refl n d h.1,eqDs_refl n ds h.2]
  rfl
end
mutual
theorem Rep.inj {P P' : Addr->Prop} {H : Hp} : ∀ (n : Nat) {v : V} {d e : D},d.eqok n = true->e.eqok n = true->Rep P H v d->Rep P' H v e->d = e
 | _,_,_,_,_,_,.non,.non=>rfl
 | _,_,_,_,_,_,.bl _,.bl _=>rfl
 | _,_,_,_,_,_,.int _,.int _=>rfl
 | _,_,_,_,_,_,.str _,.str _=>rfl
 | n + 1,_,.tup ds,_,h,h',.tup e1 r1,q=>by
  cases q with
  | tup e2 r2=>
   rw [e1] at e2;cases e2
   rw [D.eqok] at h h'
   rw [Reps.inj n h h' r1 r2]
  | lst e2 _ _=>rw [e1] at e2;cases e2
  | frz e2 _=>simp [D.eqok] at h'
  | fdK e2 _ _=>simp [D.eqok] at h'
  | fdT e2 _ _=>simp [D.eqok] at h'
  | dK e2 _ _ _=>rw [e1] at e2;cases e2
  | dT e2 _ _ _=>rw [e1] at e2;cases e2
 | n + 1,_,.lst ds,_,h,h',.lst e1 p r1,q=>by
  cases q with
  | tup e2 r2=>rw [e1] at e2;cases e2
  | lst e2 _ r2=>
   rw [e1] at e2;cases e2
   rw [D.eqok] at h h'
   rw [Reps.inj n h h' r1 r2]
  | frz e2 _=>simp [D.eqok] at h'
  | fdK e2 _ _=>simp [D.eqok] at h'
  | fdT e2 _ _=>simp [D.eqok] at h'
  | dK e2 _ _ _=>rw [e1] at e2;cases e2
  | dT e2 _ _ _=>rw [e1] at e2;cases e2
 | 0,_,.tup ds,_,h,_,_,_=>by simp [D.eqok] at h
 | 0,_,.lst ds,_,h,_,_,_=>by simp [D.eqok] at h
 | n,_,.dct _,_,h,_,_,_=>by cases n <;> simp [D.eqok] at h
 | n,_,.scr _,_,h,_,_,_=>by cases n <;> simp [D.eqok] at h
 | n,_,.fdc _,_,h,_,_,_=>by cases n <;> simp [D.eqok] at h
theorem Reps.inj {P P' : Addr->Prop} {H : Hp} : ∀ (n : Nat) {v : List V} {d e : List D},D.eqoks n d = true->D.eqoks n e = true->Reps P H v d->Reps P' H v e->d = e
 | _,_,_,_,_,_,.nil,.nil=>rfl
 | n,_,_,_,h,h',.cons r t,.cons r' t'=>by
  rw [D.eqoks,Bool.and_eq_true] at h h'
  rw [Rep.inj n h.1 h'.1 r r',Reps.inj n h.2 h'.2 t t']
end
theorem eqDs_range : ∀ (xs ys : List D),eqDs xs ys = ((List.range (min xs.length ys.length)).all (fun j=>eqD (xs.getD j .non) (ys.getD j .non)) && xs.length == ys.length)
 | [],[]=>by simp [eqDs]
 | [],y :: ys=>by simp [eqDs]
 | x :: xs,[]=>by simp [eqDs]
 | x :: xs,y :: ys=>by
  have e : min (x :: xs).length (y :: ys).length = min xs.length ys.length + 1:=by simp only [List.length_cons];lia
  rw [eqDs,eqDs_range xs ys,e,List.range_succ_eq_map,List.all_cons,List.all_map,Bool.and_assoc]
  congr 1
  simp [Function.comp_def]
theorem eqoks_get {n : Nat} : ∀ {ds : List D} {j : Nat},D.eqoks n ds = true->j < ds.length->(ds.getD j .non).eqok n = true
 | [],j,_,h=>by simp at h
 | d :: ds,0,h,_=>by rw [D.eqoks,Bool.and_eq_true] at h;exact h.1
 | d :: ds,j + 1,h,hj=>by
  rw [D.eqoks,Bool.and_eq_true] at h
  simpa using eqoks_get (ds:=ds) (j:=j) h.2 (by simpa using hj)
theorem Reps.getD {P : Addr->Prop} {H : Hp} {vs : List V} {ds : List D} {j : Nat} (r : Reps P H vs ds) (hj : j < ds.length) : ∃ v,vs[j]? = some v/\Rep P H v (ds.getD j .non):=by
 obtain ⟨v,h1,h2⟩:=r.get (i:=j) (d:=ds.getD j .non) (by simp [hj])
 exact ⟨v,h1,h2⟩
section
variable {X : Cx} {pins : List (Addr × Obj)} {σ : St} {H : Hp} {s : Shared}
theorem rep_eq (I : Inv X pins σ H s) : ∀ (n : Nat) (A : Around) {x y : V} {a b : D} {u v : Value},A.units + n < cLine->a.eqok n = true->b.eqok n = true->Rep All H x a->Rep All H y b->RelV x u->RelV y v->
  RcAt A s u v (eqD a b)/\RcNeAt A s u v (!eqD a b)/\EqAt A s u v (eqD a b):=by
 intro n
 induction n with
 | zero=>
  intro A x y a b u v hu ha hb rx ry ru rv
  cases rx with
  | non=>
   cases ru
   cases ry with
   | non=>cases rv;exact ⟨RcAt.none_none,RcNeAt.none_none,EqAt.same _⟩
   | bl _=>cases rv;exact ⟨RcAt.none_bool _,RcNeAt.none_bool _,EqAt.none_bool _⟩
   | int _=>obtain ⟨t,rfl⟩:=rv;exact ⟨RcAt.none_int _ _,RcNeAt.none_int _ _,EqAt.none_int _ _⟩
   | str _=>obtain ⟨t,rfl⟩:=rv;exact ⟨RcAt.none_str _ _,RcNeAt.none_str _ _,EqAt.none_str _ _⟩
   | _=>simp [D.eqok] at hb
  | bl _=>
   cases ru
   cases ry with
   | non=>cases rv;exact ⟨RcAt.bool_none _,RcNeAt.bool_none _,EqAt.bool_none _⟩
   | bl _=>cases rv;exact ⟨RcAt.bool_bool _ _,RcNeAt.bool_bool _ _,EqAt.bool_bool _ _⟩
   | int _=>obtain ⟨t,rfl⟩:=rv;exact ⟨RcAt.bool_int _ _ _,RcNeAt.bool_int _ _ _,EqAt.bool_int _ _ _⟩
   | str _=>obtain ⟨t,rfl⟩:=rv;exact ⟨RcAt.bool_str _ _ _,RcNeAt.bool_str _ _ _,EqAt.bool_str _ _ _⟩
   | _=>simp [D.eqok] at hb
  | int _=>
   obtain ⟨t,rfl⟩:=ru
   cases ry with
   | non=>cases rv;exact ⟨RcAt.int_none _ _,RcNeAt.int_none _ _,EqAt.int_none _ _⟩
   | bl _=>cases rv;exact ⟨RcAt.int_bool _ _ _,RcNeAt.int_bool _ _ _,EqAt.int_bool _ _ _⟩
   | int _=>obtain ⟨t',rfl⟩:=rv;exact ⟨RcAt.int_int _ _ _ _,RcNeAt.int_int _ _ _ _,EqAt.int_int _ _ _ _⟩
   | str _=>obtain ⟨t',rfl⟩:=rv;exact ⟨RcAt.int_str _ _ _ _,RcNeAt.int_str _ _ _ _,EqAt.int_str _ _ _ _⟩
   | _=>simp [D.eqok] at hb
  | str _=>
   obtain ⟨t,rfl⟩:=ru
   cases ry with
   | non=>cases rv;exact ⟨RcAt.str_none _ _,RcNeAt.str_none _ _,EqAt.str_none _ _⟩
   | bl _=>cases rv;exact ⟨RcAt.str_bool _ _ _,RcNeAt.str_bool _ _ _,EqAt.str_bool _ _ _⟩
   | int _=>obtain ⟨t',rfl⟩:=rv;exact ⟨RcAt.str_int _ _ _ _,RcNeAt.str_int _ _ _ _,EqAt.str_int _ _ _ _⟩
   | str _=>obtain ⟨t',rfl⟩:=rv;exact ⟨RcAt.str_str _ _ _ _,RcNeAt.str_str _ _ _ _,EqAt.str_str _ _ _ _⟩
   | _=>simp [D.eqok] at hb
  | _=>simp [D.eqok] at ha
 | succ n ih=>
  intro A x y a b u v hu ha hb rx ry ru rv
  have hu0 : A.units < cLine:=by lia
  have hu1 : A.in1.units + n < cLine:=by show A.units + 1 + n < cLine;lia
  cases a with
  | undef=>exact absurd rx Rep.undef
  | dct _=>simp [D.eqok] at ha
  | scr _=>simp [D.eqok] at ha
  | fdc _=>simp [D.eqok] at ha
  | non=>
   cases rx;cases ru
   cases b with
   | undef=>exact absurd ry Rep.undef
   | dct _=>simp [D.eqok] at hb
   | scr _=>simp [D.eqok] at hb
   | fdc _=>simp [D.eqok] at hb
   | non=>cases ry;cases rv;exact ⟨RcAt.none_none,RcNeAt.none_none,EqAt.same _⟩
   | bl _=>cases ry;cases rv;exact ⟨RcAt.none_bool _,RcNeAt.none_bool _,EqAt.none_bool _⟩
   | int _=>cases ry;obtain ⟨t2,rfl⟩:=rv;exact ⟨RcAt.none_int _ _,RcNeAt.none_int _ _,EqAt.none_int _ _⟩
   | str _=>cases ry;obtain ⟨t2,rfl⟩:=rv;exact ⟨RcAt.none_str _ _,RcNeAt.none_str _ _,EqAt.none_str _ _⟩
   | tup es=>
    obtain ⟨q,ys,rfl,e2,r2⟩:=ry.tupAt
    cases rv
    obtain ⟨its2,vr2,h2⟩:=fst_of I e2
    exact ⟨RcAt.none_tuple h2 hu0,RcNeAt.none_tuple h2 hu0,EqAt.none_tuple h2 hu0⟩
   | lst es=>
    obtain ⟨q,ys,rfl,e2,r2⟩:=ry.lstAt (K:=X.K)
    cases rv
    obtain ⟨its2,vr2,h2⟩:=lst_of I e2
    exact ⟨RcAt.none_list h2 hu0,RcNeAt.none_list h2 hu0,EqAt.none_list h2 hu0⟩
  | bl _=>
   cases rx;cases ru
   cases b with
   | undef=>exact absurd ry Rep.undef
   | dct _=>simp [D.eqok] at hb
   | scr _=>simp [D.eqok] at hb
   | fdc _=>simp [D.eqok] at hb
   | non=>cases ry;cases rv;exact ⟨RcAt.bool_none _,RcNeAt.bool_none _,EqAt.bool_none _⟩
   | bl _=>cases ry;cases rv;exact ⟨RcAt.bool_bool _ _,RcNeAt.bool_bool _ _,EqAt.bool_bool _ _⟩
   | int _=>cases ry;obtain ⟨t2,rfl⟩:=rv;exact ⟨RcAt.bool_int _ _ _,RcNeAt.bool_int _ _ _,EqAt.bool_int _ _ _⟩
   | str _=>cases ry;obtain ⟨t2,rfl⟩:=rv;exact ⟨RcAt.bool_str _ _ _,RcNeAt.bool_str _ _ _,EqAt.bool_str _ _ _⟩
   | tup es=>
    obtain ⟨q,ys,rfl,e2,r2⟩:=ry.tupAt
    cases rv
    obtain ⟨its2,vr2,h2⟩:=fst_of I e2
    exact ⟨RcAt.bool_tuple _ h2 hu0,RcNeAt.bool_tuple _ h2 hu0,EqAt.bool_tuple _ h2 hu0⟩
   | lst es=>
    obtain ⟨q,ys,rfl,e2,r2⟩:=ry.lstAt (K:=X.K)
    cases rv
    obtain ⟨its2,vr2,h2⟩:=lst_of I e2
    exact ⟨RcAt.bool_list _ h2 hu0,RcNeAt.bool_list _ h2 hu0,EqAt.bool_list _ h2 hu0⟩
  | int _=>
   cases rx;obtain ⟨t1,rfl⟩:=ru
   cases b with
   | undef=>exact absurd ry Rep.undef
   | dct _=>simp [D.eqok] at hb
   | scr _=>simp [D.eqok] at hb
   | fdc _=>simp [D.eqok] at hb
   | non=>cases ry;cases rv;exact ⟨RcAt.int_none _ _,RcNeAt.int_none _ _,EqAt.int_none _ _⟩
   | bl _=>cases ry;cases rv;exact ⟨RcAt.int_bool _ _ _,RcNeAt.int_bool _ _ _,EqAt.int_bool _ _ _⟩
   | int _=>cases ry;obtain ⟨t2,rfl⟩:=rv;exact ⟨RcAt.int_int _ _ _ _,RcNeAt.int_int _ _ _ _,EqAt.int_int _ _ _ _⟩
   | str _=>cases ry;obtain ⟨t2,rfl⟩:=rv;exact ⟨RcAt.int_str _ _ _ _,RcNeAt.int_str _ _ _ _,EqAt.int_str _ _ _ _⟩
   | tup es=>
    obtain ⟨q,ys,rfl,e2,r2⟩:=ry.tupAt
    cases rv
    obtain ⟨its2,vr2,h2⟩:=fst_of I e2
    exact ⟨RcAt.int_tuple _ _ h2 hu0,RcNeAt.int_tuple _ _ h2 hu0,EqAt.int_tuple _ _ h2 hu0⟩
   | lst es=>
    obtain ⟨q,ys,rfl,e2,r2⟩:=ry.lstAt (K:=X.K)
    cases rv
    obtain ⟨its2,vr2,h2⟩:=lst_of I e2
    exact ⟨RcAt.int_list _ _ h2 hu0,RcNeAt.int_list _ _ h2 hu0,EqAt.int_list _ _ h2 hu0⟩
  | str _=>
   cases rx;obtain ⟨t1,rfl⟩:=ru
   cases b with
   | undef=>exact absurd ry Rep.undef
   | dct _=>simp [D.eqok] at hb
   | scr _=>simp [D.eqok] at hb
   | fdc _=>simp [D.eqok] at hb
   | non=>cases ry;cases rv;exact ⟨RcAt.str_none _ _,RcNeAt.str_none _ _,EqAt.str_none _ _⟩
   | bl _=>cases ry;cases rv;exact ⟨RcAt.str_bool _ _ _,RcNeAt.str_bool _ _ _,EqAt.str_bool _ _ _⟩
   | int _=>cases ry;obtain ⟨t2,rfl⟩:=rv;exact ⟨RcAt.str_int _ _ _ _,RcNeAt.str_int _ _ _ _,EqAt.str_int _ _ _ _⟩
   | str _=>cases ry;obtain ⟨t2,rfl⟩:=rv;exact ⟨RcAt.str_str _ _ _ _,RcNeAt.str_str _ _ _ _,EqAt.str_str _ _ _ _⟩
   | tup es=>
    obtain ⟨q,ys,rfl,e2,r2⟩:=ry.tupAt
    cases rv
    obtain ⟨its2,vr2,h2⟩:=fst_of I e2
    exact ⟨RcAt.str_tuple _ _ h2 hu0,RcNeAt.str_tuple _ _ h2 hu0,EqAt.str_tuple _ _ h2 hu0⟩
   | lst es=>
    obtain ⟨q,ys,rfl,e2,r2⟩:=ry.lstAt (K:=X.K)
    cases rv
    obtain ⟨its2,vr2,h2⟩:=lst_of I e2
    exact ⟨RcAt.str_list _ _ h2 hu0,RcNeAt.str_list _ _ h2 hu0,EqAt.str_list _ _ h2 hu0⟩
  | tup ds=>
   obtain ⟨p,xs,rfl,e1,r1⟩:=rx.tupAt
   cases ru
   obtain ⟨its1,vr1,h1⟩:=fst_of I e1
   rw [D.eqok] at ha
   cases b with
   | undef=>exact absurd ry Rep.undef
   | dct _=>simp [D.eqok] at hb
   | scr _=>simp [D.eqok] at hb
   | fdc _=>simp [D.eqok] at hb
   | non=>cases ry;cases rv;exact ⟨RcAt.tuple_none h1 hu0,RcNeAt.tuple_none h1 hu0,EqAt.tuple_none h1 hu0⟩
   | bl _=>cases ry;cases rv;exact ⟨RcAt.tuple_bool _ h1 hu0,RcNeAt.tuple_bool _ h1 hu0,EqAt.tuple_bool _ h1 hu0⟩
   | int _=>cases ry;obtain ⟨t2,rfl⟩:=rv;exact ⟨RcAt.tuple_int _ _ h1 hu0,RcNeAt.tuple_int _ _ h1 hu0,EqAt.tuple_int _ _ h1 hu0⟩
   | str _=>cases ry;obtain ⟨t2,rfl⟩:=rv;exact ⟨RcAt.tuple_str _ _ h1 hu0,RcNeAt.tuple_str _ _ h1 hu0,EqAt.tuple_str _ _ h1 hu0⟩
   | tup es=>
    obtain ⟨q,ys,rfl,e2,r2⟩:=ry.tupAt
    cases rv
    obtain ⟨its2,vr2,h2⟩:=fst_of I e2
    rw [D.eqok] at hb
    have z1 : its1.toArray.size = ds.length:=by rw [List.size_toArray,<- vr1.length,r1.length]
    have z2 : its2.toArray.size = es.length:=by rw [List.size_toArray,<- vr2.length,r2.length]
    have he : ∀ j (g1 : j < its1.toArray.size) (g2 : j < its2.toArray.size),EqAt A.in1 s its1.toArray[j] its2.toArray[j] (eqD (ds.getD j .non) (es.getD j .non)):=fun j g1 g2=>by
     obtain ⟨v1,w1,rr1⟩:=r1.getD (j:=j) (by lia)
     obtain ⟨v2,w2,rr2⟩:=r2.getD (j:=j) (by lia)
     obtain ⟨u1,k1,l1⟩:=vr1.get w1
     obtain ⟨u2,k2,l2⟩:=vr2.get w2
     have m1 : its1.toArray[j] = u1:=by
      rw [List.getElem?_eq_getElem (by simpa using g1)] at k1
      simpa using Option.some.inj k1
     have m2 : its2.toArray[j] = u2:=by
      rw [List.getElem?_eq_getElem (by simpa using g2)] at k2
      simpa using Option.some.inj k2
     rw [m1,m2]
     exact (ih A.in1 hu1 (eqoks_get ha (by lia)) (eqoks_get hb (by lia)) rr1 rr2 l1 l2).2.2
    have ee : eqD (.tup ds) (.tup es) = ((List.range (min its1.toArray.size its2.toArray.size)).all (fun j=>eqD (ds.getD j .non) (es.getD j .non)) && its1.toArray.size == its2.toArray.size):=by
     rw [eqD,eqDs_range,z1,z2]
    have r0:=RcAt.tuples h1 h2 hu0 he
    have r0':=RcNeAt.tuples h1 h2 hu0 he
    rw [<- ee] at r0 r0'
    refine ⟨r0,r0',?_⟩
    by_cases hpq : p = q
    ·subst hpq
     have hab : (D.tup ds) = (.tup es):=Rep.inj (n + 1) (by rw [D.eqok];exact ha) (by rw [D.eqok];exact hb) rx ry
     rw [<- hab,eqD_refl (n + 1) _ (by rw [D.eqok];exact ha)]
     exact EqAt.same _
    ·exact EqAt.of_refs hpq r0
   | lst es=>
    obtain ⟨q,ys,rfl,e2,r2⟩:=ry.lstAt (K:=X.K)
    cases rv
    obtain ⟨its2,vr2,h2⟩:=lst_of I e2
    exact ⟨RcAt.tuple_list h1 h2 hu0,RcNeAt.tuple_list h1 h2 hu0,EqAt.tuple_list h1 h2 hu0⟩
  | lst ds=>
   obtain ⟨p,xs,rfl,e1,r1⟩:=rx.lstAt (K:=X.K)
   cases ru
   obtain ⟨its1,vr1,h1⟩:=lst_of I e1
   rw [D.eqok] at ha
   cases b with
   | undef=>exact absurd ry Rep.undef
   | dct _=>simp [D.eqok] at hb
   | scr _=>simp [D.eqok] at hb
   | fdc _=>simp [D.eqok] at hb
   | non=>cases ry;cases rv;exact ⟨RcAt.list_none h1 hu0,RcNeAt.list_none h1 hu0,EqAt.list_none h1 hu0⟩
   | bl _=>cases ry;cases rv;exact ⟨RcAt.list_bool _ h1 hu0,RcNeAt.list_bool _ h1 hu0,EqAt.list_bool _ h1 hu0⟩
   | int _=>cases ry;obtain ⟨t2,rfl⟩:=rv;exact ⟨RcAt.list_int _ _ h1 hu0,RcNeAt.list_int _ _ h1 hu0,EqAt.list_int _ _ h1 hu0⟩
   | str _=>cases ry;obtain ⟨t2,rfl⟩:=rv;exact ⟨RcAt.list_str _ _ h1 hu0,RcNeAt.list_str _ _ h1 hu0,EqAt.list_str _ _ h1 hu0⟩
   | tup es=>
    obtain ⟨q,ys,rfl,e2,r2⟩:=ry.tupAt
    cases rv
    obtain ⟨its2,vr2,h2⟩:=fst_of I e2
    exact ⟨RcAt.list_tuple h1 h2 hu0,RcNeAt.list_tuple h1 h2 hu0,EqAt.list_tuple h1 h2 hu0⟩
   | lst es=>
    obtain ⟨q,ys,rfl,e2,r2⟩:=ry.lstAt (K:=X.K)
    cases rv
    obtain ⟨its2,vr2,h2⟩:=lst_of I e2
    rw [D.eqok] at hb
    have z1 : its1.toArray.size = ds.length:=by rw [List.size_toArray,<- vr1.length,r1.length]
    have z2 : its2.toArray.size = es.length:=by rw [List.size_toArray,<- vr2.length,r2.length]
    have he : ∀ j (g1 : j < its1.toArray.size) (g2 : j < its2.toArray.size),EqAt A.in1 s its1.toArray[j] its2.toArray[j] (eqD (ds.getD j .non) (es.getD j .non)):=fun j g1 g2=>by
     obtain ⟨v1,w1,rr1⟩:=r1.getD (j:=j) (by lia)
     obtain ⟨v2,w2,rr2⟩:=r2.getD (j:=j) (by lia)
     obtain ⟨u1,k1,l1⟩:=vr1.get w1
     obtain ⟨u2,k2,l2⟩:=vr2.get w2
     have m1 : its1.toArray[j] = u1:=by
      rw [List.getElem?_eq_getElem (by simpa using g1)] at k1
      simpa using Option.some.inj k1
     have m2 : its2.toArray[j] = u2:=by
      rw [List.getElem?_eq_getElem (by simpa using g2)] at k2
      simpa using Option.some.inj k2
     rw [m1,m2]
     exact (ih A.in1 hu1 (eqoks_get ha (by lia)) (eqoks_get hb (by lia)) rr1 rr2 l1 l2).2.2
    have r00 : RcAt A s (.ref p) (.ref q) (eqD (.lst ds) (.lst es))/\RcNeAt A s (.ref p) (.ref q) (!eqD (.lst ds) (.lst es)):=by
     rw [eqD,eqDs_range]
     by_cases hz : ds.length = es.length
     ·have r0:=RcAt.lists h1 h2 (by lia) hu0 he
      have r0':=RcNeAt.lists h1 h2 (by lia) hu0 he
      rw [z1] at r0 r0'
      rw [show min ds.length es.length = ds.length by lia,show (ds.length == es.length) = true by simpa using hz,Bool.and_true]
      exact ⟨r0,r0'⟩
     ·have hz' : (its1.toArray.size != its2.toArray.size) = true:=by rw [z1,z2];simpa using hz
      rw [show (ds.length == es.length) = false by simpa using hz,Bool.and_false]
      exact ⟨RcAt.lists_lengths h1 h2 hz' hu0,RcNeAt.lists_lengths h1 h2 hz' hu0⟩
    obtain ⟨r0,r0'⟩:=r00
    refine ⟨r0,r0',?_⟩
    by_cases hpq : p = q
    ·subst hpq
     have hab : (D.lst ds) = (.lst es):=Rep.inj (n + 1) (by rw [D.eqok];exact ha) (by rw [D.eqok];exact hb) rx ry
     rw [<- hab,eqD_refl (n + 1) _ (by rw [D.eqok];exact ha)]
     exact EqAt.same _
    ·exact EqAt.of_refs hpq r0
end
end Mi
end
section
set_option maxRecDepth 100000
set_option maxHeartbeats 1000000
namespace Mi
open PySem L2 PySem.SeqAt
open PySem.AutoSeq1 (wpAny_loadPart')
open PySem.MeetsSeq PySem.MeetsSeq2 PySem.MeetsSeq3
variable [KFrag]
noncomputable def Ordr.op : Ordr->CmpOp
 | .lt=>.Lt | .le=>.LtE | .gt=>.Gt | .ge=>.GtE
noncomputable def RoAt (op : CmpOp) (A : Around) (s : Shared) (u v : Value) (b : Bool) : Prop:=
 ∀ (prog : Program) (w : World) (E : Value->Shared->Prop) (Q : Value->Shared->Prop),Q (.bool b) s->wpAny (model prog w) A (richCompare op u v) Q E s
noncomputable def C2 (o : Ordr) (A : Around) (s : Shared) (vs ws : List Value) (xs ys : List D) : Prop:=
 vs.length = xs.length/\ws.length = ys.length/\∀ (j : Nat) (v w : Value) (x y : D),vs[j]? = some v->ws[j]? = some w->xs[j]? = some x->ys[j]? = some y->
  EqAt A s v w (eqD x y)/\(eqD x y = false->∀ k,ordD o x y = some k->RoAt o.op A s v w k)
theorem C2.tail {o : Ordr} {A : Around} {s : Shared} {v w : Value} {vs ws : List Value} {x y : D} {xs ys : List D} (h : C2 o A s (v :: vs) (w :: ws) (x :: xs) (y :: ys)) : C2 o A s vs ws xs ys:=
 ⟨by simpa using h.1,by simpa using h.2.1,fun j a b c d e1 e2 e3 e4=>h.2.2 (j + 1) a b c d (by simpa using e1) (by simpa using e2) (by simpa using e3) (by simpa using e4)⟩
theorem tuple_ltAt (l b : Addr) (items items2 : Array Value) (n n2 : Nat) (dd dd2 : Option Addr) (sl sl2 : Array (Option Value)) (xs ys : List D) (res : Bool) (hr : ordDs .lt xs ys = some res) :
  Meets (Builtin.«tuple.__lt__» ⟨[.ref l,.ref b],[]⟩)
   (fun A R s=>s.heap.get? l = some { cls:=.type "tuple",dict:=dd,data:=.seq items n,slots:=sl }/\s.heap.get? b = some { cls:=.type "tuple",dict:=dd2,data:=.seq items2 n2,slots:=sl2 }/\
    C2 .lt A.in1 s items.toList items2.toList xs ys/\R (.ok (.ret (.bool res))) s):=
 .of_wp fun prog w A R s h=>by
  obtain ⟨hp,g,d,tk,os⟩:=s;obtain ⟨hl,hb,hC,h⟩:=h
  have f2:=AutoSeq1.sub_tuple_tuple
  have z1 : items.size = xs.length:=by rw [<- hC.1];simp
  have z2 : items2.size = ys.length:=by rw [<- hC.2.1];simp
  wp_walk using wpAny_loadPart' hl,wpAny_loadPart' hb,wpAny_forIn_list _ (fun rest b s'=>b.1 = none/\s' = ⟨hp,g,d,tk,os⟩/\∃ (vs ws : List Value) (xs' ys' : List D),rest = vs.zip ws/\
   C2 .lt A.in1 ⟨hp,g,d,tk,os⟩ vs ws xs' ys'/\xs'.length + items2.size = ys'.length + items.size/\ordDs .lt xs' ys' = some res) _
  case turn=>
   rintro ⟨y,x⟩ rest b s' ⟨hb',rfl,vs,ws,xs',ys',hz,hC',hlen,hR⟩
   cases vs with
   | nil=>rw [List.zip_nil_left] at hz;cases hz
   | cons v vs=>
    cases ws with
    | nil=>rw [List.zip_nil_right] at hz;cases hz
    | cons w' ws=>
     rw [List.zip_cons_cons] at hz
     injection hz with hyx hrest
     injection hyx with hy hx
     subst hy hx
     cases xs' with
     | nil=>exact absurd hC'.1 (by simp)
     | cons x0 xs'=>
      cases ys' with
      | nil=>exact absurd hC'.2.1 (by simp)
      | cons y0 ys'=>
       rw [ordDs] at hR
       simp only [List.length_cons] at hlen
       obtain ⟨he,hlt⟩:=hC'.2.2 0 _ _ _ _ rfl rfl rfl rfl
       refine wpAny_bind (he prog w _ _ ?_)
       cases e : eqD x0 y0 with
       | true=>
        rw [e] at hR
        simp only [if_true] at hR
        wp_walk
        exact ⟨rfl,rfl,_,_,_,_,hrest,hC'.tail,by lia,hR⟩
       | false=>
        rw [e] at hR
        simp only [Bool.false_eq_true,if_false] at hR
        have hri : ∀ (E : Value->Shared->Prop) (Q : Value->Shared->Prop),Q (.bool res) ⟨hp,g,d,tk,os⟩->wpAny (model prog w) A.in1 (richCompare .Lt _ _) Q E ⟨hp,g,d,tk,os⟩:=fun E Q q=>hlt e res hR prog w E Q q
        wp_walk using hri
        exact ⟨_,rfl,by simpa using h⟩
  case fin=>
   rintro ⟨b1,b2⟩ s' ⟨hb',rfl,vs,ws,xs',ys',hz,hC',hlen,hR⟩
   simp only at hb'
   subst hb'
   have hv : res = decide (items.size < items2.size):=by
    cases xs' with
    | nil=>
     rw [ordDs] at hR
     have:=Option.some.inj hR
     rw [<- this]
     simp only [List.length_nil] at hlen
     simp only [Ordr.nat]
     congr 1
     simp only [eq_iff_iff]
     lia
    | cons x0 xs'=>
     cases ys' with
     | nil=>
      rw [ordDs] at hR
      have:=Option.some.inj hR
      rw [<- this]
      simp only [List.length_nil,List.length_cons] at hlen
      simp only [Ordr.nat,List.length_cons]
      congr 1
      simp only [eq_iff_iff]
      lia
     | cons y0 ys'=>
      exfalso
      cases vs with
      | nil=>exact absurd hC'.1 (by simp)
      | cons v vs=>
       cases ws with
       | nil=>exact absurd hC'.2.1 (by simp)
       | cons w' ws=>rw [List.zip_cons_cons] at hz;cases hz
   rw [hv] at h
   wp_walk
   exact ⟨_,rfl,by simpa [Builtin.Tuple.tupleCompareSizes] using h⟩
  case h=>
   exact ⟨rfl,rfl,items.toList,items2.toList,xs,ys,rfl,hC,by lia,hr⟩
theorem RoAt.lt_tup {A : Around} {s : Shared} {l b : Addr} {items items2 : Array Value} {xs ys : List D} {res : Bool} (hl : s.heap.IsTuple l items) (hb : s.heap.IsTuple b items2) (hC : C2 .lt A.in1 s items.toList items2.toList xs ys) (hr : ordDs .lt xs ys = some res) (hu : A.units < cLine) :
  RoAt .Lt A s (.ref l) (.ref b) res:=fun prog w E Q h=>by
 obtain ⟨⟨cls,dd,data,sl⟩,ho,hc,n,hd⟩:=id hl
 obtain ⟨⟨cls2,dd2,data2,sl2⟩,ho2,hc2,n2,hd2⟩:=id hb
 simp only at hc hd hc2 hd2
 subst hc hd hc2 hd2
 exact richCompare_meets_room (op:=.Lt) ⟨_,ho,rfl⟩ ⟨_,ho2,rfl⟩ PySem.F.slot_tuple_lt PySem.F.entry_tuple_lt (PySem.F.args_tuple_lt_2 _ _) (tuple_ltAt l b items items2 n n2 dd dd2 sl sl2 xs ys res hr)
  ⟨ho,ho2,hC,show Value.bool res ≠ Value.notImplemented/\Q (.bool res) s from ⟨(fun x=>nomatch x),h⟩⟩ hu
theorem tuple_leAt (l b : Addr) (items items2 : Array Value) (n n2 : Nat) (dd dd2 : Option Addr) (sl sl2 : Array (Option Value)) (xs ys : List D) (res : Bool) (hr : ordDs .le xs ys = some res) :
  Meets (Builtin.«tuple.__le__» ⟨[.ref l,.ref b],[]⟩)
   (fun A R s=>s.heap.get? l = some { cls:=.type "tuple",dict:=dd,data:=.seq items n,slots:=sl }/\s.heap.get? b = some { cls:=.type "tuple",dict:=dd2,data:=.seq items2 n2,slots:=sl2 }/\
    C2 .le A.in1 s items.toList items2.toList xs ys/\R (.ok (.ret (.bool res))) s):=
 .of_wp fun prog w A R s h=>by
  obtain ⟨hp,g,d,tk,os⟩:=s;obtain ⟨hl,hb,hC,h⟩:=h
  have f2:=AutoSeq1.sub_tuple_tuple
  have z1 : items.size = xs.length:=by rw [<- hC.1];simp
  have z2 : items2.size = ys.length:=by rw [<- hC.2.1];simp
  wp_walk using wpAny_loadPart' hl,wpAny_loadPart' hb,wpAny_forIn_list _ (fun rest b s'=>b.1 = none/\s' = ⟨hp,g,d,tk,os⟩/\∃ (vs ws : List Value) (xs' ys' : List D),rest = vs.zip ws/\
   C2 .le A.in1 ⟨hp,g,d,tk,os⟩ vs ws xs' ys'/\xs'.length + items2.size = ys'.length + items.size/\ordDs .le xs' ys' = some res) _
  case turn=>
   rintro ⟨y,x⟩ rest b s' ⟨hb',rfl,vs,ws,xs',ys',hz,hC',hlen,hR⟩
   cases vs with
   | nil=>rw [List.zip_nil_left] at hz;cases hz
   | cons v vs=>
    cases ws with
    | nil=>rw [List.zip_nil_right] at hz;cases hz
    | cons w' ws=>
     rw [List.zip_cons_cons] at hz
     injection hz with hyx hrest
     injection hyx with hy hx
     subst hy hx
     cases xs' with
     | nil=>exact absurd hC'.1 (by simp)
     | cons x0 xs'=>
      cases ys' with
      | nil=>exact absurd hC'.2.1 (by simp)
      | cons y0 ys'=>
       rw [ordDs] at hR
       simp only [List.length_cons] at hlen
       obtain ⟨he,hlt⟩:=hC'.2.2 0 _ _ _ _ rfl rfl rfl rfl
       refine wpAny_bind (he prog w _ _ ?_)
       cases e : eqD x0 y0 with
       | true=>
        rw [e] at hR
        simp only [if_true] at hR
        wp_walk
        exact ⟨rfl,rfl,_,_,_,_,hrest,hC'.tail,by lia,hR⟩
       | false=>
        rw [e] at hR
        simp only [Bool.false_eq_true,if_false] at hR
        have hri : ∀ (E : Value->Shared->Prop) (Q : Value->Shared->Prop),Q (.bool res) ⟨hp,g,d,tk,os⟩->wpAny (model prog w) A.in1 (richCompare .LtE _ _) Q E ⟨hp,g,d,tk,os⟩:=fun E Q q=>hlt e res hR prog w E Q q
        wp_walk using hri
        exact ⟨_,rfl,by simpa using h⟩
  case fin=>
   rintro ⟨b1,b2⟩ s' ⟨hb',rfl,vs,ws,xs',ys',hz,hC',hlen,hR⟩
   simp only at hb'
   subst hb'
   have hv : res = decide (items.size<=items2.size):=by
    cases xs' with
    | nil=>
     rw [ordDs] at hR
     have:=Option.some.inj hR
     rw [<- this]
     simp only [List.length_nil] at hlen
     simp only [Ordr.nat]
     congr 1
     simp only [eq_iff_iff]
     lia
    | cons x0 xs'=>
     cases ys' with
     | nil=>
      rw [ordDs] at hR
      have:=Option.some.inj hR
      rw [<- this]
      simp only [List.length_nil,List.length_cons] at hlen
      simp only [Ordr.nat,List.length_cons]
      congr 1
      simp only [eq_iff_iff]
      lia
     | cons y0 ys'=>
      exfalso
      cases vs with
      | nil=>exact absurd hC'.1 (by simp)
      | cons v vs=>
       cases ws with
       | nil=>exact absurd hC'.2.1 (by simp)
       | cons w' ws=>rw [List.zip_cons_cons] at hz;cases hz
   rw [hv] at h
   wp_walk
   exact ⟨_,rfl,by simpa [Builtin.Tuple.tupleCompareSizes] using h⟩
  case h=>
   exact ⟨rfl,rfl,items.toList,items2.toList,xs,ys,rfl,hC,by lia,hr⟩
theorem RoAt.le_tup {A : Around} {s : Shared} {l b : Addr} {items items2 : Array Value} {xs ys : List D} {res : Bool} (hl : s.heap.IsTuple l items) (hb : s.heap.IsTuple b items2) (hC : C2 .le A.in1 s items.toList items2.toList xs ys) (hr : ordDs .le xs ys = some res) (hu : A.units < cLine) :
  RoAt .LtE A s (.ref l) (.ref b) res:=fun prog w E Q h=>by
 obtain ⟨⟨cls,dd,data,sl⟩,ho,hc,n,hd⟩:=id hl
 obtain ⟨⟨cls2,dd2,data2,sl2⟩,ho2,hc2,n2,hd2⟩:=id hb
 simp only at hc hd hc2 hd2
 subst hc hd hc2 hd2
 exact richCompare_meets_room (op:=.LtE) ⟨_,ho,rfl⟩ ⟨_,ho2,rfl⟩ PySem.F.slot_tuple_le PySem.F.entry_tuple_le (PySem.F.args_tuple_le_2 _ _) (tuple_leAt l b items items2 n n2 dd dd2 sl sl2 xs ys res hr)
  ⟨ho,ho2,hC,show Value.bool res ≠ Value.notImplemented/\Q (.bool res) s from ⟨(fun x=>nomatch x),h⟩⟩ hu
theorem tuple_gtAt (l b : Addr) (items items2 : Array Value) (n n2 : Nat) (dd dd2 : Option Addr) (sl sl2 : Array (Option Value)) (xs ys : List D) (res : Bool) (hr : ordDs .gt xs ys = some res) :
  Meets (Builtin.«tuple.__gt__» ⟨[.ref l,.ref b],[]⟩)
   (fun A R s=>s.heap.get? l = some { cls:=.type "tuple",dict:=dd,data:=.seq items n,slots:=sl }/\s.heap.get? b = some { cls:=.type "tuple",dict:=dd2,data:=.seq items2 n2,slots:=sl2 }/\
    C2 .gt A.in1 s items.toList items2.toList xs ys/\R (.ok (.ret (.bool res))) s):=
 .of_wp fun prog w A R s h=>by
  obtain ⟨hp,g,d,tk,os⟩:=s;obtain ⟨hl,hb,hC,h⟩:=h
  have f2:=AutoSeq1.sub_tuple_tuple
  have z1 : items.size = xs.length:=by rw [<- hC.1];simp
  have z2 : items2.size = ys.length:=by rw [<- hC.2.1];simp
  wp_walk using wpAny_loadPart' hl,wpAny_loadPart' hb,wpAny_forIn_list _ (fun rest b s'=>b.1 = none/\s' = ⟨hp,g,d,tk,os⟩/\∃ (vs ws : List Value) (xs' ys' : List D),rest = vs.zip ws/\
   C2 .gt A.in1 ⟨hp,g,d,tk,os⟩ vs ws xs' ys'/\xs'.length + items2.size = ys'.length + items.size/\ordDs .gt xs' ys' = some res) _
  case turn=>
   rintro ⟨y,x⟩ rest b s' ⟨hb',rfl,vs,ws,xs',ys',hz,hC',hlen,hR⟩
   cases vs with
   | nil=>rw [List.zip_nil_left] at hz;cases hz
   | cons v vs=>
    cases ws with
    | nil=>rw [List.zip_nil_right] at hz;cases hz
    | cons w' ws=>
     rw [List.zip_cons_cons] at hz
     injection hz with hyx hrest
     injection hyx with hy hx
     subst hy hx
     cases xs' with
     | nil=>exact absurd hC'.1 (by simp)
     | cons x0 xs'=>
      cases ys' with
      | nil=>exact absurd hC'.2.1 (by simp)
      | cons y0 ys'=>
       rw [ordDs] at hR
       simp only [List.length_cons] at hlen
       obtain ⟨he,hlt⟩:=hC'.2.2 0 _ _ _ _ rfl rfl rfl rfl
       refine wpAny_bind (he prog w _ _ ?_)
       cases e : eqD x0 y0 with
       | true=>
        rw [e] at hR
        simp only [if_true] at hR
        wp_walk
        exact ⟨rfl,rfl,_,_,_,_,hrest,hC'.tail,by lia,hR⟩
       | false=>
        rw [e] at hR
        simp only [Bool.false_eq_true,if_false] at hR
        have hri : ∀ (E : Value->Shared->Prop) (Q : Value->Shared->Prop),Q (.bool res) ⟨hp,g,d,tk,os⟩->wpAny (model prog w) A.in1 (richCompare .Gt _ _) Q E ⟨hp,g,d,tk,os⟩:=fun E Q q=>hlt e res hR prog w E Q q
        wp_walk using hri
        exact ⟨_,rfl,by simpa using h⟩
  case fin=>
   rintro ⟨b1,b2⟩ s' ⟨hb',rfl,vs,ws,xs',ys',hz,hC',hlen,hR⟩
   simp only at hb'
   subst hb'
   have hv : res = decide (items2.size < items.size):=by
    cases xs' with
    | nil=>
     rw [ordDs] at hR
     have:=Option.some.inj hR
     rw [<- this]
     simp only [List.length_nil] at hlen
     simp only [Ordr.nat]
     congr 1
     simp only [eq_iff_iff]
     lia
    | cons x0 xs'=>
     cases ys' with
     | nil=>
      rw [ordDs] at hR
      have:=Option.some.inj hR
      rw [<- this]
      simp only [List.length_nil,List.length_cons] at hlen
      simp only [Ordr.nat,List.length_cons]
      congr 1
      simp only [eq_iff_iff]
      lia
     | cons y0 ys'=>
      exfalso
      cases vs with
      | nil=>exact absurd hC'.1 (by simp)
      | cons v vs=>
       cases ws with
       | nil=>exact absurd hC'.2.1 (by simp)
       | cons w' ws=>rw [List.zip_cons_cons] at hz;cases hz
   rw [hv] at h
   wp_walk
   exact ⟨_,rfl,by simpa [Builtin.Tuple.tupleCompareSizes] using h⟩
  case h=>
   exact ⟨rfl,rfl,items.toList,items2.toList,xs,ys,rfl,hC,by lia,hr⟩
theorem RoAt.gt_tup {A : Around} {s : Shared} {l b : Addr} {items items2 : Array Value} {xs ys : List D} {res : Bool} (hl : s.heap.IsTuple l items) (hb : s.heap.IsTuple b items2) (hC : C2 .gt A.in1 s items.toList items2.toList xs ys) (hr : ordDs .gt xs ys = some res) (hu : A.units < cLine) :
  RoAt .Gt A s (.ref l) (.ref b) res:=fun prog w E Q h=>by
 obtain ⟨⟨cls,dd,data,sl⟩,ho,hc,n,hd⟩:=id hl
 obtain ⟨⟨cls2,dd2,data2,sl2⟩,ho2,hc2,n2,hd2⟩:=id hb
 simp only at hc hd hc2 hd2
 subst hc hd hc2 hd2
 exact richCompare_meets_room (op:=.Gt) ⟨_,ho,rfl⟩ ⟨_,ho2,rfl⟩ PySem.F.slot_tuple_gt PySem.F.entry_tuple_gt (PySem.F.args_tuple_gt_2 _ _) (tuple_gtAt l b items items2 n n2 dd dd2 sl sl2 xs ys res hr)
  ⟨ho,ho2,hC,show Value.bool res ≠ Value.notImplemented/\Q (.bool res) s from ⟨(fun x=>nomatch x),h⟩⟩ hu
theorem tuple_geAt (l b : Addr) (items items2 : Array Value) (n n2 : Nat) (dd dd2 : Option Addr) (sl sl2 : Array (Option Value)) (xs ys : List D) (res : Bool) (hr : ordDs .ge xs ys = some res) :
  Meets (Builtin.«tuple.__ge__» ⟨[.ref l,.ref b],[]⟩)
   (fun A R s=>s.heap.get? l = some { cls:=.type "tuple",dict:=dd,data:=.seq items n,slots:=sl }/\s.heap.get? b = some { cls:=.type "tuple",dict:=dd2,data:=.seq items2 n2,slots:=sl2 }/\
    C2 .ge A.in1 s items.toList items2.toList xs ys/\R (.ok (.ret (.bool res))) s):=
 .of_wp fun prog w A R s h=>by
  obtain ⟨hp,g,d,tk,os⟩:=s;obtain ⟨hl,hb,hC,h⟩:=h
  have f2:=AutoSeq1.sub_tuple_tuple
  have z1 : items.size = xs.length:=by rw [<- hC.1];simp
  have z2 : items2.size = ys.length:=by rw [<- hC.2.1];simp
  wp_walk using wpAny_loadPart' hl,wpAny_loadPart' hb,wpAny_forIn_list _ (fun rest b s'=>b.1 = none/\s' = ⟨hp,g,d,tk,os⟩/\∃ (vs ws : List Value) (xs' ys' : List D),rest = vs.zip ws/\
   C2 .ge A.in1 ⟨hp,g,d,tk,os⟩ vs ws xs' ys'/\xs'.length + items2.size = ys'.length + items.size/\ordDs .ge xs' ys' = some res) _
  case turn=>
   rintro ⟨y,x⟩ rest b s' ⟨hb',rfl,vs,ws,xs',ys',hz,hC',hlen,hR⟩
   cases vs with
   | nil=>rw [List.zip_nil_left] at hz;cases hz
   | cons v vs=>
    cases ws with
    | nil=>rw [List.zip_nil_right] at hz;cases hz
    | cons w' ws=>
     rw [List.zip_cons_cons] at hz
     injection hz with hyx hrest
     injection hyx with hy hx
     subst hy hx
     cases xs' with
     | nil=>exact absurd hC'.1 (by simp)
     | cons x0 xs'=>
      cases ys' with
      | nil=>exact absurd hC'.2.1 (by simp)
      | cons y0 ys'=>
       rw [ordDs] at hR
       simp only [List.length_cons] at hlen
       obtain ⟨he,hlt⟩:=hC'.2.2 0 _ _ _ _ rfl rfl rfl rfl
       refine wpAny_bind (he prog w _ _ ?_)
       cases e : eqD x0 y0 with
       | true=>
        rw [e] at hR
        simp only [if_true] at hR
        wp_walk
        exact ⟨rfl,rfl,_,_,_,_,hrest,hC'.tail,by lia,hR⟩
       | false=>
        rw [e] at hR
        simp only [Bool.false_eq_true,if_false] at hR
        have hri : ∀ (E : Value->Shared->Prop) (Q : Value->Shared->Prop),Q (.bool res) ⟨hp,g,d,tk,os⟩->wpAny (model prog w) A.in1 (richCompare .GtE _ _) Q E ⟨hp,g,d,tk,os⟩:=fun E Q q=>hlt e res hR prog w E Q q
        wp_walk using hri
        exact ⟨_,rfl,by simpa using h⟩
  case fin=>
   rintro ⟨b1,b2⟩ s' ⟨hb',rfl,vs,ws,xs',ys',hz,hC',hlen,hR⟩
   simp only at hb'
   subst hb'
   have hv : res = decide (items2.size<=items.size):=by
    cases xs' with
    | nil=>
     rw [ordDs] at hR
     have:=Option.some.inj hR
     rw [<- this]
     simp only [List.length_nil] at hlen
     simp only [Ordr.nat]
     congr 1
     simp only [eq_iff_iff]
     lia
    | cons x0 xs'=>
     cases ys' with
     | nil=>
      rw [ordDs] at hR
      have:=Option.some.inj hR
      rw [<- this]
      simp only [List.length_nil,List.length_cons] at hlen
      simp only [Ordr.nat,List.length_cons]
      congr 1
      simp only [eq_iff_iff]
      lia
     | cons y0 ys'=>
      exfalso
      cases vs with
      | nil=>exact absurd hC'.1 (by simp)
      | cons v vs=>
       cases ws with
       | nil=>exact absurd hC'.2.1 (by simp)
       | cons w' ws=>rw [List.zip_cons_cons] at hz;cases hz
   rw [hv] at h
   wp_walk
   exact ⟨_,rfl,by simpa [Builtin.Tuple.tupleCompareSizes] using h⟩
  case h=>
   exact ⟨rfl,rfl,items.toList,items2.toList,xs,ys,rfl,hC,by lia,hr⟩
theorem RoAt.ge_tup {A : Around} {s : Shared} {l b : Addr} {items items2 : Array Value} {xs ys : List D} {res : Bool} (hl : s.heap.IsTuple l items) (hb : s.heap.IsTuple b items2) (hC : C2 .ge A.in1 s items.toList items2.toList xs ys) (hr : ordDs .ge xs ys = some res) (hu : A.units < cLine) :
  RoAt .GtE A s (.ref l) (.ref b) res:=fun prog w E Q h=>by
 obtain ⟨⟨cls,dd,data,sl⟩,ho,hc,n,hd⟩:=id hl
 obtain ⟨⟨cls2,dd2,data2,sl2⟩,ho2,hc2,n2,hd2⟩:=id hb
 simp only at hc hd hc2 hd2
 subst hc hd hc2 hd2
 exact richCompare_meets_room (op:=.GtE) ⟨_,ho,rfl⟩ ⟨_,ho2,rfl⟩ PySem.F.slot_tuple_ge PySem.F.entry_tuple_ge (PySem.F.args_tuple_ge_2 _ _) (tuple_geAt l b items items2 n n2 dd dd2 sl sl2 xs ys res hr)
  ⟨ho,ho2,hC,show Value.bool res ≠ Value.notImplemented/\Q (.bool res) s from ⟨(fun x=>nomatch x),h⟩⟩ hu
section
variable {X : Cx} {pins : List (Addr × Obj)} {σ : St} {H : Hp} {s : Shared}
theorem rep_ord (I : Inv X pins σ H s) (o : Ordr) : ∀ (n : Nat) (A : Around) {x y : V} {a b : D} {u v : Value} {k : Bool},A.units + n < cLine->a.eqok n = true->b.eqok n = true->Rep All H x a->Rep All H y b->RelV x u->RelV y v->
  ordD o a b = some k->RoAt o.op A s u v k:=by
 intro n
 induction n with
 | zero=>
  intro A x y a b u v k hu ha hb rx ry ru rv hk
  cases a with
  | int i=>
   cases b with
   | int j=>
    cases rx;cases ry
    obtain ⟨t,rfl⟩:=ru
    obtain ⟨t',rfl⟩:=rv
    rw [ordD] at hk
    have:=Option.some.inj hk
    subst this
    cases o with
    | lt=>exact fun prog w E Q h=>(PyProof.Rows.lt_int h : wpAny (model prog w) A (compareOp .Lt (.int i t) (.int j t')) Q E s)
    | le=>exact fun prog w E Q h=>(PyProof.Rows.le_int h : wpAny (model prog w) A (compareOp .LtE (.int i t) (.int j t')) Q E s)
    | gt=>exact fun prog w E Q h=>(PyProof.Rows.gt_int h : wpAny (model prog w) A (compareOp .Gt (.int i t) (.int j t')) Q E s)
    | ge=>exact fun prog w E Q h=>(PyProof.Rows.ge_int h : wpAny (model prog w) A (compareOp .GtE (.int i t) (.int j t')) Q E s)
   | _=>simp [ordD] at hk
  | str i=>
   cases b with
   | str j=>
    cases rx;cases ry
    obtain ⟨t,rfl⟩:=ru
    obtain ⟨t',rfl⟩:=rv
    rw [ordD] at hk
    have:=Option.some.inj hk
    subst this
    cases o with
    | lt=>exact fun prog w E Q h=>(PyProof.Rows.lt_str h : wpAny (model prog w) A (compareOp .Lt (.str i t) (.str j t')) Q E s)
    | le=>exact fun prog w E Q h=>(PySem.P.le_str h : wpAny (model prog w) A (compareOp .LtE (.str i t) (.str j t')) Q E s)
    | gt=>exact fun prog w E Q h=>(PySem.P.gt_str h : wpAny (model prog w) A (compareOp .Gt (.str i t) (.str j t')) Q E s)
    | ge=>exact fun prog w E Q h=>(PySem.P.ge_str h : wpAny (model prog w) A (compareOp .GtE (.str i t) (.str j t')) Q E s)
   | _=>simp [ordD] at hk
  | tup _=>simp [D.eqok] at ha
  | _=>cases b <;> simp [ordD] at hk
 | succ n ih=>
  intro A x y a b u v k hu ha hb rx ry ru rv hk
  have hu0 : A.units < cLine:=by lia
  have hu1 : A.in1.units + n < cLine:=by show A.units + 1 + n < cLine;lia
  cases a with
  | int i=>
   cases b with
   | int j=>
    cases rx;cases ry
    obtain ⟨t,rfl⟩:=ru
    obtain ⟨t',rfl⟩:=rv
    rw [ordD] at hk
    have:=Option.some.inj hk
    subst this
    cases o with
    | lt=>exact fun prog w E Q h=>(PyProof.Rows.lt_int h : wpAny (model prog w) A (compareOp .Lt (.int i t) (.int j t')) Q E s)
    | le=>exact fun prog w E Q h=>(PyProof.Rows.le_int h : wpAny (model prog w) A (compareOp .LtE (.int i t) (.int j t')) Q E s)
    | gt=>exact fun prog w E Q h=>(PyProof.Rows.gt_int h : wpAny (model prog w) A (compareOp .Gt (.int i t) (.int j t')) Q E s)
    | ge=>exact fun prog w E Q h=>(PyProof.Rows.ge_int h : wpAny (model prog w) A (compareOp .GtE (.int i t) (.int j t')) Q E s)
   | _=>simp [ordD] at hk
  | str i=>
   cases b with
   | str j=>
    cases rx;cases ry
    obtain ⟨t,rfl⟩:=ru
    obtain ⟨t',rfl⟩:=rv
    rw [ordD] at hk
    have:=Option.some.inj hk
    subst this
    cases o with
    | lt=>exact fun prog w E Q h=>(PyProof.Rows.lt_str h : wpAny (model prog w) A (compareOp .Lt (.str i t) (.str j t')) Q E s)
    | le=>exact fun prog w E Q h=>(PySem.P.le_str h : wpAny (model prog w) A (compareOp .LtE (.str i t) (.str j t')) Q E s)
    | gt=>exact fun prog w E Q h=>(PySem.P.gt_str h : wpAny (model prog w) A (compareOp .Gt (.str i t) (.str j t')) Q E s)
    | ge=>exact fun prog w E Q h=>(PySem.P.ge_str h : wpAny (model prog w) A (compareOp .GtE (.str i t) (.str j t')) Q E s)
   | _=>simp [ordD] at hk
  | tup ds=>
   cases b with
   | tup es=>
    obtain ⟨p,xs,rfl,e1,r1⟩:=rx.tupAt
    cases ru
    obtain ⟨its1,vr1,h1⟩:=fst_of I e1
    obtain ⟨q,ys,rfl,e2,r2⟩:=ry.tupAt
    cases rv
    obtain ⟨its2,vr2,h2⟩:=fst_of I e2
    rw [D.eqok] at ha hb
    rw [ordD] at hk
    have hC : ∀ o',o' = o->C2 o' A.in1 s its1.toArray.toList its2.toArray.toList ds es:=by
     rintro o' rfl
     refine ⟨by rw [List.toList_toArray,<- vr1.length,r1.length],by rw [List.toList_toArray,<- vr2.length,r2.length],fun j v w x y a1 a2 a3 a4=>?_⟩
     rw [List.toList_toArray] at a1 a2
     obtain ⟨v1,w1,rr1⟩:=r1.get a3
     obtain ⟨v2,w2,rr2⟩:=r2.get a4
     obtain ⟨u1,k1,l1⟩:=vr1.get w1
     obtain ⟨u2,k2,l2⟩:=vr2.get w2
     rw [a1] at k1;cases k1
     rw [a2] at k2;cases k2
     have g1 : x.eqok n = true:=by
      have:=eqoks_get (j:=j) ha (List.getElem?_eq_some_iff.mp a3).1
      rwa [List.getD_eq_getElem?_getD,a3] at this
     have g2 : y.eqok n = true:=by
      have:=eqoks_get (j:=j) hb (List.getElem?_eq_some_iff.mp a4).1
      rwa [List.getD_eq_getElem?_getD,a4] at this
     exact ⟨(rep_eq I n A.in1 hu1 g1 g2 rr1 rr2 l1 l2).2.2,fun _ k hk=>ih A.in1 hu1 g1 g2 rr1 rr2 l1 l2 hk⟩
    cases o with
    | lt=>exact RoAt.lt_tup h1 h2 (hC .lt rfl) hk hu0
    | le=>exact RoAt.le_tup h1 h2 (hC .le rfl) hk hu0
    | gt=>exact RoAt.gt_tup h1 h2 (hC .gt rfl) hk hu0
    | ge=>exact RoAt.ge_tup h1 h2 (hC .ge rfl) hk hu0
   | _=>simp [ordD] at hk
  | _=>cases b <;> simp [ordD] at hk
end
end Mi
end
section
set_option maxRecDepth 100000
set_option maxHeartbeats 1000000
namespace TS
open PySem PyProof.Rows
end TS
end
section
set_option maxRecDepth 100000
set_option maxHeartbeats 1000000
namespace Mi
open PySem L2 PySem.SeqAt
open PyProof.Rows (Keyed lt' keyLt' oneLt' SortKind SortSt kindOf tuples' oneType' pairsOf wpS wpS_bind wpS_pure wpS_get wpS_lift keyKind')
variable [KFrag]
section
variable {X : Cx} {pins : List (Addr × Obj)} {σ : L2.St} {H : Hp} {s : Shared}
end
end Mi
end
section
set_option maxRecDepth 100000
namespace Mi
open PySem L2 PySem.SeqAt PySem.Spec PyProof.Rows
variable [KFrag]
noncomputable def kR (H : Hp) (d : D) (fr : Bool) (Q : VK) : Prop:=∀ v H',Same H H'->Rep All H' v d->(fr = true->Rep (New H) H' v d)->Q v H'
noncomputable def gE (f : FE) (fr : Bool) : TE:=fun σ H Q=>∃ ρ d,ER H σ ρ/\f ρ = .ok d/\kR H d fr Q
noncomputable def gT (f : FT) : TT:=fun σ H Q=>∃ ρ b,ER H σ ρ/\f ρ = .ok b/\∀ H',Same H H'->Q b H'
noncomputable def gA (f : FA) (fr : Bool) : TA:=fun σ H Q=>∃ ρ ds,ER H σ ρ/\f ρ = .ok ds/\∀ vs H',Same H H'->Reps All H' vs ds->(fr = true->Reps (New H) H' vs ds)->Q vs H'
theorem kR.self {H : Hp} {d : D} {fr : Bool} {Q : VK} {v : V} (q : kR H d fr Q) (r : Rep All H v d) (r2 : fr = true->Rep (New H) H v d) : Q v H:=q v H (Same.refl H) r r2
theorem kR.imp {H H' : Hp} {d : D} {fr fr' : Bool} {Q : VK} (q : kR H d fr Q) (s : Same H H') (h : fr = true->fr' = true) : kR H' d fr' Q:=fun v H2 s2 r n=>q v H2 (s.trans s2) r fun hf=>(n (h hf)).mono (Same.new s)
theorem kR.int {H : Hp} {i : Int} {fr : Bool} {Q : VK} (q : kR H (.int i) fr Q) : Q (.int i) H:=q.self (.int i) fun _=>.int i
theorem kR.bl {H : Hp} {i : Bool} {fr : Bool} {Q : VK} (q : kR H (.bl i) fr Q) : Q (.bl i) H:=q.self (.bl i) fun _=>.bl i
theorem kR.str {H : Hp} {i : Str} {fr : Bool} {Q : VK} (q : kR H (.str i) fr Q) : Q (.str i) H:=q.self (.str i) fun _=>.str i
theorem kR.non {H : Hp} {fr : Bool} {Q : VK} (q : kR H .non fr Q) : Q .non H:=q.self .non fun _=>.non
noncomputable def r2 (f : D->D->Res D) (fr : Bool) : R2:=fun x y H Q=>∃ a b d,Rep All H x a/\Rep All H y b/\f a b = .ok d/\kR H d fr Q
noncomputable def rs (f : List D->Res D) (fr : Bool) : List V->Hp->VK->Prop:=fun xs H Q=>∃ ds d,Reps All H xs ds/\f ds = .ok d/\kR H d fr Q
noncomputable def rm (f : D->List D->Res D) (fr : Bool) : V->List V->Hp->VK->Prop:=fun x xs H Q=>∃ a ds d,Rep All H x a/\Reps All H xs ds/\f a ds = .ok d/\kR H d fr Q
theorem bindE {α β : Type} {m : Res α} {f : α->Res β} {b : β} (h : (do let x <- m;f x) = .ok b) : ∃ a,m = .ok a/\f a = .ok b:=Res.bind_ok h
section
variable {X : Cx} {a b c e : Expr} {pos : Pos} {fa fb fc fe : FE} {ra rb rc re : Bool} {ga gb gc : FT}
theorem ER.var {H : Hp} {σ : L2.St} {ρ : List D} {i : Nat} {d : D} (E : ER H σ ρ) (h : bVar i ρ = .ok d) : ∃ v,σ[i]? = some (some v)/\Rep All H v d/\ρ.getD i .undef = d:=by
 have : ρ.getD i .undef = d/\d ≠ .undef:=by
  unfold bVar at h
  split at h
  ·cases h
  ·cases h
   refine ⟨rfl,fun z=>?_⟩
   rename_i q
   exact q z
 obtain ⟨e1,e2⟩:=this
 obtain ⟨v,h1,h2⟩:=E i (by rw [e1];exact e2)
 exact ⟨v,h1,by rw [e1] at h2;exact h2,e1⟩
theorem me_var {i : Nat} {x : Str} (hN : X.N[i]? = some x) (hv : Vis X.env.scope x) (hd : (x == ("__debug__" : Str)) = false:=by decide) (hcd : (x == ("__classdict__" : Str)) = false:=by decide) : PE X (.Name x pos) (gE (bVar i) false):=
 PE.imp (pe_var hN hv hd hcd) fun σ H Q ⟨ρ,d,E,h,q⟩=>by
  obtain ⟨v,h1,h2,_⟩:=E.var h
  exact ⟨v,h1,q.self h2 (fun z=>by cases z)⟩
theorem me_int {i j} : PE X (.Constant (.int i) j pos) (gE (bC (.int i)) true):=PE.imp pe_int fun σ H Q ⟨ρ,d,E,h,q⟩=>by cases h;exact q.int
theorem me_bl {i j} : PE X (.Constant (.bool i) j pos) (gE (bC (.bl i)) true):=PE.imp pe_bl fun σ H Q ⟨ρ,d,E,h,q⟩=>by cases h;exact q.bl
theorem me_str {i j} : PE X (.Constant (.str i) j pos) (gE (bC (.str i)) true):=PE.imp pe_str fun σ H Q ⟨ρ,d,E,h,q⟩=>by cases h;exact q.str
theorem me_non {j} : PE X (.Constant .none j pos) (gE (bC .non) true):=PE.imp pe_non fun σ H Q ⟨ρ,d,E,h,q⟩=>by cases h;exact q.non
theorem two {f : D->D->Res D} {fr : Bool} {σ : L2.St} {H : Hp} {Q : VK} (h : gE (b2 f fa fb) fr σ H Q) : tOp (r2 f fr) (gE fa ra) (gE fb rb) σ H Q:=by
 obtain ⟨ρ,d,E,h,q⟩:=h
 obtain ⟨x,h1,h⟩:=bindE h
 obtain ⟨y,h2,h⟩:=bindE h
 refine ⟨ρ,x,E,h1,fun v H1 s1 rp1 _=>⟨ρ,y,E.same s1,h2,fun u H2 s2 rp2 _=>⟨x,y,d,rp1.same s2,rp2,h,q.imp (s1.trans s2) id⟩⟩⟩
theorem me_op {o : Operator} {f : D->D->Res D} {fr : Bool} (ho : OpR X (binaryOp o) (r2 f fr)) (ha : PE X a (gE fa ra)) (hb : PE X b (gE fb rb)) : PE X (.BinOp a o b pos) (gE (b2 f fa fb) fr):=PE.imp (pe_op ho ha hb) fun _ _ _=>two
theorem me_cmp {o : CmpOp} {f : D->D->Res D} {fr : Bool} (ho : OpR X (compareOp o) (r2 f fr)) (ha : PE X a (gE fa ra)) (hb : PE X b (gE fb rb)) (hm : behindInMarks o b = false) : PE X (.Compare a [o] [b] pos) (gE (b2 f fa fb) fr):=PE.imp (pe_cmpR ho ha hb hm) fun _ _ _=>two
theorem mt_cmp {o : CmpOp} {f : D->D->Res D} {fr : Bool} (ho : OpR X (compareOp o) (r2 f fr)) (ha : PE X a (gE fa ra)) (hb : PE X b (gE fb rb)) (hm : behindInMarks o b = false) : PT X (.Compare a [o] [b] pos) (gT (bTB (b2 f fa fb))):=
 PT.imp (pt_cmpR ho ha hb hm) fun σ H Q ⟨ρ,k,E,h,q⟩=>by
  obtain ⟨d,h1,h2⟩:=bindE h
  refine two ⟨ρ,d,E,h1,fun v H' s r _=>?_⟩
  cases d <;> simp only [asB] at h2 <;> cases h2
  cases r
  exact ⟨_,rfl,q H' s⟩
theorem me_ix {f : D->D->Res D} {fr : Bool} (ho : IxR X (r2 f fr)) (ha : PE X a (gE fa ra)) (hb : PE X b (gE fb rb)) (hs : PlainIx b) : PE X (.Subscript a b pos) (gE (b2 f fa fb) fr):=PE.imp (pe_ix ho ha hb hs) fun _ _ _=>two
theorem truV {H : Hp} {v : V} {d : D} {k : Bool} (r : Rep All H v d) (h : truD d = .ok k) (hd : ∀ kvs,d ≠ .dct kvs) (hs : ∀ xs,d ≠ .scr xs) : TruV X.K v H k:=by
 cases r with
 | non=>cases h;rfl
 | bl b=>cases h;rfl
 | int i=>cases h;rfl
 | str x=>
  simp only [truD] at h
  split at h
  ·rename_i hl
   cases h
   exact ⟨Nat.le_trans (of_decide_eq_true hl) (by rw [sizeLine_eq];decide),rfl⟩
  ·cases h
 | tup e rr=>cases h;exact .inr (.inl ⟨_,.of e,by cases rr <;> rfl⟩)
 | lst e p rr=>cases h;exact .inl ⟨_,.of e,by cases rr <;> rfl⟩
 | frz e rr=>exact absurd rfl (hs _)
 | dK e p rr n=>exact absurd rfl (hd _)
 | dT e p rr n=>exact absurd rfl (hd _)
 | fdK e rr n=>cases h
 | fdT e rr n=>cases h
theorem mt_val (ha : PE X a (gE fa ra)) (he : ∀ whole,isTrue a X.env whole = (do let v <- whole;standAt a.pos;holding [v] (truthy v)):=by intro _;rfl) : PT X a (gT (bTr fa)):=
 PT.imp (pt_truth ha he) fun σ H Q ⟨ρ,k,E,h,q⟩=>by
  obtain ⟨d,h1,h2⟩:=bindE h
  refine ⟨ρ,d,E,h1,fun v H' s r _=>⟨k,truV r ?_ ?_ ?_,q H' s⟩⟩
  ·cases d <;> first | exact h2 | cases h2
  ·rintro kvs rfl;cases h2
  ·rintro kvs rfl;cases h2
theorem mt_not (ha : PT X a (gT ga)) : PT X (.UnaryOp .Not a pos) (gT (bNot ga)):=PT.imp (pt_not ha) fun σ H Q ⟨ρ,k,E,h,q⟩=>by
  obtain ⟨d,h1,h2⟩:=bindE h
  cases h2
  exact ⟨ρ,d,E,h1,fun H' s=>q H' s⟩
theorem me_one {op} (ha : PE X a (gE fa ra)) : PE X (.BoolOp op [a] pos) (gE fa ra):=pe_one ha
theorem asB_ok {d : D} {k : Bool} (h : asB d = .ok k) : d = .bl k:=by cases d <;> simp only [asB] at h <;> cases h;rfl
theorem asI_ok {d : D} {k : Int} (h : asI d = .ok k) : d = .int k:=by cases d <;> simp only [asI] at h <;> cases h;rfl
theorem me_and {rest : List Expr} (ha : PE X a (gE fa ra)) (hb : PE X (.BoolOp .And (b :: rest) pos) (gE fb rb)) : PE X (.BoolOp .And (a :: b :: rest) pos) (gE (bAndV fa fb) rb):=PE.imp (pe_and ha hb) fun σ H Q ⟨ρ,k,E,h,q⟩=>by
  obtain ⟨d,h1,h⟩:=bindE h
  obtain ⟨z,h2,h3⟩:=bindE h
  cases asB_ok h2
  refine ⟨ρ,_,E,h1,fun v H' s r _=>?_⟩
  cases r
  refine ⟨_,rfl,?_⟩
  cases z with
  | true=>rw [if_pos rfl];rw [if_pos rfl] at h3;exact ⟨ρ,k,E.same s,h3,q.imp s id⟩
  | false=>rw [if_neg (by simp)];rw [if_neg (by simp)] at h3;cases h3;exact (q.imp s id).bl
theorem ma_nil : PA X [] (gA bNil true):=PA.imp pa_nil fun σ H Q ⟨ρ,ds,E,h,q⟩=>by cases h;exact q [] H (Same.refl H) .nil fun _=>.nil
theorem ma_cons {es : List Expr} {f : FA} {r : Bool} (he : PE X e (gE fe re)) (hes : PA X es (gA f r)) (hs : starEach (e :: es) X.env = (false,eval e X.env) :: starEach es X.env:=by rfl) : PA X (e :: es) (gA (bCons fe f) (re && r)):=PA.imp (pa_cons he hes hs) fun σ H Q ⟨ρ,ds,E,h,q⟩=>by
  obtain ⟨x,h1,h⟩:=bindE h
  obtain ⟨xs,h2,h⟩:=bindE h
  cases h
  refine ⟨ρ,x,E,h1,fun v H1 s1 r1 n1=>⟨ρ,xs,E.same s1,h2,fun vs H2 s2 r2 n2=>q _ _ (s1.trans s2) (.cons (r1.same s2) r2) fun hf=>?_⟩⟩
  obtain ⟨f1,f2⟩:=(Bool.and_eq_true _ _ ▸ hf : re = true/\r = true)
  exact .cons ((n1 f1).same s2) ((n2 f2).mono (Same.new s1))
theorem me_tup {es : List Expr} {f : FA} {r : Bool} {x1} (h : PA X es (gA f r)) : PE X (.Tuple es x1 pos) (gE (bTup f) r):=PE.imp (pe_tup h) fun σ H Q ⟨ρ,d,E,h,q⟩=>by
  obtain ⟨xs,h1,h⟩:=bindE h
  split at h
  ·rename_i hl
   cases h
   refine ⟨ρ,xs,E,h1,fun vs H1 s1 r1 n1=>⟨?_,fun p hp=>?_⟩⟩
   ·rw [r1.length];exact Nat.le_trans (of_decide_eq_true hl) (by rw [sizeLine_eq];decide)
   ·have sp : Same H1 (upd H1 p (.tup vs)):=Same.upd hp
    exact q _ _ (s1.trans sp) (.tup upd_same (r1.same sp)) fun hf=>.tup upd_same ((n1 hf).same sp)
  ·cases h
theorem me_lst {es : List Expr} {f : FA} {r : Bool} (h : PA X es (gA f r)) : PE X (.List es pos) (gE (bLst f) r):=PE.imp (pe_lst h) fun σ H Q ⟨ρ,d,E,h,q⟩=>by
  obtain ⟨xs,h1,h⟩:=bindE h
  split at h
  ·rename_i hl
   cases h
   refine ⟨ρ,xs,E,h1,fun vs H1 s1 r1 n1=>⟨?_,fun p hp=>?_⟩⟩
   ·rw [r1.length];exact Nat.le_trans (of_decide_eq_true hl) (by rw [sizeLine_eq];decide)
   ·have sp : Same H1 (upd H1 p (.lst vs)):=Same.upd hp
    exact q _ _ (s1.trans sp) (.lst upd_same trivial (r1.same sp)) fun hf=>.lst upd_same (s1.free hp) ((n1 hf).same sp)
  ·cases h
end
end Mi
end
section
set_option maxRecDepth 100000
namespace Mi
open PySem L2 PySem.SeqAt PySem.Spec PyProof.Rows
variable [KFrag]
section
variable {X : Cx} {a b c e : Expr} {pos : Pos} {fa fb fc fe : FE} {ra rb rc re : Bool} {ga gb gc : FT}
theorem lim_line {n : Nat} (h : decide (n<=lim) = true) : n<=sizeLine:=Nat.le_trans (of_decide_eq_true h) (by rw [sizeLine_eq];decide)
theorem lim_lt {n : Nat} (h : decide (n < lim) = true) : n < sizeLine:=Nat.lt_of_lt_of_le (of_decide_eq_true h) (by rw [sizeLine_eq];decide)
theorem Rep.lstRd {P : Addr->Prop} {H : Hp} {v : V} {ds : List D} (r : Rep P H v (.lst ds)) : ∃ a xs,v = .ref a/\Rd H a (.lst xs)/\Reps P H xs ds:=by
 cases r with
 | lst e p rr=>exact ⟨_,_,rfl,.inl e,rr⟩
theorem PW.imp {X : Cx} {e : PySem.Expr} {t t' : TT} (h : PW X e t) (i : ∀ σ H Q,t' σ H Q->t σ H Q) : PW X e t':=fun wh pins s σ H Q I q=>h wh pins s σ H Q I (i σ H Q q)
theorem mw_and1 (ha : PT X a (gT ga)) : PW X (.BoolOp .And [a] pos) (gT ga):=pw_and1 ha
theorem mw_or1 (ha : PT X a (gT ga)) : PW X (.BoolOp .Or [a] pos) (gT ga):=pw_or1 ha
theorem mw_and {rest : List Expr} (ha : PT X a (gT ga)) (hb : PW X (.BoolOp .And (b :: rest) pos) (gT gb)) : PW X (.BoolOp .And (a :: b :: rest) pos) (gT (bAnd ga gb)):=PW.imp (pw_and ha hb) fun σ H Q ⟨ρ,k,E,h,q⟩=>by
 obtain ⟨z,h1,h3⟩:=bindE h
 refine ⟨ρ,z,E,h1,fun H' s=>?_⟩
 cases z with
 | true=>rw [if_pos rfl];rw [if_pos rfl] at h3;exact ⟨ρ,k,E.same s,h3,fun H2 s2=>q H2 (s.trans s2)⟩
 | false=>rw [if_neg (by simp)];rw [if_neg (by simp)] at h3;cases h3;exact q H' s
theorem mw_or {rest : List Expr} (ha : PT X a (gT ga)) (hb : PW X (.BoolOp .Or (b :: rest) pos) (gT gb)) : PW X (.BoolOp .Or (a :: b :: rest) pos) (gT (bOr ga gb)):=PW.imp (pw_or ha hb) fun σ H Q ⟨ρ,k,E,h,q⟩=>by
 obtain ⟨z,h1,h3⟩:=bindE h
 refine ⟨ρ,z,E,h1,fun H' s=>?_⟩
 cases z with
 | true=>rw [if_pos rfl];rw [if_pos rfl] at h3;cases h3;exact q H' s
 | false=>rw [if_neg (by simp)];rw [if_neg (by simp)] at h3;exact ⟨ρ,k,E.same s,h3,fun H2 s2=>q H2 (s.trans s2)⟩
theorem chain3 {f g : D->D->Res D} {r r' : Bool} {σ : L2.St} {H : Hp} {Q : VK} (h : gE (bCh f g fa fb fc) r' σ H Q) : tChain (r2 f r) (r2 g r') (gE fa ra) (gE fb rb) (gE fc rc) σ H Q:=by
 obtain ⟨ρ,d,E,h,q⟩:=h
 obtain ⟨x,h1,h⟩:=bindE h
 obtain ⟨y,h2,h⟩:=bindE h
 obtain ⟨z,h3,h⟩:=bindE h
 obtain ⟨k,h4,h7⟩:=bindE h
 refine ⟨ρ,x,E,h1,fun v H1 s1 rp1 _=>⟨ρ,y,E.same s1,h2,fun u H2 s2 rp2 _=>⟨x,y,z,rp1.same s2,rp2,h3,fun t H3 s3 rp3 _=>?_⟩⟩⟩
 have e:=asB_ok h4
 subst e
 cases rp3
 refine ⟨k,rfl,?_⟩
 have s13:=(s1.trans s2).trans s3
 cases k with
 | true=>
  rw [if_pos rfl]
  rw [if_pos rfl] at h7
  obtain ⟨w,h5,h6⟩:=bindE h7
  exact ⟨ρ,w,E.same s13,h5,fun t H4 s4 rp4 _=>⟨y,w,d,(rp2.same s3).same s4,rp4,h6,q.imp (s13.trans s4) id⟩⟩
 | false=>
  rw [if_neg (by simp)]
  rw [if_neg (by simp)] at h7
  cases h7
  exact (q.imp s13 id).bl
theorem me_chain {o o' : CmpOp} {f g : D->D->Res D} {r r' : Bool} (ho : OpR X (compareOp o) (r2 f r)) (ho' : OpR X (compareOp o') (r2 g r')) (ha : PE X a (gE fa ra)) (hb : PE X b (gE fb rb)) (hc : PE X c (gE fc rc))
  (hm : lastMarks [o,o'] [b,c] = false:=by with_unfolding_all rfl) : PE X (.Compare a [o,o'] [b,c] pos) (gE (bCh f g fa fb fc) r'):=PE.imp (pe_chain ho ho' ha hb hc hm) fun _ _ _=>chain3
theorem mt_chain {o o' : CmpOp} {f g : D->D->Res D} {r r' : Bool} (ho : OpR X (compareOp o) (r2 f r)) (ho' : OpR X (compareOp o') (r2 g r')) (ha : PE X a (gE fa ra)) (hb : PE X b (gE fb rb)) (hc : PE X c (gE fc rc))
  (hm : lastMarks [o,o'] [b,c] = false:=by with_unfolding_all rfl) : PT X (.Compare a [o,o'] [b,c] pos) (gT (bTB (bCh f g fa fb fc))):=PT.imp (pt_chain ho ho' ha hb hc hm) fun σ H Q ⟨ρ,k,E,h,q⟩=>by
  obtain ⟨d,h1,h2⟩:=bindE h
  refine chain3 ⟨ρ,d,E,h1,fun v H' s r _=>?_⟩
  have e:=asB_ok h2
  subst e
  cases r
  exact ⟨_,rfl,q H' s⟩
theorem om_add : OpR X (binaryOp .Add) (r2 (binD .add) true):=by
 intro pins s σ H x y v u Q I rx ry h
 obtain ⟨a,b,d,p,q,e,k⟩:=h
 cases p with
 | int i=>
  cases q with
  | int j=>cases e;exact op_add pins s σ H _ _ v u Q I rx ry ⟨i,j,rfl,rfl,k.int⟩
  | _=>simp [binD] at e
 | str i=>
  cases q with
  | str j=>
   simp only [binD] at e
   split at e
   ·rename_i hl;cases e;exact op_add_str pins s σ H _ _ v u Q I rx ry ⟨i,j,rfl,rfl,lim_line hl,k.str⟩
   ·cases e
  | _=>simp [binD] at e
 | non=>simp [binD] at e
 | bl _=>simp [binD] at e
 | tup _ _=>simp [binD] at e
 | dK _ _ _ _=>simp [binD] at e
 | dT _ _ _ _=>simp [binD] at e
 | fdK _ _ _=>simp [binD] at e
 | fdT _ _ _=>simp [binD] at e
 | @lst a1 xs ds e1 p1 r1=>
  have hR : Rep All H (.ref a1) (.lst ds):=.lst e1 p1 r1
  cases b with
  | lst es=>
   simp only [binD] at e
   split at e
   ·rename_i hl
    cases e
    rw [Bool.and_eq_true,Bool.and_eq_true] at hl
    obtain ⟨⟨hl,hp1⟩,hp2⟩:=hl
    obtain ⟨l1,xs1,e1',rd1,rr1⟩:=hR.lstRd
    obtain ⟨l2,xs2,rfl,rd2,rr2⟩:=q.lstRd
    cases e1'
    cases rx
    cases ry
    obtain ⟨z,its,n,vr1,ee1⟩:=rd1.ok I.hok
    obtain ⟨z2,its2,n2,vr2,ee2⟩:=rd2.ok I.hok
    have hz : xs1.length + xs2.length<=sizeLine:=by rw [rr1.length,rr2.length];exact lim_line hl
    have t1:=vr1.length
    have t2:=vr2.length
    refine PySem.P.add_list ee1 ee2 ?_ (by rw [List.size_toArray,List.size_toArray];lia)
    have ea : its.toArray ++ its2.toArray = (its ++ its2).toArray:=by simp
    rw [ea]
    refine ⟨.ref _,_,I.lnew (t':=s.toks) (vr1.append vr2) (by rw [List.length_append];lia),rfl,?_⟩
    have sp : Same H (upd H s.heap.objs.size (.lst (xs1 ++ xs2))):=Same.upd I.fresh
    exact k _ _ sp (.lst upd_same trivial ((rr1.append rr2).same sp)) fun _=>.lst upd_same I.fresh (((rr1.ofPure hp1).append (rr2.ofPure hp2)).same sp)
   ·cases e
  | _=>simp [binD] at e
 | frz _ _=>simp [binD] at e
theorem om_ints {f : Value->Value->Sem Value} {C : Int->Int->Prop} {g : Int->Int->V} {op : D->D->Res D} (h : OpR X f (rI C g))
  (hi : ∀ i j d,op (.int i) (.int j) = .ok d->C i j/\∃ k,d = .int k/\g i j = .int k) (hn : ∀ a b d,op a b = .ok d->(∃ i,a = .int i)/\∃ j,b = .int j) : OpR X f (r2 op true):=by
 intro pins s σ H x y v u Q I rx ry ⟨a,b,d,p,q,e,k⟩
 obtain ⟨⟨i,rfl⟩,⟨j,rfl⟩⟩:=hn a b d e
 cases p
 cases q
 obtain ⟨hc,m,rfl,hm⟩:=hi i j d e
 exact h pins s σ H _ _ v u Q I rx ry ⟨i,j,rfl,rfl,hc,by rw [hm];exact k.int⟩
theorem om_sub : OpR X (binaryOp .Sub) (r2 (binD .sub) true):=by
 intro pins s σ H x y v u Q I rx ry ⟨a,b,d,p,q,e,k⟩
 cases a <;> cases b <;> simp [binD] at e
 cases p;cases q
 subst e
 exact op_sub pins s σ H _ _ v u Q I rx ry ⟨_,_,rfl,rfl,k.int⟩
theorem om_mul : OpR X (binaryOp .Mult) (r2 (binD .mul) true):=by
 refine om_ints op_mul (fun i j d e=>?_) fun a b d e=>?_
 ·simp only [binD] at e
  split at e
  ·rename_i hl
   cases e
   refine ⟨?_,_,rfl,rfl⟩
   simp only [smallB,Bool.or_eq_true,Bool.and_eq_true,decide_eq_true_eq] at hl
   exact hl
  ·cases e
 ·cases a <;> cases b <;> first | exact ⟨⟨_,rfl⟩,_,rfl⟩ | simp [binD] at e
theorem om_fdiv : OpR X (binaryOp .FloorDiv) (r2 (binD .fdiv) true):=by
 refine om_ints op_fdiv (fun i j d e=>?_) fun a b d e=>?_
 ·simp only [binD] at e
  split at e
  ·rename_i hl
   cases e
   refine ⟨?_,_,rfl,rfl⟩
   simp only [Bool.and_eq_true,decide_eq_true_eq] at hl
   exact hl
  ·cases e
 ·cases a <;> cases b <;> first | exact ⟨⟨_,rfl⟩,_,rfl⟩ | simp [binD] at e
theorem om_mod : OpR X (binaryOp .Mod) (r2 (binD .mod) true):=by
 refine om_ints op_mod (fun i j d e=>?_) fun a b d e=>?_
 ·simp only [binD] at e
  split at e
  ·rename_i hl
   cases e
   refine ⟨?_,_,rfl,rfl⟩
   simp only [Bool.and_eq_true,decide_eq_true_eq] at hl
   exact hl
  ·cases e
 ·cases a <;> cases b <;> first | exact ⟨⟨_,rfl⟩,_,rfl⟩ | simp [binD] at e
theorem om_eq (hu : X.A.units + 20 < cLine) : OpR X (compareOp .Eq) (r2 (cmpD .eq) true):=by
 intro pins s σ H x y v u Q I rx ry ⟨a,b,d,p,q,e,k⟩
 simp only [cmpD] at e
 split at e
 ·rename_i hl
  cases e
  rw [Bool.and_eq_true] at hl
  exact (rep_eq I eqdepth X.A (by have : eqdepth = 12:=rfl;lia) hl.1 hl.2 p q rx ry).1 X.prog X.w X.xe _ ⟨.bl _,H,I,rfl,k.bl⟩
 ·cases e
theorem om_ne (hu : X.A.units + 20 < cLine) : OpR X (compareOp .NotEq) (r2 (cmpD .ne) true):=by
 intro pins s σ H x y v u Q I rx ry ⟨a,b,d,p,q,e,k⟩
 simp only [cmpD] at e
 split at e
 ·rename_i hl
  cases e
  rw [Bool.and_eq_true] at hl
  exact (rep_eq I eqdepth X.A (by have : eqdepth = 12:=rfl;lia) hl.1 hl.2 p q rx ry).2.1 X.prog X.w X.xe _ ⟨.bl _,H,I,rfl,k.bl⟩
 ·cases e
theorem om_ord (o : Ordr) (hu : X.A.units + 20 < cLine) : OpR X (compareOp o.op) (r2 (cmpD (.ord o)) true):=by
 intro pins s σ H x y v u Q I rx ry ⟨a,b,d,p,q,e,k⟩
 simp only [cmpD] at e
 split at e
 ·rename_i hl
  rw [Bool.and_eq_true] at hl
  split at e
  ·rename_i m hm
   cases e
   have:=rep_ord I o eqdepth X.A (by have : eqdepth = 12:=rfl;lia) hl.1 hl.2 p q rx ry hm X.prog X.w X.xe _ (show EP X pins σ Q (.bool m) s from ⟨.bl _,H,I,rfl,k.bl⟩)
   cases o <;> exact this
  ·cases e
 ·cases e
theorem om_le (hu : X.A.units + 20 < cLine) : OpR X (compareOp .LtE) (r2 (cmpD (.ord .le)) true):=om_ord .le hu
theorem om_isN : OpR X (compareOp .Is) (r2 (cmpD .isN) true):=by
 intro pins s σ H x y v u Q I rx ry ⟨a,b,d,p,q,e,k⟩
 cases b <;> simp only [cmpD] at e <;> (try (cases e;done)) <;> (try (split at e <;> cases e;done))
 cases q
 refine op_isN pins s σ H x .non v u Q I rx ry ⟨rfl,?_⟩
 cases p <;> simp only [cmpD] at e <;> cases e <;> exact k.bl
end
end Mi
end
section
set_option maxRecDepth 100000
namespace Mi
open PySem L2 PySem.SeqAt PySem.Spec PyProof.Rows
variable [KFrag]
theorem kD_eq (k q : Key) : eqD (kD k) (kD q) = decide (k = q):=by
 cases k <;> cases q <;> simp [kD,eqD,Bool.beq_eq_decide_eq]
theorem kDs_eq : ∀ (k q : List Key),eqDs (k.map kD) (q.map kD) = decide (k = q)
 | [],[]=>by simp [eqDs]
 | [],_ :: _=>by simp [eqDs]
 | _ :: _,[]=>by simp [eqDs]
 | a :: k,b :: q=>by
  rw [List.map_cons,List.map_cons,eqDs,kD_eq,kDs_eq k q]
  by_cases h : a = b <;> by_cases h' : k = q <;> simp [h,h']
theorem kT_eq (k q : List Key) : eqD (.tup (k.map kD)) (.tup (q.map kD)) = decide (k = q):=by rw [eqD,kDs_eq]
theorem lookK {P : Addr->Prop} {H : Hp} {k : Key} : ∀ {kvs : List (Key × V)} {ds : List (D × D)},RepK P H kvs ds->(∃ v d,valV kvs k = some v/\lookD ds (kD k) = some d/\Rep P H v d)\/(valV kvs k = none/\lookD ds (kD k) = none)
 | _,_,.nil=>.inr ⟨rfl,rfl⟩
 | _,_,.cons (k:=k') r t=>by
  by_cases h : k' = k
  ·subst h
   exact .inl ⟨_,_,valV_pos rfl,by rw [lookD,kD_eq,if_pos (by simp)],r⟩
  ·rw [lookD,kD_eq,if_neg (by simpa using h),valV_neg (p:=(k',_)) h]
   exact lookK t
theorem lookT {P : Addr->Prop} {H : Hp} {k : List Key} : ∀ {kvs : List (List Key × V)} {ds : List (D × D)},RepT P H kvs ds->(∃ v d,valV kvs k = some v/\lookD ds (.tup (k.map kD)) = some d/\Rep P H v d)\/(valV kvs k = none/\lookD ds (.tup (k.map kD)) = none)
 | _,_,.nil=>.inr ⟨rfl,rfl⟩
 | _,_,.cons (k:=k') r t=>by
  by_cases h : k' = k
  ·subst h
   exact .inl ⟨_,_,valV_pos rfl,by rw [lookD,kT_eq,if_pos (by simp)],r⟩
  ·rw [lookD,kT_eq,if_neg (by simpa using h),valV_neg (p:=(k',_)) h]
   exact lookT t
theorem flat_key {H : Hp} {v : V} {d : D} (h : flatKey d = true) (r : Rep All H v d) : ∃ k,v = kV k/\d = kD k:=by
 cases r <;> simp [flatKey] at h
 ·exact ⟨.inl _,rfl,rfl⟩
 ·exact ⟨.inr _,rfl,rfl⟩
theorem flat_keys {H : Hp} : ∀ {vs : List V} {ds : List D},ds.all flatKey = true->Reps All H vs ds->∃ ks : List Key,vs = ks.map kV/\ds = ks.map kD
 | _,_,_,.nil=>⟨[],rfl,rfl⟩
 | _,_,h,.cons r t=>by
  rw [List.all_cons,Bool.and_eq_true] at h
  obtain ⟨k,rfl,rfl⟩:=flat_key h.1 r
  obtain ⟨ks,rfl,rfl⟩:=flat_keys h.2 t
  exact ⟨k :: ks,rfl,rfl⟩
theorem key_cases {H : Hp} {y : V} {k : D} (h : keyOk k = true) (r : Rep All H y k) : (∃ q,y = kV q/\k = kD q)\/∃ (b : Addr) (ks : List Key),y = .ref b/\H b = some (.tup (ks.map kV))/\k = .tup (ks.map kD):=by
 cases k <;> simp [keyOk] at h
 ·exact .inl (flat_key rfl r)
 ·exact .inl (flat_key rfl r)
 ·obtain ⟨a,xs,rfl,e,rr⟩:=r.tupAt
  obtain ⟨ks,rfl,rfl⟩:=flat_keys (List.all_eq_true.mpr h) rr
  exact .inr ⟨a,ks,rfl,e,rfl⟩
theorem isTup_kD (k : Key) : isTup (kD k) = false:=by cases k <;> rfl
section
variable {X : Cx} {pins : List (Addr × Obj)} {σ : L2.St} {H : Hp} {s : Shared} {a : Addr}
theorem upd_back {o o' : HO} (e : H a = some o) : upd (upd H a o') a o = H:=by
 rw [upd_upd]
 funext b
 by_cases h : b = a
 ·subst h;rw [upd_same,e]
 ·rw [upd_ne h]
theorem Inv_emptyT (I : Inv X pins σ H s) (e : H a = some (.dK [])) : Inv X pins σ (upd H a (.dT [])) s:=by
 obtain ⟨z,hd,vs,rel,o,es,ep,h1,h2,h3,h4,h5,h6⟩:=dk_of I.hok e
 cases rel
 refine I.write (t':=s.toks) (x:=a) (e:=a) (h':=s.heap) (by rw [e];trivial) (.inl rfl) (fun _ _ _ q=>q) ⟨o,h1⟩ ?_
 refine ⟨Nat.zero_le _,hd,[],.nil,o,es,ep,h1,h2,h3,?_,List.nodup_nil⟩
 cases h5' : es.toList with
 | nil=>rfl
 | cons _ _=>rw [h5'] at h5;cases h5
theorem Inv_emptyK (I : Inv X pins σ H s) (e : H a = some (.dT [])) : Inv X pins σ (upd H a (.dK [])) s:=by
 obtain ⟨z,hd,vs,rel,o,es,ep,h1,h2,h3,h4,h5,h6⟩:=dt_of I.hok e
 cases rel
 refine I.write (t':=s.toks) (x:=a) (e:=a) (h':=s.heap) (by rw [e];trivial) (.inl rfl) (fun _ _ _ q=>q) ⟨o,h1⟩ ?_
 have h0 : es.toList = []:=h4
 refine ⟨Nat.zero_le _,hd,[],.nil,o,es,ep,h1,h2,h3,?_,?_,List.nodup_nil⟩
 ·intro x hx
  have : x ∈ es.toList:=by simpa using hx
  rw [h0] at this
  cases this
 ·rw [h0];exact .nil
theorem all_kD {P : Addr->Prop} : ∀ {kvs : List (Key × V)} {ds : List (D × D)},RepK P H kvs ds->∀ p ∈ ds,isTup p.1 = false
 | _,_,.nil,_,h=>by cases h
 | _,_,.cons r t,p,h=>by
  rcases List.mem_cons.mp h with rfl | h
  ·exact isTup_kD _
  ·exact all_kD t p h
theorem all_kT {P : Addr->Prop} : ∀ {kvs : List (List Key × V)} {ds : List (D × D)},RepT P H kvs ds->∀ p ∈ ds,isTup p.1 = true
 | _,_,.nil,_,h=>by cases h
 | _,_,.cons r t,p,h=>by
  rcases List.mem_cons.mp h with rfl | h
  ·rfl
  ·exact all_kT t p h
theorem dgetD {x y : V} {ds : List (D × D)} {k : D} (I : Inv X pins σ H s) (rd : Rep All H x (.dct ds)) (rk : Rep All H y k) (hk : fitK ds k = true) :
  ∃ H1 a o,x = .ref a/\Inv X pins σ H1 s/\(∀ s',Inv X pins σ H1 s'->Inv X pins σ H s')/\DGet H1 a y o/\((o = none/\lookD ds k = none)\/∃ v d,o = some v/\lookD ds k = some d/\Rep All H v d):=by
 unfold fitK at hk
 rw [Bool.and_eq_true] at hk
 obtain ⟨h1,h2⟩:=hk
 cases rd with
 | @dK a kvs ds e _ r n=>
  rcases key_cases h1 rk with ⟨q,rfl,rfl⟩ | ⟨b,ks,rfl,eb,rfl⟩
  ·refine ⟨H,a,_,rfl,I,fun _ h=>h,.k e,?_⟩
   rcases lookK (k:=q) r with ⟨v,d,g1,g2,g3⟩ | ⟨g1,g2⟩
   ·exact .inr ⟨v,d,g1,g2,g3⟩
   ·exact .inl ⟨g1,g2⟩
  ·cases r with
   | nil=>
    have e2:=upd_back (o':=.dT []) e
    refine ⟨upd H a (.dT []),a,none,rfl,Inv_emptyT I e,fun s' I'=>?_,.t (k:=ks) upd_same (by rw [upd_ne (ne_of eb e (by intro z;cases z))];exact eb),.inl ⟨rfl,rfl⟩⟩
    have:=Inv_emptyK I' upd_same
    rwa [e2] at this
   | cons r t=>
    rw [List.all_cons,isTup_kD] at h2
    simp [isTup] at h2
 | @dT a kvs ds e _ r n=>
  rcases key_cases h1 rk with ⟨q,rfl,rfl⟩ | ⟨b,ks,rfl,eb,rfl⟩
  ·cases r with
   | nil=>
    have e2:=upd_back (o':=.dK []) e
    refine ⟨upd H a (.dK []),a,none,rfl,Inv_emptyK I e,fun s' I'=>?_,.k (k:=q) upd_same,.inl ⟨rfl,rfl⟩⟩
    have:=Inv_emptyT I' upd_same
    rwa [e2] at this
   | cons r t=>
    rw [List.all_cons,isTup_kD] at h2
    simp [isTup] at h2
  ·refine ⟨H,a,_,rfl,I,fun _ h=>h,.t e eb,?_⟩
   rcases lookT (k:=ks) r with ⟨v,d,g1,g2,g3⟩ | ⟨g1,g2⟩
   ·exact .inr ⟨v,d,g1,g2,g3⟩
   ·exact .inl ⟨g1,g2⟩
theorem look_fit {x : V} {ds : List (D × D)} {k d : D} (rd : Rep All H x (.dct ds)) (hk : keyOk k = true) (h : lookD ds k = some d) : fitK ds k = true:=by
 have one : ∀ {ds : List (D × D)},lookD ds k = some d->∃ p ∈ ds,eqD p.1 k = true:=by
  intro ds
  induction ds with
  | nil=>intro h;cases h
  | cons p ds ih=>
   intro h
   obtain ⟨p1,p2⟩:=p
   rw [lookD] at h
   by_cases hq : eqD p1 k = true
   ·exact ⟨_,List.mem_cons_self ..,hq⟩
   ·rw [if_neg hq] at h
    obtain ⟨p,hp,e⟩:=ih h
    exact ⟨p,List.mem_cons_of_mem _ hp,e⟩
 obtain ⟨p,hp,he⟩:=one h
 unfold fitK
 rw [hk,Bool.true_and,List.all_eq_true]
 intro q hq
 have same : isTup p.1 = isTup k:=by
  obtain ⟨p1,p2⟩:=p
  cases p1 <;> cases k <;> simp [eqD,keyOk,isTup] at he hk ⊢
 cases rd with
 | dK e _ r n=>rw [all_kD r q hq,<- same,all_kD r p hp];rfl
 | dT e _ r n=>rw [all_kT r q hq,<- same,all_kT r p hp];rfl
end
section
variable {X : Cx} {a b c e : Expr} {pos : Pos} {fa fb fc fe : FE} {ra rb rc re : Bool} {ga gb gc : FT}
noncomputable def datQ (H : Hp) (u : Value) : D:=by
 classical
 exact if h : ∃ d,d.eqok eqdepth = true/\∃ v,RelV v u/\Rep All H v d then Classical.choose h else .non
theorem datQ_eq {H : Hp} {u : Value} {v : V} {d : D} (hq : d.eqok eqdepth = true) (rv : RelV v u) (r : Rep All H v d) : datQ H u = d:=by
 unfold datQ
 have h : ∃ d,d.eqok eqdepth = true/\∃ v,RelV v u/\Rep All H v d:=⟨d,hq,v,rv,r⟩
 rw [dif_pos h]
 obtain ⟨h2,v',rv',r'⟩:=Classical.choose_spec h
 have:=rv'.inj rv
 subst this
 exact Rep.inj eqdepth h2 hq r' r
theorem any_dat {H : Hp} {a : D} : ∀ {xs : List V} {ds : List D} {its : List Value},D.eqoks eqdepth ds = true->Reps All H xs ds->Vals xs its->(its.any fun u=>eqD (datQ H u) a) = ds.any fun y=>eqD y a
 | _,_,_,_,.nil,.nil=>rfl
 | _,_,_,h,.cons r t,.cons v vt=>by
  rw [D.eqoks,Bool.and_eq_true] at h
  rw [List.any_cons,List.any_cons,datQ_eq h.1 v r,any_dat h.2 t vt]
theorem mem_dat {pins : List (Addr × Obj)} {σ : L2.St} {H : Hp} {s : Shared} (I : Inv X pins σ H s) (hu : X.A.units + 20 < cLine) {a : D} {x : V} {v : Value} (ha : a.eqok eqdepth = true) (rx : Rep All H x a) (rv : RelV x v)
  {xs : List V} {ds : List D} {its : List Value} (h : D.eqoks eqdepth ds = true) (r : Reps All H xs ds) (vr : Vals xs its) (u : Value) (hm : u ∈ its) : EqAt X.A.in1 s u v (eqD (datQ H u) a):=by
 obtain ⟨j,hj,e⟩:=List.getElem_of_mem hm
 have hj' : j < ds.length:=by rw [<- r.length,vr.length];exact hj
 obtain ⟨w,h1,h2⟩:=r.get (i:=j) (d:=ds[j]) (by simp [hj'])
 obtain ⟨u',h3,h4⟩:=vr.get h1
 rw [List.getElem?_eq_getElem hj,e] at h3
 cases h3
 have hd : ds[j].eqok eqdepth = true:=by
  have:=eqoks_get (j:=j) h hj'
  rwa [List.getD_eq_getElem?_getD,List.getElem?_eq_getElem hj'] at this
 rw [datQ_eq hd h4 h2]
 exact (rep_eq I eqdepth X.A.in1 (by show X.A.units + 1 + 12 < cLine;lia) hd ha h2 rx h4 rv).2.2
theorem om_notin (hu : X.A.units + 20 < cLine) : OpR X (compareOp .NotIn) (r2 (cmpD .notin) true):=by
 intro pins s σ H x y v u Q I rx ry ⟨a,b,d,p,q,e,k⟩
 cases b with
 | tup ys=>
  simp only [cmpD] at e
  split at e
  ·rename_i hl
   cases e
   rw [Bool.and_eq_true] at hl
   obtain ⟨l,xs,rfl,ee,rr⟩:=q.tupAt
   cases ry
   obtain ⟨its,vr,pl⟩:=fst_of I ee
   refine notIn_tupleAt (fun u=>eqD (datQ H u) a) pl (fun w hw=>mem_dat I hu hl.1 p rx hl.2 rr vr w (by simpa using hw)) ⟨.bl _,H,I,rfl,?_⟩
   rw [show its.toArray.any (fun u=>eqD (datQ H u) a) = its.any (fun u=>eqD (datQ H u) a) by simp,any_dat hl.2 rr vr]
   exact k.bl
  ·cases e
 | lst ys=>
  simp only [cmpD] at e
  split at e
  ·rename_i hl
   cases e
   rw [Bool.and_eq_true] at hl
   obtain ⟨l,xs,rfl,ee,rr⟩:=q.lstAt (K:=X.K)
   cases ry
   obtain ⟨its,vr,pl⟩:=lst_of I ee
   refine notIn_listAt (fun u=>eqD (datQ H u) a) pl (fun w hw=>mem_dat I hu hl.1 p rx hl.2 rr vr w (by simpa using hw)) ⟨.bl _,H,I,rfl,?_⟩
   rw [show its.toArray.any (fun u=>eqD (datQ H u) a) = its.any (fun u=>eqD (datQ H u) a) by simp,any_dat hl.2 rr vr]
   exact k.bl
  ·cases e
 | dct kvs=>
  simp only [cmpD] at e
  split at e
  ·rename_i hl
   cases e
   obtain ⟨H1,a1,o,rfl,I1,bk,g,hc⟩:=dgetD I q p hl
   cases ry
   refine d_notIn (by lia) I1 g rx fun s' I'=>⟨.bl _,H,bk s' I',rfl,?_⟩
   rcases hc with ⟨rfl,h2⟩ | ⟨w,dd,rfl,h2,_⟩
   ·rw [h2] at k;exact k.bl
   ·rw [h2] at k;exact k.bl
  ·cases e
 | _=>simp [cmpD] at e
theorem atI_of {α : Type} (xs : List α) (i : Int) : L2.atI xs i = (ixD xs.length i).bind fun j=>xs[j]?:=rfl
theorem Reps.atI {P : Addr->Prop} {H : Hp} {xs : List V} {ds : List D} {i : Int} {d : D} (r : Reps P H xs ds) (h : ((ixD ds.length i).bind fun j=>ds[j]?) = some d) : ∃ v,L2.atI xs i = some v/\Rep P H v d:=by
 rw [atI_of,r.length]
 cases hi : ixD ds.length i with
 | none=>rw [hi] at h;cases h
 | some j=>
  rw [hi] at h
  obtain ⟨v,h1,h2⟩:=r.get h
  exact ⟨v,h1,h2⟩
theorem tail_dict {X : Cx} {value slice : Expr} {pins : List (Addr × Obj)} {s : Shared} {σ : L2.St} {H : Hp} {a : Addr} {y v' : V} {u : Value} {Q : VK} (hu : X.A.units + 20 < cLine) (I : Inv X pins σ H s) (g : DGet H a y (some v')) (ry : RelV y u) {H' : Hp}
  (hs : subscripted slice false (.ref a) u = operate [.ref a,u] (getItem (.ref a) u)) (bk : ∀ s',Inv X pins σ H s'->Inv X pins σ H' s') (q : Q v' H') :
  wpAny (model X.prog X.w) X.A (subscriptTail value slice (.ref a) u) (EP X pins σ Q) X.xe s:=by
 have hT:=dict_typeIs I g
 unfold subscriptTail
 refine wpAny_bind ?_
 rw [getitemInPython_of_ne hT.not_modules]
 refine wpAny_bind (wpAny_specialOf hT PySem.F.slot_dict_getitem.lookup ?_)
 have fin : wpAny (model X.prog X.w) X.A (subscripted slice false (.ref a) u) (fun r s₃=>wpAny (model X.prog X.w) X.A (letTemporaryGo value (.ref a) r >>= fun _=>pure r) (EP X pins σ Q) X.xe s₃) X.xe s:=by
  rw [hs]
  exact wpAny_operating (d_getItem (by lia) I g ry fun w' s3 I3 rw'=>wpAny_bind (wpAny_letTemporaryGo (wpAny_pure ⟨v',H',bk s3 I3,rw',q⟩)))
 first
  | exact wpAny_pure (wpAny_bind fin)
  | exact wpAny_bind (wpAny_pure (wpAny_bind fin))
  | exact wpAny_bind fin
theorem look_tup {k d : D} : ∀ {ds : List (D × D)},keyOk k = true->lookD ds k = some d->∃ p ∈ ds,isTup p.1 = isTup k
 | [],_,h=>by cases h
 | (p1,p2) :: ds,hk,h=>by
  rw [lookD] at h
  by_cases hq : eqD p1 k = true
  ·refine ⟨_,List.mem_cons_self ..,?_⟩
   cases p1 <;> cases k <;> simp [eqD,keyOk,isTup] at hq hk ⊢
  ·rw [if_neg hq] at h
   obtain ⟨p,hp,e⟩:=look_tup hk h
   exact ⟨p,List.mem_cons_of_mem _ hp,e⟩
theorem dgetF {H : Hp} {x y : V} {ds : List (D × D)} {k d : D} (rd : Rep All H x (.fdc ds)) (rk : Rep All H y k) (hk : keyOk k = true) (h : lookD ds k = some d) : ∃ a v,x = .ref a/\DGet H a y (some v)/\Rep All H v d:=by
 obtain ⟨p,hp,et⟩:=look_tup hk h
 cases rd with
 | @fdK a o kvs ds e r n=>
  rcases key_cases hk rk with ⟨q,rfl,rfl⟩ | ⟨b,ks,rfl,eb,rfl⟩
  ·rcases lookK (k:=q) r with ⟨v,d',g1,g2,g3⟩ | ⟨g1,g2⟩
   ·rw [g2] at h
    cases h
    exact ⟨a,v,rfl,.inl ⟨kvs,q,.inr ⟨o,e⟩,rfl,g1.symm⟩,g3⟩
   ·rw [g2] at h;cases h
  ·rw [all_kD r p hp] at et
   cases et
 | @fdT a o kvs ds e r n=>
  rcases key_cases hk rk with ⟨q,rfl,rfl⟩ | ⟨b,ks,rfl,eb,rfl⟩
  ·rw [all_kT r p hp,isTup_kD] at et
   cases et
  ·rcases lookT (k:=ks) r with ⟨v,d',g1,g2,g3⟩ | ⟨g1,g2⟩
   ·rw [g2] at h
    cases h
    exact ⟨a,v,rfl,.inr ⟨kvs,ks,b,.inr ⟨o,e⟩,rfl,eb,g1.symm⟩,g3⟩
   ·rw [g2] at h;cases h
theorem om_ix (hK : KFrag.K = X.K) (hu : X.A.units + 20 < cLine) : IxR X (r2 getD false):=by
 intro value slice pins s σ H x y v u Q I rx ry ⟨a,b,d,p,q,e,k⟩ hs
 cases a with
 | tup ys=>
  cases b <;> simp only [getD] at e <;> (try (cases e;done))
  have e':=Res.ofOpt_ok e
  obtain ⟨l,xs,rfl,ee,rr⟩:=p.tupAt
  cases q
  obtain ⟨w,h1,h2⟩:=rr.atI e'
  exact ix_tup value slice pins s σ H _ _ v u Q I rx ry ⟨l,xs,_,w,rfl,rfl,.of ee,h1,k.self h2 fun z=>by cases z⟩ hs
 | lst ys=>
  cases b <;> simp only [getD] at e <;> (try (cases e;done))
  have e':=Res.ofOpt_ok e
  obtain ⟨l,xs,rfl,ee,rr⟩:=p.lstAt (K:=X.K)
  cases q
  obtain ⟨w,h1,h2⟩:=rr.atI e'
  exact ix_list value slice pins s σ H _ _ v u Q I rx ry ⟨l,xs,_,w,rfl,rfl,ee,h1,k.self h2 fun z=>by cases z⟩ hs
 | scr ys=>
  cases b <;> simp only [getD] at e <;> (try (cases e;done))
  have e':=Res.ofOpt_ok e
  cases p with
  | frz ee rr=>
   cases q
   obtain ⟨w,h1,h2⟩:=rr.atI e'
   exact ix_list value slice pins s σ H _ _ v u Q I rx ry ⟨_,_,_,w,rfl,rfl,ee.sq hK,h1,k.self h2 fun z=>by cases z⟩ hs
 | str z=>
  cases b <;> simp only [getD] at e <;> (try (cases e;done))
  split at e
  ·rename_i hl
   have e':=Res.ofOpt_ok e
   obtain ⟨cc,h1,h2⟩:=Option.map_eq_some_iff.mp e'
   subst h2
   cases p
   cases q
   exact ix_str value slice pins s σ H _ _ v u Q I rx ry ⟨z,_,cc,rfl,rfl,lim_line hl,h1,k.str⟩ hs
  ·cases e
 | dct kvs=>
  have e' : keyOk b = true/\lookD kvs b = some d:=by
   cases b <;> simp only [getD] at e <;> (split at e <;> first | (rename_i hl;exact ⟨hl,Res.ofOpt_ok e⟩) | cases e)
  obtain ⟨H1,a1,o,rfl,I1,bk,g,hc⟩:=dgetD I p q (look_fit p e'.1 e'.2)
  cases rx
  rcases hc with ⟨rfl,h2⟩ | ⟨w,dd,rfl,h2,h3⟩
  ·rw [h2] at e';cases e'.2
  ·rw [h2] at e'
   cases e'.2
   exact tail_dict hu I1 g ry hs bk (k.self h3 fun z=>by cases z)
 | fdc kvs=>
  have e' : keyOk b = true/\lookD kvs b = some d:=by
   cases b <;> simp only [getD] at e <;> (split at e <;> first | (rename_i hl;exact ⟨hl,Res.ofOpt_ok e⟩) | cases e)
  obtain ⟨a1,w,rfl,g,h3⟩:=dgetF p q e'.1 e'.2
  cases rx
  exact tail_dict hu I g ry hs (fun _ h=>h) (k.self h3 fun z=>by cases z)
 | _=>cases b <;> simp [getD] at e
noncomputable def gO (f : List D->Res (Option Int)) : TO:=fun σ H Q=>∃ ρ i,ER H σ ρ/\f ρ = .ok i/\∀ H',Same H H'->Q i H'
theorem PO.imp {X : Cx} {e : Option PySem.Expr} {t t' : TO} (h : PO X e t) (i : ∀ σ H Q,t' σ H Q->t σ H Q) : PO X e t':=fun pins s σ H Q I q=>h pins s σ H Q I (i σ H Q q)
theorem mo_none : PO X none (gO bNone):=PO.imp po_none fun σ H Q ⟨ρ,i,E,h,q⟩=>by cases h;exact q H (Same.refl H)
theorem mo_some (ha : PE X a (gE fa ra)) : PO X (some a) (gO (bSome fa)):=PO.imp (po_some ha) fun σ H Q ⟨ρ,i,E,h,q⟩=>by
 obtain ⟨x,h1,h⟩:=bindE h
 obtain ⟨j,h2,h⟩:=bindE h
 cases h
 have e:=asI_ok h2
 subst e
 exact ⟨ρ,_,E,h1,fun v H' s r _=>by cases r;exact ⟨j,rfl,q H' s⟩⟩
theorem sIx_eq (n d : Nat) (o : Option Int) : HT.sIx n d o = sIxD n d o:=by
 cases o with
 | none=>rfl
 | some v=>
  show (if v < 0 then (v + (n : Int)).toNat else min v.toNat n) = (if v < 0 then (max (v + (n : Int)) 0).toNat else (min v (n : Int)).toNat)
  split <;> lia
theorem Reps.cut {P : Addr->Prop} {H : Hp} {xs : List V} {ds : List D} (r : Reps P H xs ds) (lo hi : Option Int) : Reps P H (cutV xs lo hi) (cutD ds lo hi):=by
 unfold cutV cutD
 rw [r.length]
 simp only [sIx_eq]
 exact (r.drop _).take _
noncomputable def rSl : V->Option Int->Option Int->Hp->VK->Prop:=fun x lo hi H Q=>∃ a d,Rep All H x a/\slcD a lo hi = .ok d/\kR H d true Q
theorem om_sl (hK : KFrag.K = X.K) : SlR X rSl:=by
 intro pins s σ H x v vl vu lo hi sl Q I rx hs pl pu ⟨a,d,p,e,k⟩
 cases a <;> simp only [slcD] at e <;> (try (cases e;done))
 ·split at e
  ·cases e
  ·rename_i hw
   cases e
   obtain ⟨l,xs,rfl,ee,rr⟩:=p.tupAt
   refine sl_tup pins s σ H _ v vl vu lo hi sl Q I rx hs pl pu ⟨l,xs,rfl,.of ee,?_,fun p hp=>?_⟩
   ·simp only [sIx_eq,rr.length]
    simp only [Bool.not_eq_true',Bool.or_eq_true,not_or,Bool.not_eq_false',decide_eq_true_eq] at hw
    exact hw.2
   ·have sp : Same H (upd H p (.tup (cutV xs lo hi))):=Same.upd hp
    have hp2 : D.pures ‹List D› = true:=by
     simp only [Bool.or_eq_true,not_or,Bool.not_eq_true'] at hw
     simpa using hw.1
    exact k _ _ sp (.tup upd_same ((rr.cut lo hi).same sp)) fun z=>.tup upd_same (((rr.ofPure hp2).cut lo hi).same sp)
 ·split at e
  ·rename_i hl
   cases e
   obtain ⟨l,xs,rfl,ee,rr⟩:=p.lstAt (K:=X.K)
   refine sl_list pins s σ H _ v vl vu lo hi sl Q I rx hs pl pu ⟨l,xs,rfl,ee,fun p hp=>?_⟩
   have sp : Same H (upd H p (.lst (cutV xs lo hi))):=Same.upd hp
   exact k _ _ sp (.lst upd_same trivial ((rr.cut lo hi).same sp)) fun z=>.lst upd_same hp (((rr.ofPure hl).cut lo hi).same sp)
  ·cases e
 ·split at e
  ·rename_i hl
   cases e
   cases p with
   | @frz l xs ds ee rr=>
    refine sl_list pins s σ H _ v vl vu lo hi sl Q I rx hs pl pu ⟨l,xs,rfl,ee.sq hK,fun p hp=>?_⟩
    have sp : Same H (upd H p (.lst (cutV xs lo hi))):=Same.upd hp
    exact k _ _ sp (.lst upd_same trivial ((rr.cut lo hi).same sp)) fun z=>.lst upd_same hp (((rr.ofPure hl).cut lo hi).same sp)
  ·cases e
end
end Mi
end
section
set_option maxRecDepth 100000
namespace PySem.Mm
open PySem
section
variable {prog : Program} {w : World} {A : Around} {R : Result->Shared->Prop} {I S : Addr} {fp wr : List Addr} {n : Nat} {P : Nat->Value->Prop} {St : Nat->Heap->Prop} {bt : Nat->Nat->Bool} {Gd : Shared->Prop} {op : CmpOp}
end
section
variable {prog : Program} {w : World} {A : Around} {E : Value->Shared->Prop} {s : Shared} {Q : Value->Shared->Prop}
end
end PySem.Mm
end
section
set_option maxRecDepth 100000
namespace Mi
open PySem L2 PySem.SeqAt PySem.Spec PyProof.Rows
variable [KFrag]
section
variable {X : Cx} {pins : List (Addr × Obj)} {σ : L2.St} {H : Hp} {s : Shared}
end
section
variable {X : Cx}
end
end Mi
end
section
namespace PySem.Mm
open PySem PyProof.Rows PySem.W
end PySem.Mm
end
section
set_option maxRecDepth 100000
namespace Mi
open PySem L2 PySem.SeqAt PySem.Spec PyProof.Rows
variable [KFrag]
section
variable {X : Cx} {a b c e : Expr} {es : List Expr} {pos p : Pos} {fa fb fc fe : FE} {ra rb rc re : Bool} {fs : FA} {rr : Bool} {x : Str} {id T : String}
theorem one_of {P : Addr->Prop} {H : Hp} {xs : List V} {us : List Value} {d : D} (r : Reps P H xs [d]) (vr : Vals xs us) : ∃ v u,xs = [v]/\us = [u]/\Rep P H v d/\RelV v u:=by
 cases r with
 | cons r t=>
  cases t
  cases vr with
  | cons v vt=>
   cases vt
   exact ⟨_,_,rfl,rfl,r,v⟩
theorem call_imp {f : List D->Res D} {fr : Bool} {σ : L2.St} {H : Hp} {Q : VK} (h : gE (bCall f fs) fr σ H Q) : tCB (rs f fr) (gA fs rr) σ H Q:=by
 obtain ⟨ρ,d,E,h,q⟩:=h
 obtain ⟨ds,h1,h2⟩:=bindE h
 exact ⟨ρ,ds,E,h1,fun vs H1 s1 r1 _=>⟨ds,d,r1,h2,q.imp s1 id⟩⟩
theorem me_callB {f : List D->Res D} {fr : Bool} (hc : CallR X (.builtin id) (rs f fr)) (hg : Gl X x) (hm : X.mg x = none) (hv : bootBuiltins x = some (.builtin id)) (ha : PA X (e :: es) (gA fs rr)) (hn : x ≠ "__name__":=by decide) (hdb : (x == ("__debug__" : Str)) = false:=by decide)
  (he : starEach (e :: es) X.env = (false,eval e X.env) :: starEach es X.env:=by rfl) (hpl : (backTo pos (starEach es X.env)).any (·.1) = false:=by rfl) : PE X (.Call (.Name x p) (e :: es) [] pos) (gE (bCall f fs) fr):=
 PE.imp (pe_callB hc hg hm hv ha hn hdb he hpl) fun _ _ _=>call_imp
theorem me_callTy {f : List D->Res D} {fr : Bool} (hc : CallR X (.type T) (rs f fr)) (hg : Gl X x) (hm : X.mg x = none) (hv : bootBuiltins x = some (.type T)) (ha : PA X (e :: es) (gA fs rr)) (hn : x ≠ "__name__":=by decide) (hdb : (x == ("__debug__" : Str)) = false:=by decide)
  (he : starEach (e :: es) X.env = (false,eval e X.env) :: starEach es X.env:=by rfl) (hpl : (backTo pos (starEach es X.env)).any (·.1) = false:=by rfl) : PE X (.Call (.Name x p) (e :: es) [] pos) (gE (bCall f fs) fr):=
 PE.imp (pe_callTy hc hg hm hv ha hn hdb he hpl) fun _ _ _=>call_imp
theorem cl_len (hK : KFrag.K = X.K) : CallR X (.builtin "len") (rs lenD true):=by
 intro pins s σ H xs us Q I vr ⟨ds,d,r,e,k⟩
 unfold lenD at e
 split at e
 ·cases e
  obtain ⟨vv,uu,rfl,rfl,r,v⟩:=one_of r vr
  obtain ⟨l,ys,rfl,hl,rr⟩:=r.tupAt
  cases v
  exact call_len_seq pins s σ H [.ref l] [.ref l] Q I (.cons rfl .nil) ⟨l,ys,rfl,.inr (.of hl),by rw [rr.length];exact k.int⟩
 ·cases e
  obtain ⟨vv,uu,rfl,rfl,r,v⟩:=one_of r vr
  obtain ⟨l,ys,rfl,hl,rr⟩:=r.lstAt (K:=X.K)
  cases v
  exact call_len_seq pins s σ H [.ref l] [.ref l] Q I (.cons rfl .nil) ⟨l,ys,rfl,.inl hl,by rw [rr.length];exact k.int⟩
 ·cases e
  obtain ⟨vv,uu,rfl,rfl,r,v⟩:=one_of r vr
  cases r with
  | @frz l xs ds ee rr=>
   cases v
   exact call_len_seq pins s σ H [.ref l] [.ref l] Q I (.cons rfl .nil) ⟨l,xs,rfl,.inl (ee.sq hK),by rw [rr.length];exact k.int⟩
 ·split at e
  ·rename_i hl
   cases e
   obtain ⟨vv,uu,rfl,rfl,r,v⟩:=one_of r vr
   cases r
   exact call_len_str pins s σ H _ _ Q I (.cons v .nil) ⟨_,rfl,lim_line hl,k.int⟩
  ·cases e
 ·cases e
theorem cl_tuple : CallR X (.type "tuple") (rs tupleD false):=by
 intro pins s σ H xs us Q I vr ⟨ds,d,r,e,k⟩
 unfold tupleD at e
 split at e
 ·cases e
  obtain ⟨vv,uu,rfl,rfl,r,v⟩:=one_of r vr
  obtain ⟨l,ys,rfl,hl',rr⟩:=r.tupAt
  cases v
  exact call_tuple_of pins s σ H [.ref l] [.ref l] Q I (.cons rfl .nil) ⟨l,ys,rfl,.inr ⟨.of hl',k.self (.tup hl' rr) fun z=>by cases z⟩⟩
 ·cases e
  obtain ⟨vv,uu,rfl,rfl,r,v⟩:=one_of r vr
  obtain ⟨l,ys,rfl,hl',rr⟩:=r.lstAt (K:=X.K)
  cases v
  refine call_tuple_of pins s σ H [.ref l] [.ref l] Q I (.cons rfl .nil) ⟨l,ys,rfl,.inl ⟨hl',fun p hp=>?_⟩⟩
  have sp : Same H (upd H p (.tup ys)):=Same.upd hp
  exact k _ _ sp (.tup upd_same (rr.same sp)) fun z=>by cases z
 ·cases e
theorem isi {pins : List (Addr × Obj)} {s : Shared} {σ : L2.St} {H : Hp} {v : V} {u : Value} {d : D} {t : Ty} {k : Bool} (I : Inv X pins σ H s) (r : Rep All H v d) (ru : RelV v u) (h : isTy t d = .ok k) {Q : Value->Shared->Prop}
  (q : ∀ tk,Q (.bool k) { s with toks:=tk }) : wpAny (model X.prog X.w) X.A (call (.builtin "isinstance") [u,.type t.nm]) Q X.xe s:=by
 have q0 : Q (.bool k) s:=q s.toks
 cases r with
 | non=>cases ru;cases t <;> simp only [isTy] at h <;> cases h <;> first | exact IsiPair.NoneType_int (q _) | exact IsiPair.NoneType_str (q _) | exact IsiPair.NoneType_bool (q _) | exact IsiPair.NoneType_list (q _) | exact IsiPair.NoneType_tuple (q _) | exact IsiPair.NoneType_dict (q _)
 | bl b=>cases ru;cases t <;> simp only [isTy] at h <;> cases h <;> first | exact IsiPair.bool_int q0 | exact IsiPair.bool_str (q _) | exact IsiPair.bool_bool q0 | exact IsiPair.bool_list (q _) | exact IsiPair.bool_tuple (q _) | exact IsiPair.bool_dict (q _)
 | int b=>obtain ⟨tt,rfl⟩:=ru;cases t <;> simp only [isTy] at h <;> cases h <;> first | exact IsiPair.int_int q0 | exact IsiPair.int_str (q _) | exact IsiPair.int_bool (q _) | exact IsiPair.int_list (q _) | exact IsiPair.int_tuple (q _) | exact IsiPair.int_dict (q _)
 | str b=>obtain ⟨tt,rfl⟩:=ru;cases t <;> simp only [isTy] at h <;> cases h <;> first | exact IsiPair.str_int (q _) | exact IsiPair.str_str q0 | exact IsiPair.str_bool (q _) | exact IsiPair.str_list (q _) | exact IsiPair.str_tuple (q _) | exact IsiPair.str_dict (q _)
 | tup e rr=>
  cases ru
  obtain ⟨its,vr,o,ho,hc,_⟩:=fst_of I e
  cases t <;> simp only [isTy] at h <;> cases h <;> first | exact IsiPair.tuple_int ho hc (q _) | exact IsiPair.tuple_str ho hc (q _) | exact IsiPair.tuple_bool ho hc (q _) | exact IsiPair.tuple_list ho hc (q _) | exact IsiPair.tuple_tuple ho hc q0 | exact IsiPair.tuple_dict ho hc (q _)
 | lst e p rr=>
  cases ru
  obtain ⟨its,vr,o,ho,hc,_⟩:=lst_of I (.of e)
  cases t <;> simp only [isTy] at h <;> cases h <;> first | exact IsiPair.list_int ho hc (q _) | exact IsiPair.list_str ho hc (q _) | exact IsiPair.list_bool ho hc (q _) | exact IsiPair.list_list ho hc q0 | exact IsiPair.list_tuple ho hc (q _) | exact IsiPair.list_dict ho hc (q _)
 | frz e rr=>cases t <;> cases h
 | fdK e rr n=>cases t <;> cases h
 | fdT e rr n=>cases t <;> cases h
 | dK e p rr n=>
  cases ru
  obtain ⟨_,_,_,_,o,_,_,ho,hx,_⟩:=dk_of I.hok e
  have hc:=hx.1
  cases t <;> simp only [isTy] at h <;> cases h <;> first | exact IsiPair.dict_int ho hc (q _) | exact IsiPair.dict_str ho hc (q _) | exact IsiPair.dict_bool ho hc (q _) | exact IsiPair.dict_list ho hc (q _) | exact IsiPair.dict_tuple ho hc (q _) | exact IsiPair.dict_dict ho hc q0
 | dT e p rr n=>
  cases ru
  obtain ⟨_,_,_,_,o,_,_,ho,hx,_⟩:=dt_of I.hok e
  have hc:=hx.1
  cases t <;> simp only [isTy] at h <;> cases h <;> first | exact IsiPair.dict_int ho hc (q _) | exact IsiPair.dict_str ho hc (q _) | exact IsiPair.dict_bool ho hc (q _) | exact IsiPair.dict_list ho hc (q _) | exact IsiPair.dict_tuple ho hc (q _) | exact IsiPair.dict_dict ho hc q0
noncomputable def rIsi (t : Ty) : List V->Hp->VK->Prop:=fun xs H Q=>∃ v d k,xs = [v,.ty t.nm]/\Rep All H v d/\isTy t d = .ok k/\Q (.bl k) H
theorem cl_isi (t : Ty) : CallR X (.builtin "isinstance") (rIsi t):=by
 intro pins s σ H xs us Q I vr ⟨v,d,k,e,r,h,q⟩
 subst e
 cases vr with
 | cons rv vt=>
  cases vt with
  | cons rt vt=>
   cases vt
   cases rt
   exact isi I r rv h fun tk=>⟨.bl k,H,I.tok tk,rfl,q⟩
theorem me_isi (t : Ty) {y : Str} {p2 : Pos} (ha : PE X a (gE fa ra)) (hg : Gl X "isinstance") (hm : X.mg "isinstance" = none) (hv : bootBuiltins "isinstance" = some (.builtin "isinstance")) (gy : Gl X y) (my : X.mg y = none) (vy : bootBuiltins y = some (.type t.nm))
  (hy : y ≠ "__name__":=by decide) (hyd : (y == ("__debug__" : Str)) = false:=by decide)
  (he : starEach [a,.Name y p2] X.env = (false,eval a X.env) :: starEach [.Name y p2] X.env:=by rfl) (he2 : starEach [.Name y p2] X.env = (false,eval (.Name y p2) X.env) :: starEach [] X.env:=by rfl)
  (hpl : (backTo pos (starEach [.Name y p2] X.env)).any (·.1) = false:=by rfl) : PE X (.Call (.Name "isinstance" p) [a,.Name y p2] [] pos) (gE (b1 (isTyD t) fa) true):=
 PE.imp (pe_callB (cl_isi t) hg hm hv (pa_cons ha (pa_cons (pe_bltn gy my vy (v:=.ty t.nm) rfl hy hyd) pa_nil he2) he) (by decide) (by decide) he hpl) fun σ H Q ⟨ρ,d,E,h,q⟩=>by
  obtain ⟨x,h1,h⟩:=bindE h
  obtain ⟨k,h2,h⟩:=bindE h
  cases h
  exact ⟨ρ,x,E,h1,fun v H1 s1 r1 _=>⟨v,x,k,rfl,r1,h2,(q.imp s1 id).bl⟩⟩
theorem me_bm {o : Expr} {fo : FE} {ro fr : Bool} {name : Str} {apos cpos : Pos} {f : D->List D->Res D} (pa : PlainAttrs T) (slot : Slot T name id) (hty : typeOf (.builtin id) = pure (.type "method_descriptor")) (hm : MtR X id (rm f fr)) (ho : PE X o (gE fo ro)) (ha : PA X (e :: es) (gA fs rr))
  (hT : ∀ (d : D) (ds : List D) (r : D) (v : V) (H : Hp),f d ds = .ok r->Rep All H v d->tyV X.K T v H)
  (hbase : attributeBase o name X.env (eval o X.env) = eval o X.env:=by rfl)
  (hfew : ((backTo cpos (starEach (e :: es) X.env)).all (fun x=>!x.1) && (backToKw cpos (keywordEach [] X.env)).all (fun x=>x.1.isSome)
   && decide ((e :: es).length + ([] : List Keyword).length + (if ([] : List Keyword).isEmpty then 0 else 1) < 30)) = true:=by rfl)
  (hline : (apos.endLine == cpos.line) = true:=by rfl) (hs : starEach (e :: es) X.env = (false,eval e X.env) :: starEach es X.env:=by rfl) (hplain : (backTo cpos (starEach es X.env)).any (·.1) = false:=by rfl) :
  PE X (.Call (.Attribute o name apos) (e :: es) [] cpos) (gE (bM f fo fs) fr):=
 PE.imp (pe_bm pa slot hty hm ho ha hbase hfew hline hs hplain) fun σ H Q ⟨ρ,d,E,h,q⟩=>by
  obtain ⟨x,h1,h⟩:=bindE h
  obtain ⟨ds,h2,h⟩:=bindE h
  exact ⟨ρ,x,E,h1,fun v H1 s1 r1 _=>⟨hT x ds d v H1 h r1,ρ,ds,E.same s1,h2,fun vs H2 s2 r2 _=>⟨x,ds,d,r1.same s2,r2,h,q.imp (s1.trans s2) fun z=>z⟩⟩⟩
noncomputable def spD (f : List D->Res D) (n : Nat) : Sp:=fun vs H Q _=>∃ ds d,ds.length = n/\Reps All H vs ds/\f ds = .ok d/\kR H d true Q
theorem spD_len {f : List D->Res D} {n : Nat} {vs : List V} {H : Hp} {Q : VK} {E : XK} (h : spD f n vs H Q E) : vs.length = n:=by
 obtain ⟨ds,d,h1,r,_⟩:=h
 rw [r.length,h1]
theorem me_call {k : Nat} {fad : Addr} {fd : FuncData} {ps : List Str} {f : List D->Res D} {n : Nat} (F : FnOk X.prog X.w X.K X.mg X.base CX0 k fad fd ps (spD f n)) (hr : Room k X.A) (hg : Gl X x) (hm : X.mg x = some (.ref fad)) (hk : PySem.W.keepIn X.K (.ref fad) = true) (hb : Binds X.K fd ps [])
  (ha : PA X (e :: es) (gA fs rr)) (hdb : (x == ("__debug__" : Str)) = false:=by decide) (he : starEach (e :: es) X.env = (false,eval e X.env) :: starEach es X.env:=by rfl) (hpl : (backTo pos (starEach es X.env)).any (·.1) = false:=by rfl) :
  PE X (.Call (.Name x p) (e :: es) [] pos) (gE (bCall (argN n f) fs) true):=
 PE.imp (pe_call F hr hg hm hk hb .nil pass0 ha hdb he hpl) fun σ H Q ⟨ρ,d,E,h,q⟩=>by
  obtain ⟨ds,h1,h⟩:=bindE h
  unfold argN at h
  split at h
  ·rename_i hl
   exact ⟨ρ,ds,E,h1,fun vs H1 s1 r1 _=>⟨ds,d,of_decide_eq_true hl,by rw [List.append_nil];exact r1,h,q.imp s1 id⟩⟩
  ·cases h
end
end Mi
end
section
set_option maxRecDepth 100000
namespace Mi
open PySem L2 PySem.SeqAt PySem.Spec PyProof.Rows
noncomputable def charsD (x : Str) : List D:=x.cps.toList.map fun c=>D.str ⟨#[c]⟩
noncomputable def enumL (xs : List D) : List D:=xs.zipIdx.map fun p=>.tup [.int p.2,p.1]
noncomputable def zipL (xs ys : List D) : List D:=(xs.zip ys).map fun p=>.tup [p.1,p.2]
noncomputable def enumF (m : Nat) (xs : List D) : List D:=xs.zipIdx.map fun p=>.tup [.int ((m + p.2 : Nat) : Int),p.1]
variable [KFrag]
noncomputable def Itss (x : Str) : It:=⟨fun i _=>i < x.cps.size,fun i H v H'=>H' = H/\∃ c,x.cps[i]? = some c/\v = .str ⟨#[c]⟩,fun i _=>x.cps.size<=i⟩
noncomputable def Ite (K : PySem.W.Frag) (a : Addr) : It:=
 ⟨fun i H=>∃ xs x,SqL K H a xs/\xs[i]? = some x,fun i H v H'=>∃ t x,(∀ xs,SqL K H a xs->xs[i]? = some x)/\v = .ref t/\H t = none/\H' = upd H t (.tup [.int i,x]),fun i H=>∃ xs,SqL K H a xs/\xs.length<=i⟩
noncomputable def IteF (K : PySem.W.Frag) (m : Nat) (a : Addr) : It:=
 ⟨fun i H=>∃ xs x,SqL K H a xs/\xs[i]? = some x,fun i H v H'=>∃ t x,(∀ xs,SqL K H a xs->xs[i]? = some x)/\v = .ref t/\H t = none/\H' = upd H t (.tup [.int ((m + i : Nat) : Int),x]),fun i H=>∃ xs,SqL K H a xs/\xs.length<=i⟩
noncomputable def Itz (a b : Addr) : It :=
  ⟨fun i H => ∃ xs ys x y, H a = some (.tup xs) /\ H b = some (.tup ys) /\ xs[i]? = some x /\ ys[i]? = some y, fun i H v H' => ∃ t x y, (∀ xs, H a = some (.tup xs) -> xs[i]? = some x) /\ (∀ ys, H b = some (.tup ys) -> ys[i]? = some y) /\ v = .ref t /\ H t = none /\ H' = upd H t (.tup [x, y]),
   fun i H => ∃ xs ys, H a = some (.tup xs) /\ H b = some (.tup ys) /\ ys.length = xs.length /\ xs.length <= i⟩
theorem enumF_at {m : Nat} {xs : List D} {i : Nat} : (enumF m xs)[i]? = (xs[i]?).map fun d=>.tup [.int ((m + i : Nat) : Int),d]:=by
 unfold enumF
 rw [List.getElem?_map,List.getElem?_zipIdx,Nat.zero_add]
 cases xs[i]? <;> rfl
theorem enumL_at {xs : List D} {i : Nat} : (enumL xs)[i]? = (xs[i]?).map fun d=>.tup [.int i,d]:=by
 unfold enumL
 rw [List.getElem?_map,List.getElem?_zipIdx,Nat.zero_add]
 cases xs[i]? <;> rfl
theorem enumL_len (xs : List D) : (enumL xs).length = xs.length:=by simp [enumL]
inductive ItQ (K : PySem.W.Frag) (P : Addr->Prop) (J : It) (H : Hp) (items : List D) : Prop
 | lst (a : Addr) (e : J = Itl K a) (r : Rep P H (.ref a) (.lst items))
 | tup (a : Addr) (e : J = Itt K a) (r : Rep P H (.ref a) (.tup items))
 | rng (lo : Int) (n : Nat) (e : J = Itr lo n) (r : items = (List.range n).map fun (k : Nat)=>D.int (lo + k))
 | chs (x : Str) (e : J = Itss x) (r : items = charsD x)
 | enm (a : Addr) (ds : List D) (e : J = Ite K a) (r : Rep P H (.ref a) (.lst ds)) (h : items = enumL ds)
 | enf (m : Nat) (a : Addr) (ds : List D) (e : J = IteF K m a) (r : Rep P H (.ref a) (.lst ds)) (h : items = enumF m ds)
 | zip (a b : Addr) (ds es : List D) (e : J = Itz a b) (r : Rep P H (.ref a) (.tup ds)) (q : Rep P H (.ref b) (.tup es)) (n : es.length = ds.length) (h : items = zipL ds es)
theorem ItQ.keep {K : PySem.W.Frag} {P P' : Addr->Prop} {J : It} {H H' : Hp} {items : List D} (h : ItQ K P J H items) (k : Keep P H H') (m : ∀ a,P a->P' a) : ItQ K P' J H' items:=by
 cases h with
 | lst a e r=>exact .lst a e (r.keep k m)
 | tup a e r=>exact .tup a e (r.keep k m)
 | rng lo n e r=>exact .rng lo n e r
 | chs x e r=>exact .chs x e r
 | enm a ds e r h=>exact .enm a ds e (r.keep k m) h
 | enf m' a ds e r h=>exact .enf m' a ds e (r.keep k m) h
 | zip a b ds es e r q n h=>exact .zip a b ds es e (r.keep k m) (q.keep k m) n h
theorem ItQ.stop {K : PySem.W.Frag} {P : Addr->Prop} {J : It} {H : Hp} {items : List D} {i : Nat} (h : ItQ K P J H items) (hi : items.length<=i) : J.stop i H:=by
 cases h with
 | lst a e r=>
  subst e
  obtain ⟨a',xs,e,hq,rr⟩:=r.lstAt (K:=K)
  cases e
  exact ⟨xs,hq,by rw [rr.length];exact hi⟩
 | tup a e r=>
  subst e
  obtain ⟨a',xs,e,hq,rr⟩:=r.tupAt
  cases e
  exact ⟨xs,.of hq,by rw [rr.length];exact hi⟩
 | rng lo n e r=>
  subst e r
  show n<=i
  simpa using hi
 | chs x e r=>
  subst e r
  show x.cps.size<=i
  simpa [charsD] using hi
 | enm a ds e r h=>
  subst e h
  obtain ⟨a',xs,e,hq,rr⟩:=r.lstAt (K:=K)
  cases e
  exact ⟨xs,hq,by rw [rr.length,<- enumL_len];exact hi⟩
 | enf m a ds e r h=>
  subst e h
  obtain ⟨a',xs,e,hq,rr⟩:=r.lstAt (K:=K)
  cases e
  exact ⟨xs,hq,by rw [rr.length];simpa [enumF] using hi⟩
 | zip a b ds es e r q n h=>
  subst e h
  obtain ⟨a',xs,e,hq,rr⟩:=r.tupAt
  cases e
  obtain ⟨b',ys,e,hq2,rr2⟩:=q.tupAt
  cases e
  have : (zipL ds es).length = ds.length:=by simp [zipL,n]
  exact ⟨xs,ys,hq,hq2,by rw [rr.length,rr2.length];exact n,by rw [rr.length];lia⟩
theorem ItQ.go {K : PySem.W.Frag} {P : Addr->Prop} {J : It} {H : Hp} {items : List D} {i : Nat} {d : D} (h : ItQ K P J H items) (hi : items[i]? = some d) : J.go i H/\∀ x H',J.yld i H x H'->Same H H'/\Rep P H' x d:=by
 cases h with
 | lst a e r=>
  subst e
  obtain ⟨a',xs,e,hq,rr⟩:=r.lstAt (K:=K)
  cases e
  obtain ⟨v,h1,h2⟩:=rr.get hi
  refine ⟨⟨xs,v,hq,h1⟩,fun x H' ⟨e,hy⟩=>?_⟩
  subst e
  refine ⟨Same.refl _,?_⟩
  have:=hy xs hq
  rw [h1] at this
  cases this
  exact h2
 | tup a e r=>
  subst e
  obtain ⟨a',xs,e,hq,rr⟩:=r.tupAt
  cases e
  obtain ⟨v,h1,h2⟩:=rr.get hi
  refine ⟨⟨xs,v,.of hq,h1⟩,fun x H' ⟨e,hy⟩=>?_⟩
  subst e
  refine ⟨Same.refl _,?_⟩
  have:=hy xs (.of hq)
  rw [h1] at this
  cases this
  exact h2
 | rng lo n e r=>
  subst e r
  have hlt : i < n:=by
   have:=(List.getElem?_eq_some_iff.mp hi).1
   simpa using this
  refine ⟨hlt,fun x H' ⟨e,hy⟩=>?_⟩
  subst e
  have e2 : D.int (lo + (i : Int)) = d:=by simpa [hlt] using hi
  rw [hy,<- e2]
  exact ⟨Same.refl _,.int _⟩
 | chs z e r=>
  subst e r
  have hlt : i < z.cps.size:=by
   have:=(List.getElem?_eq_some_iff.mp hi).1
   simpa [charsD] using this
  refine ⟨hlt,fun x H' ⟨e,c,hc,hv⟩=>?_⟩
  subst e hv
  refine ⟨Same.refl _,?_⟩
  have e2 : D.str ⟨#[c]⟩ = d:=by
   unfold charsD at hi
   rw [List.getElem?_map,Array.getElem?_toList,hc] at hi
   simpa using hi
  rw [<- e2]
  exact .str _
 | enm a ds e r h=>
  subst e h
  obtain ⟨a',xs,e,hq,rr⟩:=r.lstAt (K:=K)
  cases e
  rw [enumL_at] at hi
  cases hd : ds[i]? with
  | none=>rw [hd] at hi;cases hi
  | some y=>
   rw [hd] at hi
   cases hi
   obtain ⟨v,h1,h2⟩:=rr.get hd
   refine ⟨⟨xs,v,hq,h1⟩,fun x H' ⟨t,u,hy,e1,e2,e3⟩=>?_⟩
   subst e1 e3
   have:=hy xs hq
   rw [h1] at this
   cases this
   have sp : Same H (upd H t (.tup [.int i,v])):=Same.upd e2
   exact ⟨sp,.tup upd_same (.cons (.int _) (.cons (h2.same sp) .nil))⟩
 | enf m a ds e r h=>
  subst e h
  obtain ⟨a',xs,e,hq,rr⟩:=r.lstAt (K:=K)
  cases e
  rw [enumF_at] at hi
  obtain ⟨y,hd,rfl⟩:=Option.map_eq_some_iff.mp hi
  obtain ⟨v,h1,h2⟩:=rr.get hd
  refine ⟨⟨xs,v,hq,h1⟩,fun x H' ⟨t,u,hy,e1,e2,e3⟩=>?_⟩
  subst e1 e3
  have:=hy xs hq
  rw [h1] at this
  cases this
  have sp : Same H (upd H t (.tup [.int ((m + i : Nat) : Int),v])):=Same.upd e2
  exact ⟨sp,.tup upd_same (.cons (.int _) (.cons (h2.same sp) .nil))⟩
 | zip a b ds es e r q n h=>
  subst e h
  obtain ⟨a',xs,e,hq,rr⟩:=r.tupAt
  cases e
  obtain ⟨b',ys,e,hq2,rr2⟩:=q.tupAt
  cases e
  unfold zipL at hi
  rw [List.getElem?_map] at hi
  obtain ⟨⟨x,y⟩,hd,rfl⟩:=Option.map_eq_some_iff.mp hi
  rw [List.getElem?_zip_eq_some] at hd
  obtain ⟨v,h1,h2⟩:=rr.get hd.1
  obtain ⟨v',h3,h4⟩:=rr2.get hd.2
  refine ⟨⟨xs,ys,v,v',hq,hq2,h1,h3⟩,fun x H' ⟨t,u,u',hy,hy',e1,e2,e3⟩=>?_⟩
  subst e1 e3
  have z:=hy xs hq
  rw [h1] at z
  cases z
  have z:=hy' ys hq2
  rw [h3] at z
  cases z
  have sp : Same H (upd H t (.tup [v,v'])):=Same.upd e2
  exact ⟨sp,.tup upd_same (.cons (h2.same sp) (.cons (h4.same sp) .nil))⟩
noncomputable def gI (K : PySem.W.Frag) (f : FI) : TI:=fun σ H R=>∃ ρ items k,ER H σ ρ/\f ρ = .ok (items,k)/\∀ J H1,Same H H1->ItQ K All J H1 items->(k = true->ItQ K (New H) J H1 items)->R J H1
noncomputable def gIV (K : PySem.W.Frag) (i : Nat) : TI:=fun σ H R=>∃ v d items,σ[i]? = some (some v)/\Rep All H v d/\itemsD d = .ok items/\∀ J,(∀ P : Addr->Prop,Rep P H v d->ItQ K P J H items)->R J H
section
variable {X : Cx} {tg l a b : Expr} {fl fa : FE} {rl ra rr : Bool} {fs : FA} {p pos : Pos}
theorem iter_rep {pins : List (Addr × Obj)} {s1 : Shared} {σ : L2.St} {H1 : Hp} {R : It->Hp->Prop} {v : V} {u : Value} {d : D} {items : List D} (I1 : Inv X pins σ H1 s1) (r : Rep All H1 v d) (ru : RelV v u) (hi : itemsD d = .ok items)
  (q : ∀ J,(∀ P : Addr->Prop,Rep P H1 v d->ItQ X.K P J H1 items)->R J H1) : wpAny (model X.prog X.w) X.A (pyIter u) (PIE X pins σ tg R) X.xe s1:=by
 cases d <;> simp only [itemsD] at hi <;> cases hi
 ·obtain ⟨a,xs,rfl,e,rr⟩:=r.tupAt
  cases ru
  obtain ⟨its,rv,p,hz⟩:=I1.tuple (.of e)
  refine wpAny_pyIter_tuple (show s1.heap.IsTuple a its.toArray from p) ?_
  refine ⟨s1.heap.objs.size,[s1.heap.objs.size],_,_,H1,rfl,I1.kept (t':=s1.toks) fun b o e=>Heap.get?_push_of_some _ e,turn_tuple a _,⟨_,Heap.get?_push_size _ rfl,rfl,rfl⟩,fun b hb=>?_,q _ fun P r=>.tup a rfl r⟩
  have e : b = s1.heap.objs.size:=by simpa using hb
  subst e
  exact I1.fpOk (Nat.le_refl _) (I1.hok.fresh (Nat.le_refl _))
 ·obtain ⟨a,xs,rfl,e,rr⟩:=r.lstAt (K:=X.K)
  cases ru
  obtain ⟨its,rv,p,hz⟩:=I1.list e
  refine wpAny_pyIter_list p.isList ?_
  refine ⟨s1.heap.objs.size,[s1.heap.objs.size],_,_,H1,rfl,I1.kept (t':=s1.toks) fun b o e=>Heap.get?_push_of_some _ e,turn_list a _,⟨_,Heap.get?_push_size _ rfl,rfl,rfl⟩,fun b hb=>?_,q _ fun P r=>.lst a rfl r⟩
  have e : b = s1.heap.objs.size:=by simpa using hb
  subst e
  exact I1.fpOk (Nat.le_refl _) (I1.hok.fresh (Nat.le_refl _))
theorem mi_var {i : Nat} {x : Str} (hN : X.N[i]? = some x) (hv : Vis X.env.scope x) (hd : (x == ("__debug__" : Str)) = false:=by decide) (hcd : (x == ("__classdict__" : Str)) = false:=by decide) : PI X tg (.Name x pos) (gIV X.K i):=by
 intro pins s σ H R I ⟨v,d,items,hσ,r,hi,q⟩
 exact thn (pe_var hN hv hd hcd pins s σ H (fun w H1=>w = v/\H1 = H) I ⟨v,hσ,rfl,rfl⟩) fun u s1 ⟨w,H1,I1,ru,e1,e2⟩=>by
  subst e1 e2
  exact iter_rep I1 r ru hi q
theorem bound62_ok {i : Int} (h : bound62 i = true) : -(2 ^ 62)<=i/\i < 2 ^ 62:=by
 simp only [bound62,Bool.and_eq_true,decide_eq_true_eq] at h
 exact h
theorem PI.imp {w w' : TI} (h : PI X tg l w) (i : ∀ σ H R,w' σ H R->w σ H R) : PI X tg l w':=fun pins s σ H R I q=>h pins s σ H R I (i σ H R q)
theorem mi_rng1 (hg : Gl X "range") (hm : X.mg "range" = none) (ha : PA X [a] (gA fs rr)) (hs : starEach [a] X.env = [(false,eval a X.env)]:=by rfl) : PI X tg (.Call (.Name "range" p) [a] [] pos) (gI X.K (bThen fs rng1D)):=
 PI.imp (pi_range1 hg hm ha hs) fun σ H R ⟨ρ,items,k,E,h,q⟩=>by
  obtain ⟨xs,h1,h⟩:=bindE h
  unfold rng1D at h
  split at h
  ·split at h
   ·rename_i hb
    cases h
    obtain ⟨b1,b2⟩:=bound62_ok hb
    refine ⟨ρ,_,E,h1,fun vs H1 s1 r1 _=>?_⟩
    cases r1 with
    | cons r t=>
     cases t
     cases r
     exact ⟨_,rfl,b1,b2,q _ H1 s1 (.rng 0 _ rfl rfl) fun _=>.rng 0 _ rfl rfl⟩
   ·cases h
  ·cases h
end
theorem padD_get (n : Nat) (ρ bs : List D) (i : Nat) (h : i < n) : (padD n ρ ++ bs).getD i .undef = ρ.getD i .undef:=by
 rw [List.getD_eq_getElem?_getD,List.getElem?_append_left (by simp [padD];exact h)]
 simp [padD,h]
theorem padD_len (n : Nat) (ρ : List D) : (padD n ρ).length = n:=by simp [padD]
noncomputable def TgC (g : TG) (t : D->Res (List D)) (n m : Nat) : Prop:=∀ (v : V) (d : D) (bs : List D) (σ : L2.St) (H : Hp) (Q : L2.St->Hp->Prop),σ.length = n->Rep All H v d->t d = .ok bs->
 (∀ σ2,Ext (σ ++ List.replicate m none) σ2->(∀ j b,bs[j]? = some b->∃ w,σ2[n + j]? = some (some w)/\Rep All H w b)->Q σ2 H)->g v (σ ++ List.replicate m none) H Q
theorem ER.ext {H : Hp} {σ σ2 : L2.St} {ρ bs : List D} {n m : Nat} (E : ER H σ ρ) (hn : σ.length = n) (x : Ext (σ ++ List.replicate m none) σ2) (hb : ∀ j b,bs[j]? = some b->∃ w,σ2[n + j]? = some (some w)/\Rep All H w b) : ER H σ2 (padD n ρ ++ bs):=by
 intro i hi
 by_cases h : i < n
 ·rw [padD_get n ρ bs i h] at hi ⊢
  obtain ⟨v,h1,h2⟩:=E i hi
  exact ⟨v,x.2 i v (by rw [List.getElem?_append_left (by rw [hn];exact h)];exact h1),h2⟩
 ·have e : (padD n ρ ++ bs).getD i .undef = bs.getD (i - n) .undef:=by
   rw [List.getD_eq_getElem?_getD,List.getElem?_append_right (by rw [padD_len];lia),padD_len,<- List.getD_eq_getElem?_getD]
  rw [e] at hi ⊢
  cases hq : bs[i - n]? with
  | none=>rw [List.getD_eq_getElem?_getD,hq] at hi;exact absurd rfl hi
  | some b=>
   obtain ⟨w,h1,h2⟩:=hb (i - n) b hq
   rw [List.getD_eq_getElem?_getD,hq]
   exact ⟨w,by rw [<- h1];congr 1;lia,h2⟩
theorem comp_core {K : PySem.W.Frag} {it : FI} {t : D->Res (List D)} {c : FT} {f : FE} {k : Bool} {n m : Nat} {g : TG} {tc : TT} (tg : TgC g t n m) (hc : ∀ σ H Q,gT c σ H Q->tc σ H Q) {σ : L2.St} {H : Hp} {Q : VK} (hn : σ.length = n) (h : gE (bComp n it t c f k) true σ H Q) :
  tComp (gI K it) g tc (gE f k) m σ H Q:=by
 obtain ⟨ρ,d,E,h,q⟩:=h
 obtain ⟨⟨items,kk⟩,h1,h⟩:=bindE h
 split at h
 ·rename_i hlim
  obtain ⟨ys,h2,h⟩:=bindE h
  cases h
  refine ⟨ρ,items,kk,E,h1,fun J H1 s1 hJ _ p hp=>?_⟩
  have hp0 : H p = none:=s1.free hp
  refine ⟨fun i n' vs H'=>n' = items.length - i/\i<=items.length/\H' p = some (.lst vs)/\Same H1 H'/\∃ acc,acc.length<=i/\Reps (fun a=>H a = none/\a ≠ p) H' vs acc/\cfold (cstep n t c f k ρ) acc (items.drop i) = .ok ys,⟨items.length,?_⟩,?_⟩
  ·exact ⟨rfl,Nat.zero_le _,upd_same,Same.upd hp,[],Nat.zero_le _,.nil,h2⟩
  ·rintro i n' vs H' ⟨rfl,hi,hH,sm,acc,hal,racc,hf⟩
   refine ⟨hH,?_⟩
   have hJ' : ItQ K All J H' items:=hJ.keep (.same sm) fun _ z=>z
   rcases Nat.lt_or_ge i items.length with hlt | hge
   ·refine .inr ?_
    have e : items[i]? = some items[i]:=List.getElem?_eq_getElem hlt
    obtain ⟨g1,g2⟩:=hJ'.go e
    have hl1 : items.length<=lim:=of_decide_eq_true hlim
    refine ⟨g1,?_,fun x H2 hy=>?_⟩
    ·rw [racc.length]
     exact Nat.lt_of_le_of_lt hal (Nat.lt_of_lt_of_le hlt (Nat.le_trans hl1 (by rw [sizeLine_eq];decide)))
    ·obtain ⟨sH,rx⟩:=g2 x H2 hy
     have hH:=sH p _ hH
     have sm:=sm.trans sH
     have racc:=racc.same sH
     rw [List.drop_eq_getElem_cons hlt] at hf
     obtain ⟨acc2,hs,hf⟩:=bindE hf
     obtain ⟨bs,hb,hs⟩:=bindE hs
     obtain ⟨ok,hok,hs⟩:=bindE hs
     refine tg x items[i] bs σ H2 _ hn rx hb fun σ2 hx hbs=>⟨hx,hc _ _ _ ?_⟩
     have E2 : ER H2 σ2 (padD n ρ ++ bs):=(E.same (s1.trans sm)).ext hn hx hbs
     refine ⟨_,ok,E2,hok,fun H4 s4=>?_⟩
     cases ok with
     | true=>
      rw [if_pos rfl]
      rw [if_pos rfl] at hs
      obtain ⟨y,hy2,hs⟩:=bindE hs
      split at hs
      ·rename_i hk
       cases hs
       refine ⟨_,y,E2.same s4,hy2,fun w H5 s5 r5 n5=>⟨s5 p _ (s4 p _ hH),items.length - (i + 1),by lia,rfl,hlt,upd_same,?_,acc ++ [y],?_,?_,hf⟩⟩
       ·exact fun b o e=>by
         rw [upd_ne (ne_of_none e hp)]
         exact s5 b o (s4 b o (sm b o e))
       ·rw [List.length_append,List.length_singleton];lia
       ·have hp5 : H5 p = some (.lst vs):=s5 p _ (s4 p _ hH)
        have ry : Rep (fun a=>H a = none/\a ≠ p) H5 w y:=by
         rw [Bool.or_eq_true] at hk
         rcases hk with hk | hk
         ·exact (n5 hk).mono fun a ha=>⟨((s1.trans sm).trans s4).free ha,fun z=>by subst z;have h0:=s4 _ _ hH;rw [show H4 _ = none from ha] at h0;cases h0⟩
         ·exact r5.ofPure hk
        have all : Reps (fun a=>H a = none/\a ≠ p) H5 (vs ++ [w]) (acc ++ [y]):=(racc.same (s4.trans s5)).snoc ry
        refine all.keep (fun b o e hb=>?_) fun _ z=>z
        rw [upd_ne]
        ·exact e
        ·rcases hb with hb | hb
         ·exact hb.2
         ·intro z;subst z;rw [hp5] at e;cases e;cases hb
      ·cases hs
     | false=>
      rw [if_neg (by simp)]
      rw [if_neg (by simp)] at hs
      cases hs
      exact ⟨items.length - (i + 1),by lia,rfl,hlt,s4 p _ hH,sm.trans s4,acc,by lia,racc.same s4,hf⟩
   ·refine .inl ⟨hJ'.stop hge,?_⟩
    rw [List.drop_eq_nil_of_le hge] at hf
    cases hf
    exact q _ _ (s1.trans sm) (.lst hH trivial racc.all) fun _=>.lst hH hp0 (racc.mono fun a z=>z.1)
 ·cases h
noncomputable def gIx : List Nat->TGs
 | []=>gNil
 | i :: is=>gCons (gName i) (gIx is)
noncomputable def setsV : List Nat->List V->L2.St->L2.St
 | i :: is,v :: vs,σ=>setsV is vs (σ.set i (some v))
 | _,_,σ=>σ
theorem gIx_run {H : Hp} {Q : L2.St->Hp->Prop} : ∀ (is : List Nat) (vs : List V) (σ : L2.St),vs.length = is.length->Q (setsV is vs σ) H->gIx is vs σ H Q
 | [],[],σ,_,q=>⟨rfl,q⟩
 | i :: is,v :: vs,σ,h,q=>⟨v,vs,rfl,gIx_run is vs (σ.set i (some v)) (by simpa using h) q⟩
 | [],_ :: _,_,h,_=>by simp at h
 | _ :: _,[],_,h,_=>by simp at h
theorem setsV_len : ∀ (is : List Nat) (vs : List V) (σ : L2.St),(setsV is vs σ).length = σ.length
 | [],_,_=>by simp [setsV]
 | _ :: _,[],_=>by simp [setsV]
 | i :: is,v :: vs,σ=>by rw [setsV,setsV_len is vs];simp
theorem setsV_out : ∀ (is : List Nat) (vs : List V) (σ : L2.St) (k : Nat),k ∉ is->(setsV is vs σ)[k]? = σ[k]?
 | [],_,_,_,_=>by simp [setsV]
 | _ :: _,[],_,_,_=>by simp [setsV]
 | i :: is,v :: vs,σ,k,h=>by
  rw [List.mem_cons,not_or] at h
  rw [setsV,setsV_out is vs _ k h.2,List.getElem?_set_ne (Ne.symm h.1)]
theorem setsV_at : ∀ (is : List Nat) (vs : List V) (σ : L2.St) (j i : Nat) (v : V),is.Nodup->(∀ i ∈ is,i < σ.length)->is[j]? = some i->vs[j]? = some v->(setsV is vs σ)[i]? = some (some v)
 | [],_,_,_,_,_,_,_,h,_=>by simp at h
 | _ :: _,[],_,_,_,_,_,_,_,h=>by simp at h
 | a :: is,w :: vs,σ,0,i,v,hn,hl,h1,h2=>by
  have e1 : a = i:=by simpa using h1
  have e2 : w = v:=by simpa using h2
  subst e1 e2
  rw [setsV,setsV_out is vs _ a (List.nodup_cons.mp hn).1,List.getElem?_set_self (hl a (List.mem_cons_self ..))]
 | a :: is,w :: vs,σ,j + 1,i,v,hn,hl,h1,h2=>by
  rw [setsV]
  exact setsV_at is vs _ j i v (List.nodup_cons.mp hn).2 (fun i hi=>by rw [List.length_set];exact hl i (List.mem_cons_of_mem _ hi)) (by simpa using h1) (by simpa using h2)
theorem tgc_one (n : Nat) : TgC (gName n) oneT n 1:=by
 intro v d bs σ H Q hn r h q
 cases h
 have hl : (σ ++ List.replicate 1 (none : Option V)).length = n + 1:=by simp [hn]
 refine q _ ⟨by simp,fun i w hi=>?_⟩ fun j b hj=>?_
 ·have : i ≠ n:=fun z=>by
   subst z
   rw [List.getElem?_append_right (by lia)] at hi
   simp [hn] at hi
  rw [List.getElem?_set_ne (Ne.symm this)]
  exact hi
 ·have e : j = 0:=by
   have:=(List.getElem?_eq_some_iff.mp hj).1
   simp at this
   exact this
  subst e
  have e : d = b:=by simpa using hj
  subst e
  exact ⟨v,by rw [Nat.add_zero,List.getElem?_set_self (by lia)],r⟩
theorem tgc_tup (K : PySem.W.Frag) (n m : Nat) : TgC (gTup K m (gIx (List.range' n m))) (tupT m) n m:=by
 intro v d bs σ H Q hn r h q
 cases d <;> simp only [tupT] at h <;> (try (cases h;done))
 split at h
 ·rename_i hm
  cases h
  have hm':=of_decide_eq_true hm
  obtain ⟨a,xs,rfl,e,rr⟩:=r.tupAt
  refine ⟨a,xs,rfl,.of e,by rw [rr.length];exact hm',gIx_run _ _ _ (by rw [rr.length,hm'];simp) ?_⟩
  refine q _ ⟨by rw [setsV_len],fun i w hi=>?_⟩ fun j b hj=>?_
  ·rw [setsV_out]
   ·exact hi
   ·intro hmem
    have:=List.mem_range'_1.mp hmem
    rw [List.getElem?_append_right (by lia)] at hi
    rw [List.getElem?_replicate] at hi
    split at hi <;> cases hi
  ·obtain ⟨w,h1,h2⟩:=rr.get hj
   have hjm : j < m:=by rw [<- hm'];exact (List.getElem?_eq_some_iff.mp hj).1
   refine ⟨w,setsV_at _ _ _ j (n + j) w (List.nodup_range' ..) (fun i hi=>?_) ?_ h1,h2⟩
   ·have:=List.mem_range'_1.mp hi
    simp [hn]
    lia
   ·rw [List.getElem?_range' hjm]
    simp
 ·cases h
section
variable {X : Cx} {scope : Scope} {ownN : List Str} {elt iter tg c : Expr} {it : FI} {t : D->Res (List D)} {g : TG} {gc : FT} {fe : FE} {re : Bool} {pos : Pos}
theorem me_comp {n m : Nat} (S : CompSc X.N X.env.scope scope ownN) (hn : X.N.length = n) (hm : ownN.length = m) (hcalm : X.calm = true) (hi : PI X tg iter (gI X.K it)) (ht : TgC g t n m) (hg : ∀ X',CompCx X X' scope ownN->PG X' tg g) (he : ∀ X',CompCx X X' scope ownN->PE X' elt (gE fe re))
  (hs : ∀ x,foldedSetIterable iter X.env x = pure x) : PE X (.ListComp elt [⟨tg,iter,[],0⟩] scope pos) (gE (bComp n it t bTrue fe re) true):=by
 intro pins s σ H Q I h
 subst hm
 exact pe_comp0 S hcalm hi hg he hs pins s σ H Q I (comp_core ht (fun σ H Q h=>by obtain ⟨ρ,b,E,h,q⟩:=h;cases h;exact q H (Same.refl H)) (I.len.trans hn) h)
end
end Mi
end
section
set_option maxRecDepth 100000
namespace Mi
open PySem L2 PySem.SeqAt PySem.Spec PyProof.Rows
variable [KFrag]
mutual
theorem Rep.dom {P : Addr->Prop} {H : Hp} : ∀ {v : V} {d : D},Rep P H v d->Rep (fun a=>P a/\H a ≠ none) H v d
 | _,_,.non=>.non
 | _,_,.bl b=>.bl b
 | _,_,.int i=>.int i
 | _,_,.str x=>.str x
 | _,_,.tup e r=>.tup e (Reps.dom r)
 | _,_,.lst e p r=>.lst e ⟨p,by rw [e];simp⟩ (Reps.dom r)
 | _,_,.frz e r=>.frz e (Reps.dom r)
 | _,_,.dK e p r n=>.dK e ⟨p,by rw [e];simp⟩ (RepK.dom r) n
 | _,_,.dT e p r n=>.dT e ⟨p,by rw [e];simp⟩ (RepT.dom r) n
 | _,_,.fdK e r n=>.fdK e (RepK.dom r) n
 | _,_,.fdT e r n=>.fdT e (RepT.dom r) n
theorem Reps.dom {P : Addr->Prop} {H : Hp} : ∀ {v : List V} {d : List D},Reps P H v d->Reps (fun a=>P a/\H a ≠ none) H v d
 | _,_,.nil=>.nil
 | _,_,.cons r t=>.cons (Rep.dom r) (Reps.dom t)
theorem RepK.dom {P : Addr->Prop} {H : Hp} : ∀ {v : List (Key × V)} {d : List (D × D)},RepK P H v d->RepK (fun a=>P a/\H a ≠ none) H v d
 | _,_,.nil=>.nil
 | _,_,.cons r t=>.cons (Rep.dom r) (RepK.dom t)
theorem RepT.dom {P : Addr->Prop} {H : Hp} : ∀ {v : List (List Key × V)} {d : List (D × D)},RepT P H v d->RepT (fun a=>P a/\H a ≠ none) H v d
 | _,_,.nil=>.nil
 | _,_,.cons r t=>.cons (Rep.dom r) (RepT.dom t)
end
theorem RepK.ofPure {P P' : Addr->Prop} {H : Hp} : ∀ {v : List (Key × V)} {d : List (D × D)},RepK P H v d->D.pures (d.map (·.2)) = true->RepK P' H v d
 | _,_,.nil,_=>.nil
 | _,_,.cons r t,h=>by
  rw [List.map_cons,D.pures,Bool.and_eq_true] at h
  exact .cons (r.ofPure h.1) (t.ofPure h.2)
theorem RepT.ofPure {P P' : Addr->Prop} {H : Hp} : ∀ {v : List (List Key × V)} {d : List (D × D)},RepT P H v d->D.pures (d.map (·.2)) = true->RepT P' H v d
 | _,_,.nil,_=>.nil
 | _,_,.cons r t,h=>by
  rw [List.map_cons,D.pures,Bool.and_eq_true] at h
  exact .cons (r.ofPure h.1) (t.ofPure h.2)
theorem Rep.ownP {P P' : Addr->Prop} {H : Hp} {a : Addr} {d : D} (r : Rep P H (.ref a) d) (h : inner d = true) (hp : P' a) : Rep P' H (.ref a) d:=by
 cases r with
 | tup e r=>cases h
 | lst e p r=>exact .lst e hp (r.ofPure h)
 | frz e r=>cases h
 | dK e p r n=>exact .dK e hp (r.ofPure h) n
 | dT e p r n=>exact .dT e hp (r.ofPure h) n
 | fdK e r n=>cases h
 | fdT e r n=>cases h
noncomputable def Own (own : Nat->Bool) (σ : L2.St) (a : Addr) : Prop:=∃ i,own i = true/\σ[i]? = some (some (.ref a))
structure ES (own : Nat->Bool) (H : Hp) (σ : L2.St) (ρ : List D) : Prop where
 len : σ.length = ρ.length
 at_ : ∀ i,ρ.getD i .undef ≠ .undef->∃ v,σ[i]? = some (some v)/\(own i = false->Rep (fun a=>¬ Own own σ a) H v (ρ.getD i .undef))
 own : ∀ i v,own i = true->σ[i]? = some (some v)->∃ a o,v = .ref a/\Rep All H v (ρ.getD i .undef)/\inner (ρ.getD i .undef) = true/\H a = some o/\mutO o = true/\∀ j,own j = true->σ[j]? = some (some (.ref a))->j = i
variable {own : Nat->Bool}
theorem ES.er {H : Hp} {σ : L2.St} {ρ : List D} (e : ES own H σ ρ) : ER H σ ρ:=fun i hi=>by
 obtain ⟨v,h1,h2⟩:=e.at_ i hi
 cases ho : own i with
 | false=>exact ⟨v,h1,(h2 ho).all⟩
 | true=>
  obtain ⟨a,o,_,h3,_⟩:=e.own i v ho h1
  exact ⟨v,h1,h3⟩
theorem ES.live {H : Hp} {σ : L2.St} {ρ : List D} (e : ES own H σ ρ) {a : Addr} (h : Own own σ a) : ∃ o,H a = some o/\mutO o = true:=by
 obtain ⟨i,hi,hs⟩:=h
 obtain ⟨b,o,eb,_,_,h3,h4,_⟩:=e.own i _ hi hs
 cases eb
 exact ⟨o,h3,h4⟩
theorem ES.same {H H' : Hp} {σ : L2.St} {ρ : List D} (e : ES own H σ ρ) (s : Same H H') : ES own H' σ ρ:=by
 refine ⟨e.len,fun i hi=>?_,fun i v hi hv=>?_⟩
 ·obtain ⟨v,h1,h2⟩:=e.at_ i hi
  exact ⟨v,h1,fun ho=>(h2 ho).same s⟩
 ·obtain ⟨a,o,h1,h2,h3,h4,h5,h6⟩:=e.own i v hi hv
  exact ⟨a,o,h1,h2.same s,h3,s _ _ h4,h5,h6⟩
noncomputable def KU (own : Nat->Bool) (σ : L2.St) (H : Hp) (σ' : L2.St) (H' : Hp) : Prop:=∀ a o,H a = some o->¬ Own own σ a->H' a = some o/\¬ Own own σ' a
theorem KU.trans {σ σ1 σ2 : L2.St} {H H1 H2 : Hp} (a : KU own σ H σ1 H1) (b : KU own σ1 H1 σ2 H2) : KU own σ H σ2 H2:=fun c o e n=>let ⟨e1,n1⟩:=a c o e n;b c o e1 n1
theorem KU.same {σ : L2.St} {H H' : Hp} (s : Same H H') : KU own σ H σ H':=fun a o e n=>⟨s a o e,n⟩
theorem KU.keep {σ σ' : L2.St} {H H' : Hp} {ρ : List D} (k : KU own σ H σ' H') (e : ES own H σ ρ) : Keep (fun a=>¬ Own own σ a) H H':=fun a o h hp=>by
 by_cases ho : Own own σ a
 ·obtain ⟨o',h1,h2⟩:=e.live ho
  rw [h] at h1
  cases h1
  rcases hp with hp | hp
  ·exact absurd ho hp
  ·rw [h2] at hp;cases hp
 ·exact (k a o h ho).1
theorem KU.rep {σ σ' : L2.St} {H H' : Hp} {ρ : List D} (k : KU own σ H σ' H') (e : ES own H σ ρ) {v : V} {d : D} (r : Rep (fun a=>¬ Own own σ a) H v d) : Rep (fun a=>¬ Own own σ' a) H' v d:=by
 refine r.dom.keep (P':=fun a=>¬ Own own σ' a) (fun a o h hp=>?_) fun a ⟨h1,h2⟩=>?_
 ·refine k.keep e a o h (hp.imp (fun z=>z.1) id)
 ·cases q : H a with
  | none=>exact absurd q h2
  | some o=>exact (k a o q h1).2
noncomputable def kS (own : Nat->Bool) (D : Ends) (σ : L2.St) (H : Hp) : Fl->Prop
 | .nx ρ=>∀ σ' H',KU own σ H σ' H'->ES own H' σ' ρ->D.nx σ' H'
 | .bk ρ=>∀ σ' H',KU own σ H σ' H'->ES own H' σ' ρ->D.bk σ' H'
 | .ct ρ=>∀ σ' H',KU own σ H σ' H'->ES own H' σ' ρ->D.ct σ' H'
 | .rt d=>∀ v H',(∀ a o,H a = some o->¬ Own own σ a->H' a = some o)->Rep (fun a=>Own own σ a\/H a = none) H' v d->D.rt v H'
theorem kS.step {D : Ends} {σ σ' : L2.St} {H H' : Hp} {fl : Fl} (k : KU own σ H σ' H') (h : kS own D σ H fl) : kS own D σ' H' fl:=by
 cases fl with
 | nx ρ=>exact fun σ2 H2 k2 e=>h σ2 H2 (k.trans k2) e
 | bk ρ=>exact fun σ2 H2 k2 e=>h σ2 H2 (k.trans k2) e
 | ct ρ=>exact fun σ2 H2 k2 e=>h σ2 H2 (k.trans k2) e
 | rt d=>
  refine fun v H2 hk r=>h v H2 (fun a o e n=>let ⟨e1,n1⟩:=k a o e n;hk a o e1 n1) (r.mono fun a ha=>?_)
  cases q : H a with
  | none=>exact .inr rfl
  | some o=>
   refine .inl (Classical.byContradiction fun n=>?_)
   obtain ⟨e1,n1⟩:=k a o q n
   rcases ha with ha | ha
   ·exact n1 ha
   ·rw [e1] at ha;cases ha
noncomputable def tS (own : Nat->Bool) (f : FS) : TS:=fun D σ H=>∃ ρ fl,ES own H σ ρ/\f ρ = .ok fl/\kS own D σ H fl
theorem PS.imp {X : Cx} {st : Stmt} {t t' : TS} (h : PS X st t) (i : ∀ D σ H,t' D σ H->t D σ H) : PS X st t':=fun pins s σ H D I q=>h pins s σ H D I (i D σ H q)
theorem PSs.imp {X : Cx} {st : List Stmt} {t t' : TS} (h : PSs X st t) (i : ∀ D σ H,t' D σ H->t D σ H) : PSs X st t':=fun pins s σ H D I q=>h pins s σ H D I (i D σ H q)
section
variable {X : Cx} {a b c e : Expr} {pos pos' : Pos} {fa fb fc fe : FE} {ra rb rc re : Bool} {ga gb gc : FT} {f g : FS} {st : Stmt} {rest s1 s2 : List Stmt}
theorem mss_nil : PSs X [] (tS own sNil):=PSs.imp pss_nil fun D σ H ⟨ρ,fl,E,h,q⟩=>by
 cases h
 exact q σ H (fun a o e n=>⟨e,n⟩) E
theorem seq_imp {D : Ends} {σ : L2.St} {H : Hp} (h : tS own (sSeq f g) D σ H) : tSeq (tS own f) (tS own g) D σ H:=by
 obtain ⟨ρ,fl,E,h,q⟩:=h
 obtain ⟨r,h1,h2⟩:=bindE h
 refine ⟨ρ,r,E,h1,?_⟩
 cases r with
 | nx ρ'=>exact fun σ' H' k E'=>⟨ρ',fl,E',h2,q.step k⟩
 | bk ρ'=>cases h2;exact q
 | ct ρ'=>cases h2;exact q
 | rt d=>cases h2;exact q
theorem mss_cons (h1 : PS X st (tS own f)) (h2 : PSs X rest (tS own g)) : PSs X (st :: rest) (tS own (sSeq f g)):=PSs.imp (pss_cons h1 h2) fun _ _ _=>seq_imp
theorem mss_one (h1 : PS X st (tS own f)) : PSs X [st] (tS own f):=pss_one h1
theorem ms_if (hc : PT X c (gT gc)) (ha : PSs X s1 (tS own f)) (hb : PSs X s2 (tS own g)) : PS X (.If c s1 s2 pos) (tS own (sIf gc f g)):=PS.imp (ps_if hc ha hb) fun D σ H ⟨ρ,fl,E,h,q⟩=>by
 obtain ⟨k,h1,h2⟩:=bindE h
 refine ⟨ρ,k,E.er,h1,fun H' s=>?_⟩
 cases k with
 | true=>rw [if_pos rfl];rw [if_pos rfl] at h2;exact ⟨ρ,fl,E.same s,h2,q.step (.same s)⟩
 | false=>rw [if_neg (by simp)];rw [if_neg (by simp)] at h2;exact ⟨ρ,fl,E.same s,h2,q.step (.same s)⟩
theorem ms_ret (he : PE X e (gE fe re)) : PS X (.Return (some e) pos) (tS own (sRet fe re)):=PS.imp (ps_ret he) fun D σ H ⟨ρ,fl,E,h,q⟩=>by
 obtain ⟨d,h1,h2⟩:=bindE h
 split at h2
 ·rename_i hk
  cases h2
  refine ⟨ρ,d,E.er,h1,fun v H' s r n=>q v H' (fun a o e _=>s a o e) ?_⟩
  rw [Bool.or_eq_true] at hk
  rcases hk with hk | hk
  ·exact (n hk).mono fun a ha=>.inr ha
  ·exact r.ofPure hk
 ·cases h2
theorem own_set {σ : L2.St} {i : Nat} {v : V} (ho : own i = false) (a : Addr) : Own own (σ.set i (some v)) a ↔ Own own σ a:=by
 constructor
 ·rintro ⟨j,hj,e⟩
  have : i ≠ j:=fun z=>by subst z;rw [ho] at hj;cases hj
  rw [List.getElem?_set_ne this] at e
  exact ⟨j,hj,e⟩
 ·rintro ⟨j,hj,e⟩
  have : i ≠ j:=fun z=>by subst z;rw [ho] at hj;cases hj
  exact ⟨j,hj,by rw [List.getElem?_set_ne this];exact e⟩
theorem getD_set {ρ : List D} {i j : Nat} {d : D} : (ρ.set i d).getD j .undef = if i = j/\i < ρ.length then d else ρ.getD j .undef:=by
 rw [List.getD_eq_getElem?_getD,List.getD_eq_getElem?_getD,List.getElem?_set]
 by_cases h : i = j
 ·subst h
  by_cases h2 : i < ρ.length
  ·simp [h2]
  ·simp [h2]
 ·simp [h]
theorem ES.set {H : Hp} {σ : L2.St} {ρ : List D} {i : Nat} {v : V} {d : D} (E : ES own H σ ρ) (ho : own i = false) (r : Rep (fun a=>¬ Own own σ a) H v d) : ES own H (σ.set i (some v)) (ρ.set i d):=by
 have hO : (fun a=>¬ Own own (σ.set i (some v)) a) = fun a=>¬ Own own σ a:=funext fun a=>by rw [own_set ho]
 refine ⟨by simp [E.len],fun j hj=>?_,fun j w hj hw=>?_⟩
 ·rw [getD_set] at hj ⊢
  rw [hO]
  by_cases h : i = j/\i < ρ.length
  ·rw [if_pos h]
   obtain ⟨rfl,hl⟩:=h
   exact ⟨v,by rw [List.getElem?_set_self (by rw [E.len];exact hl)],fun _=>r⟩
  ·rw [if_neg h] at hj ⊢
   obtain ⟨w,h1,h2⟩:=E.at_ j hj
   by_cases hij : i = j
   ·subst hij
    have : i < σ.length:=(List.getElem?_eq_some_iff.mp h1).1
    rw [E.len] at this
    exact absurd ⟨rfl,this⟩ h
   ·exact ⟨w,by rw [List.getElem?_set_ne hij];exact h1,h2⟩
 ·have hij : i ≠ j:=fun z=>by subst z;rw [ho] at hj;cases hj
  rw [List.getElem?_set_ne hij] at hw
  rw [getD_set,if_neg fun z=>hij z.1]
  obtain ⟨a,o,h1,h2,h3,h4,h5,h6⟩:=E.own j w hj hw
  refine ⟨a,o,h1,h2,h3,h4,h5,fun k hk hs=>h6 k hk ?_⟩
  have hik : i ≠ k:=fun z=>by subst z;rw [ho] at hk;cases hk
  rwa [List.getElem?_set_ne hik] at hs
theorem ES.setO {H H' : Hp} {σ : L2.St} {ρ : List D} {i : Nat} {a : Addr} {o : HO} {d : D} (E : ES own H σ ρ) (s : Same H H') (ho : own i = true) (hn : H a = none) (r : Rep All H' (.ref a) d) (hin : inner d = true) (ha : H' a = some o) (hm : mutO o = true) :
  ES own H' (σ.set i (some (.ref a))) (ρ.set i d)/\KU own σ H (σ.set i (some (.ref a))) H':=by
 have hO : ∀ b,H b ≠ none->¬ Own own σ b->¬ Own own (σ.set i (some (.ref a))) b:=fun b hb n ⟨j,hj,e⟩=>by
  by_cases hij : i = j
  ·subst hij
   by_cases hl : i < σ.length
   ·rw [List.getElem?_set_self hl] at e
    cases e
    exact hb hn
   ·rw [List.getElem?_set,if_pos rfl,if_neg hl] at e
    cases e
  ·rw [List.getElem?_set_ne hij] at e
   exact n ⟨j,hj,e⟩
 refine ⟨⟨by simp [E.len],fun j hj=>?_,fun j w hj hw=>?_⟩,fun b ob e n=>⟨s b ob e,hO b (by rw [e];simp) n⟩⟩
 ·rw [getD_set] at hj ⊢
  by_cases h : i = j/\i < ρ.length
  ·rw [if_pos h]
   obtain ⟨rfl,hl⟩:=h
   exact ⟨.ref a,by rw [List.getElem?_set_self (by rw [E.len];exact hl)],fun z=>by rw [ho] at z;cases z⟩
  ·rw [if_neg h] at hj ⊢
   obtain ⟨w,h1,h2⟩:=E.at_ j hj
   by_cases hij : i = j
   ·subst hij
    have : i < σ.length:=(List.getElem?_eq_some_iff.mp h1).1
    rw [E.len] at this
    exact absurd ⟨rfl,this⟩ h
   ·exact ⟨w,by rw [List.getElem?_set_ne hij];exact h1,fun hj=>((h2 hj).dom.same s).mono fun b ⟨n,hb⟩=>hO b hb n⟩
 ·by_cases hij : i = j
  ·subst hij
   have hl : i < σ.length:=by
    have:=(List.getElem?_eq_some_iff.mp hw).1
    simpa using this
   rw [List.getElem?_set_self hl] at hw
   cases hw
   rw [getD_set,if_pos ⟨rfl,by rw [<- E.len];exact hl⟩]
   refine ⟨a,o,rfl,r,hin,ha,hm,fun k hk hs=>?_⟩
   by_cases hik : i = k
   ·exact hik.symm
   ·rw [List.getElem?_set_ne hik] at hs
    obtain ⟨o',h1,_⟩:=E.live ⟨k,hk,hs⟩
    rw [hn] at h1;cases h1
  ·rw [List.getElem?_set_ne hij] at hw
   rw [getD_set,if_neg fun z=>hij z.1]
   obtain ⟨b,ob,h1,h2,h3,h4,h5,h6⟩:=E.own j w hj hw
   refine ⟨b,ob,h1,h2.same s,h3,s _ _ h4,h5,fun k hk hs=>?_⟩
   by_cases hik : i = k
   ·subst hik
    by_cases hl : i < σ.length
    ·rw [List.getElem?_set_self hl] at hs
     cases hs
     rw [hn] at h4;cases h4
    ·rw [List.getElem?_set,if_pos rfl,if_neg hl] at hs
     cases hs
   ·rw [List.getElem?_set_ne hik] at hs
    exact h6 k hk hs
theorem mut_of {P : Addr->Prop} {H : Hp} {v : V} {d : D} (r : Rep P H v d) (hin : inner d = true) : ∃ a o,v = .ref a/\P a/\H a = some o/\mutO o = true:=by
 cases r with
 | lst e p r=>exact ⟨_,_,rfl,p,e,rfl⟩
 | dK e p r n=>exact ⟨_,_,rfl,p,e,rfl⟩
 | dT e p r n=>exact ⟨_,_,rfl,p,e,rfl⟩
 | fdK e r n=>cases hin
 | fdT e r n=>cases hin
 | _=>cases hin
theorem new_own {H H' : Hp} {σ : L2.St} {ρ : List D} (E : ES own H σ ρ) {v : V} {d : D} (r : Rep (New H) H' v d) : Rep (fun a=>¬ Own own σ a) H' v d:=r.mono fun a ha ho=>by
 obtain ⟨o,h1,_⟩:=E.live ho
 rw [show H a = none from ha] at h1
 cases h1
theorem set_imp {o : Bool} {i : Nat} {D' : Ends} {σ : L2.St} {H : Hp} (ho : own i = o) (h : tS own (sSet o i fe re) D' σ H) : tAsg (gE fe re) (gName i) D' σ H:=by
 obtain ⟨ρ,fl,E,h,q⟩:=h
 obtain ⟨d,h1,h2⟩:=bindE h
 cases o with
 | true=>
  simp only [if_true] at h2
  split at h2
  ·rename_i hk
   cases h2
   refine ⟨ρ,d,E.er,h1,fun v H' s r n=>?_⟩
   rw [Bool.and_eq_true] at hk
   obtain ⟨a,ob,rfl,hn,ha,hm⟩:=mut_of (n hk.1) hk.2
   obtain ⟨E2,k⟩:=E.setO s ho hn r hk.2 ha hm
   exact q _ H' k E2
  ·cases h2
 | false=>
  simp only [Bool.false_eq_true,if_false] at h2
  split at h2
  ·rename_i hk
   cases h2
   refine ⟨ρ,d,E.er,h1,fun v H' s r n=>?_⟩
   rw [Bool.or_eq_true] at hk
   have r2 : Rep (fun a=>¬ Own own σ a) H' v d:=by
    rcases hk with hk | hk
    ·exact new_own E (n hk)
    ·exact r.ofPure hk
   exact q _ H' (fun a ob e hn=>⟨s a ob e,by rw [own_set ho];exact hn⟩) ((E.same s).set ho r2)
  ·cases h2
theorem ms_set {i : Nat} {x : Str} {o : Bool} (ho : own i = o) (hN : X.N.Nodup) (hi : X.N[i]? = some x) (hx : Loc X.env.scope x) (he : PE X e (gE fe re)) (hs : swapsWith e (some (.Name x pos')) pos.line X.env = pure false:=by rfl) (hf : X.fn x = true\/X.env.scope.names.lookup x = some .local:=by first | exact .inl rfl | exact .inr rfl | assumption) :
  PS X (.Assign [.Name x pos'] e pos) (tS own (sSet o i fe re)):=PS.imp (ps_set hN hi hx he hs hf) fun _ _ _=>set_imp ho
theorem ES.mut {H : Hp} {σ : L2.St} {ρ : List D} {i : Nat} {a : Addr} {o : HO} {d : D} (E : ES own H σ ρ) (ho : own i = true) (hi : σ[i]? = some (some (.ref a))) (hm : mutO o = true) (r : Rep All (upd H a o) (.ref a) d) (hin : inner d = true) :
  ES own (upd H a o) σ (ρ.set i d)/\KU own σ H σ (upd H a o):=by
 have hOa : Own own σ a:=⟨i,ho,hi⟩
 obtain ⟨a',oa,ea,_,_,hHa,hma,huq⟩:=E.own i _ ho hi
 cases ea
 have k : KU own σ H σ (upd H a o):=fun b ob e n=>⟨by rw [upd_ne (fun z=>by subst z;exact n hOa)];exact e,n⟩
 have hl : i < ρ.length:=by rw [<- E.len];exact (List.getElem?_eq_some_iff.mp hi).1
 refine ⟨⟨by simp [E.len],fun j hj=>?_,fun j w hj hw=>?_⟩,k⟩
 ·rw [getD_set] at hj ⊢
  by_cases h : i = j/\i < ρ.length
  ·obtain ⟨rfl,_⟩:=h
   exact ⟨_,hi,fun z=>by rw [ho] at z;cases z⟩
  ·rw [if_neg h] at hj ⊢
   obtain ⟨w,h1,h2⟩:=E.at_ j hj
   exact ⟨w,h1,fun hj=>k.rep E (h2 hj)⟩
 ·by_cases hij : i = j
  ·subst hij
   rw [hi] at hw
   cases hw
   rw [getD_set,if_pos ⟨rfl,hl⟩]
   exact ⟨a,o,rfl,r,hin,upd_same,hm,huq⟩
  ·rw [getD_set,if_neg fun z=>hij z.1]
   obtain ⟨b,ob,h1,h2,h3,h4,h5,h6⟩:=E.own j w hj hw
   subst h1
   have hba : b ≠ a:=fun z=>by subst z;exact hij (h6 i ho hi)
   refine ⟨b,ob,rfl,?_,h3,by rw [upd_ne hba];exact h4,h5,h6⟩
   refine (h2.ownP (P':=fun c=>c = b) h3 rfl).keep (fun c oc hc hp=>?_) fun _ _=>trivial
   rw [upd_ne]
   ·exact hc
   ·intro z
    subst z
    rcases hp with hp | hp
    ·exact hba hp.symm
    ·rw [hHa] at hc;cases hc;rw [hma] at hp;cases hp
theorem ES.ownAt {H : Hp} {σ : L2.St} {ρ : List D} {i : Nat} (E : ES own H σ ρ) (ho : own i = true) (hd : ρ.getD i .undef ≠ .undef) : ∃ a o,σ[i]? = some (some (.ref a))/\Rep All H (.ref a) (ρ.getD i .undef)/\inner (ρ.getD i .undef) = true/\H a = some o/\mutO o = true:=by
 obtain ⟨v,h1,_⟩:=E.at_ i hd
 obtain ⟨a,o,rfl,h2,h3,h4,h5,_⟩:=E.own i v ho h1
 exact ⟨a,o,h1,h2,h3,h4,h5⟩
theorem lst_at {H : Hp} {a : Addr} {xs : List D} (r : Rep All H (.ref a) (.lst xs)) : ∃ vs,H a = some (.lst vs)/\Reps All H vs xs:=by
 cases r with
 | lst e _ r=>exact ⟨_,e,r⟩
theorem Reps.upd {H : Hp} {a : Addr} {vs : List V} {xs : List D} {o : HO} {ob : HO} (r : Reps All H vs xs) (hp : D.pures xs = true) (ha : H a = some ob) (hm : mutO ob = true) : Reps All (upd H a o) vs xs:=by
 refine (r.ofPure (P':=fun _=>False) hp).keep (fun c oc hc h=>?_) fun _ h=>h.elim
 rw [upd_ne]
 ·exact hc
 ·intro z
  subst z
  rcases h with h | h
  ·exact h
  ·rw [ha] at hc;cases hc;rw [hm] at h;cases h
theorem pures_app {xs ys : List D} : D.pures (xs ++ ys) = (D.pures xs && D.pures ys):=by
 induction xs with
 | nil=>simp [D.pures]
 | cons x xs ih=>rw [List.cons_append,D.pures,D.pures,ih,Bool.and_assoc]
theorem ms_app {i : Nat} {x : Str} {p1 apos cpos : Pos} (ho : own i = true) (hN : X.N[i]? = some x) (hv : Vis X.env.scope x) (he : PE X e (gE fe re)) (hd : (x == ("__debug__" : Str)) = false:=by decide) (hcd : (x == ("__classdict__" : Str)) = false:=by decide)
  (hbase : attributeBase (.Name x p1) "append" X.env (eval (.Name x p1) X.env) = eval (.Name x p1) X.env:=by rfl)
  (hs1 : starEach [e] X.env = (false,eval e X.env) :: starEach [] X.env:=by rfl)
  (hfew : ((backTo cpos (starEach [e] X.env)).all (fun x=>!x.1) && (backToKw cpos (keywordEach [] X.env)).all (fun x=>x.1.isSome)
   && decide (([e] : List Expr).length + ([] : List Keyword).length + (if ([] : List Keyword).isEmpty then 0 else 1) < 30)) = true:=by rfl)
  (hline : (apos.endLine == cpos.line) = true:=by rfl)
  (hs : swapsWith (.Call (.Attribute (.Name x p1) "append" apos) [e] [] cpos) none pos.line X.env = pure false:=by rfl) :
  PS X (.Expr (.Call (.Attribute (.Name x p1) "append" apos) [e] [] cpos) pos) (tS own (sApp i fe)):=
 PS.imp (ps_expr (pe_bm PySem.F.plainAttrs_list PySem.F.slot_list_append PySem.F.type_list_append mt_append (pe_var hN hv hd hcd) (pa_cons he pa_nil hs1) hbase hfew hline hs1 rfl) hs) fun D' σ H ⟨ρ,fl,E,h,q⟩=>by
 obtain ⟨d,h1,h2⟩:=bindE h
 split at h2
 ·rename_i xs hx
  split at h2
  ·rename_i hk
   cases h2
   rw [Bool.and_eq_true] at hk
   obtain ⟨a,o,hσ,r,hin,ha,hm⟩:=E.ownAt ho (by rw [hx];intro z;cases z)
   rw [hx] at r hin
   obtain ⟨vs,hl,rr⟩:=lst_at r
   refine ⟨_,hσ,.inl ⟨rfl,vs,.of hl⟩,ρ,d,E.er,h1,fun v H' s rv _=>⟨a,vs,v,rfl,rfl,s _ _ hl,by rw [rr.length];exact lim_lt hk.1,?_⟩⟩
   have E':=E.same s
   have hl':=s _ _ hl
   obtain ⟨E2,k2⟩:=E'.mut (o:=.lst (vs ++ [v])) (d:=.lst (xs ++ [d])) ho hσ rfl (.lst upd_same trivial (((rr.same s).snoc rv).upd (by rw [pures_app];simp only [Bool.and_eq_true];exact ⟨hin,by simp [D.pures,hk.2]⟩) hl' rfl)) (by show D.pures (xs ++ [d]) = true;rw [pures_app];simp only [Bool.and_eq_true];exact ⟨hin,by simp [D.pures,hk.2]⟩)
   exact q _ _ ((KU.same s).trans k2) E2
  ·cases h2
 ·cases h2
end
end Mi
end
section
set_option maxRecDepth 100000
namespace L2
open PySem PySem.Spec PyProof.Rows
section
variable {X : Cx} {scope : Scope} {own : List Str}
theorem ps_compif {elt iter tg c : Expr} {wi : TI} {g : TG} {tc : TT} {te : TE} {pos : Pos} (S : CompSc X.N X.env.scope scope own) (hcalm : X.calm = true) (hi : PI X tg iter wi)
  (hg : ∀ X',CompCx X X' scope own->PG X' tg g) (hc : ∀ X',CompCx X X' scope own->PT X' c tc) (he : ∀ X',CompCx X X' scope own->PE X' elt te)
  (hs : ∀ x,foldedSetIterable iter X.env x = pure x) {y : Str} {py pos2 : Pos} {iy : Nat} (hNn : X.N.Nodup) (hiy : X.N[iy]? = some y) (hxy : Loc X.env.scope y) (hfy : X.fn y = true\/X.env.scope.names.lookup y = some .local) (hsw : swapsWith (.ListComp elt [⟨tg,iter,[c],0⟩] scope pos) (some (.Name y py)) pos2.line X.env = pure true) : PS X (.Assign [.Name y py] (.ListComp elt [⟨tg,iter,[c],0⟩] scope pos) pos2) (tAsg (tComp wi g tc te own.length) (gName iy)):=by
 intro pins s σ H D I h
 rw [exec_Assign_Name_used _ _ _ _ hsw]
 have cells : ∀ y ∈ scope.names,y.2 = .free->∃ c,X.env.cells.lookup y.1 = some c:=fun y hy hk=>I.ok.has y.1 (S.free y hy hk)
 refine wpAny_bind (wpAny_standAt (wpAny_bind ?_))
 show wpAny _ X.A (do let _ <- comprehension (.ListComp elt [⟨tg,iter,[c],0⟩] scope pos) scope X.env _ (newList []) false (eval iter X.env) (some (assign (.Name y py) X.env))) _ _ s
 refine wpAny_bind (wpAny_mono (wpAny_comprehension_free (use:=some (assign (.Name y py) X.env)) (Q:=fun _ s'=>SP X pins D .next s') rfl hs (closure_of cells) S.kind S.names (thn (hi pins s σ H _ I h) fun xv s1 h1=>thn h1 fun itv s2 h2=>?_)) (fun _ s' hq=>wpAny_pure (wpAny_pure hq)) fun _ _ e=>e)
 obtain ⟨it,fp,tn,J,H2,e,I2,T,st2,f2,hW⟩:=h2
 subst e
 have hD : H2 s2.heap.objs.size = none:=I2.hok.fresh (Nat.le_refl _)
 obtain ⟨W,⟨n0,w0⟩,turn⟩:=hW _ hD
 have hfx : ∀ b ∈ fp,b < s2.heap.objs.size:=fun b hb=>by
  obtain ⟨o,ho,_⟩:=T.obj 0 _ st2 b hb
  exact Heap.lt_size ho
 refine wpAny_newObj_type (wpAny_newFunctionEnv S.nocell (by intro y hy;simp at hy) (fun h₁ hns₁ hsb₁=>?_) S.kind)
 dsimp only at hns₁ hsb₁ ⊢
 have hC : (s2.heap.push { cls:=.type "list",dict:=none,data:=.seq ([] : List Value).toArray }).objs.size = s2.heap.objs.size + 1:=Heap.size_push ..
 have hne : s2.heap.objs.size ≠ s2.heap.objs.size + 1:=Nat.ne_of_lt (Nat.lt_succ_self _)
 rw [hC] at hns₁ hsb₁ ⊢
 have old : ∀ b o,s2.heap.get? b = some o->h₁.get? b = some o:=fun b o e=>hsb₁.extBut b o (Nat.ne_of_lt (Nat.lt_succ_of_lt (Heap.lt_size e))) (Heap.get?_push_of_some _ (Heap.get?_push_of_some _ e))
 have hacc : h₁.get? s2.heap.objs.size = some { cls:=.type "list",data:=.seq #[] }:=hsb₁.extBut _ _ hne (Heap.get?_push_of_some _ (Heap.get?_push_size _ rfl))
 have I4:=Inv.comp (t1:=s2.toks + ([] : List (Str × Value)).length) I2 S f2 hfx hns₁ old hacc
 generalize hX' : cxComp X scope (clF X.env scope.names []) (s2.heap.objs.size + 1) own s2 H2 fp = X' at I4
 have cc : CompCx X X' scope own:=by rw [<- hX'];exact cxComp_ok
 have eenv : X'.env = compEnvC scope (clF X.env scope.names []) (s2.heap.objs.size + 1) X.env:=by rw [<- hX'];rfl
 have eA : X'.A = X.A:=cc.A
 have ep : X'.prog = X.prog:=cc.prog
 have ew : X'.w = X.w:=cc.w
 have efs : X'.fs = frs X.stack:=by rw [<- hX'];rfl
 have eex : X'.ex = fp:=by rw [<- hX'];rfl
 have es0 : X'.s₀ = s2:=by rw [<- hX'];rfl
 have eH0 : X'.H₀ = H2:=by rw [<- hX'];rfl
 have epn : X'.pn = []:=by rw [<- hX'];rfl
 have eK : X'.K = X.K:=cc.K
 have exe:=cc.xe
 have ecalm : X'.calm = true:=cc.calm.trans hcalm
 -- the iterator's records within the block
 have fpok : ∀ {H' : Hp},(∀ b ∈ fp,H' b = none)->∀ b ∈ fp,FpOk X' [] H' b:=fun {H'} hn b hb=>by
  obtain ⟨_,f1,f3,_,f5,_⟩:=f2 b hb
  refine ⟨hn b hb,?_,?_,.inl (by rw [eex];exact hb),fun x c e=>?_,fun p hp=>by rw [epn] at hp;simp at hp⟩
  ·rw [eenv];exact Nat.ne_of_lt (Nat.lt_succ_of_lt (hfx b hb))
  ·rw [efs]
   intro z
   rcases List.mem_cons.mp (I2.stkSub b z) with z | z
   ·exact f1 z
   ·exact f3 z
  ·rw [eenv] at e
   exact f5 x c (clF_sub cells (fun _ _ h=>by simp at h) e)
 have st4 : tn 0 h₁:=T.keep _ _ _ st2 fun b _ o e=>old b o e
 have fr4 : ∀ b ∈ fp,(upd H2 s2.heap.objs.size (.lst [])) b = none:=fun b hb=>by rw [upd_ne (Nat.ne_of_lt (hfx b hb))];exact (f2 b hb).1
 have loop : ∀ s4 : Shared,s4 = { s2 with heap:=h₁,toks:=s2.toks + ([] : List (Str × Value)).length }->
   codeAny (model X.prog X.w) X.A (.compLoop (.ListComp elt [⟨tg,iter,[c],0⟩] scope pos) 0 (.ref it) (.ref s2.heap.objs.size) X'.env)
    (compPost (model X.prog X.w) X.A X.xe (some (assign (.Name y py) X.env)) (fun _ s'=>SP X pins D .next s') (.ref s2.heap.objs.size) (s2.heap.objs.size + 1)) s4:=by
  rintro s4 rfl
  refine PySem.W.kct_loop (fun n s'=>∃ i ys H',Inv X' [] (σ ++ List.replicate own.length none) H' s'/\tn i s'.heap/\(∀ b ∈ fp,H' b = none)/\W i n ys H') ?_ n0 ⟨0,[],_,I4,st4,fr4,w0⟩
  rintro n s5 ⟨i,ys,H5,I5,st5,fr5,w5⟩
  obtain ⟨hacc5,tr⟩:=turn i n ys H5 w5
  rcases tr with ⟨stop,q⟩ | ⟨go,hlen,step⟩
  ·have done:=T.done X' ep ew eK ecalm i [] s5 _ H5 (notedBy (model X.prog X.w) X.A X'.env fun e s'=>compPost (model X.prog X.w) X.A X.xe (some (assign (.Name y py) X.env)) (fun _ s'=>SP X pins D .next s') (.ref s2.heap.objs.size) (s2.heap.objs.size + 1) (.error e) s') I5 (fpok fr5) st5 stop
   rw [eA] at done
   refine thn done fun r s6 ⟨hr,I6⟩=>?_
   subst hr
   obtain ⟨m6,hn6,_⟩:=id I6.loc
   rw [eenv] at hn6
   have u6 : Un (frs X.stack) fp H2 H5 s2.heap s6.heap:=by
    have:=I6.base
    rw [efs,eex,eH0,es0] at this
    exact this
   have hCn : H5 (s2.heap.objs.size + 1) = none:=by
    have:=I6.free
    rw [eenv] at this
    exact this
   have hok6 : HOk X.prog X.w H5 s6.heap:=by
    have:=I6.hok
    rw [ep,ew] at this
    exact this
   have hos : s6.os = s2.os:=by have:=I6.os;rw [es0] at this;exact this
   obtain ⟨hh,gg,dd,tt,oo⟩:=s6
   obtain rfl : oo = s2.os:=hos
   have fin:=Inv.call (h':=hh) (g':=gg) (d':=dd) (t':=tt) (ch:=fp) I2 u6 hok6 I6.bare fun b hb=>⟨(f2 b hb).2.2.2.1,(f2 b hb).2.1,(f2 b hb).2.2.2.2.1,(f2 b hb).2.2.2.2.2⟩
   obtain ⟨oC,esC,epC,hoC,hdC,_⟩:=id hn6
   have neL : s2.heap.objs.size + 1 ≠ X.env.locals:=Nat.ne_of_gt (Nat.lt_succ_of_lt I2.lt)
   have finP:=fin.pins_of (pins':=pins ++ [(s2.heap.objs.size + 1,oC)]) fun p hp=>(List.mem_append.mp hp).elim (fun z=>fin.pin p (List.mem_append_right _ z)) fun z=>by
    have z' : p = (s2.heap.objs.size + 1,oC):=by simpa using z
    subst z'
    exact ⟨hoC,hCn,neL,I2.nofs (Nat.le_succ _),fun v z=>by rw [hdC] at z;cases z⟩
   have hpg:=pg_name (pos:=py) hNn hiy hxy hfy _ _ σ H5 (.ref s2.heap.objs.size) (.ref s2.heap.objs.size) D.nx finP rfl q
   refine thn hpg fun _ s7 ⟨σ7,H7,I7,q7⟩=>?_
   obtain ⟨g7,hC7,_⟩:=I7.pin (s2.heap.objs.size + 1,oC) (List.mem_append_right _ (List.mem_append_right _ (by simp)))
   refine ⟨m6,hn6.at' fun o e=>?_,fun h' sb=>⟨σ7,H7,?_,q7⟩⟩
   ·rw [hoC] at e
    cases e
    exact g7
   ·refine Inv.turned (t':=s7.toks) I7.unpinned (fun b o hb e=>sb.extBut b o hb e) hC7 neL (.inr (Nat.le_trans I2.sz (Nat.le_succ _))) (fun x c e z=>?_) fun p hp z=>?_
    ·obtain ⟨v,qq⟩:=I2.cell x c e
     exact absurd (Nat.lt_succ_of_lt qq.lt) (by rw [z];exact Nat.lt_irrefl _)
    ·exact absurd (Nat.lt_succ_of_lt (Heap.lt_size (I2.pin p hp).1)) (by rw [z];exact Nat.lt_irrefl _)
  ·have item:=T.item X' ep ew eK ecalm i [] s5 _ H5 (notedBy (model X.prog X.w) X.A X'.env fun e s'=>compPost (model X.prog X.w) X.A X.xe (some (assign (.Name y py) X.env)) (fun _ s'=>SP X pins D .next s') (.ref s2.heap.objs.size) (s2.heap.objs.size + 1) (.error e) s') I5 (fpok fr5) st5 go
   rw [eA] at item
   refine thn item fun r s6 ⟨u,hr,h6⟩=>?_
   subst hr
   refine thn h6 fun _ s7 ⟨x,H7,I7,r7,y7,st7,fr7⟩=>?_
   have I7':=I7.pinned (fpok fr7) (T.obj _ _ st7)
   have hg':=hg X' cc _ s7 _ H7 x u _ I7' r7 (step x H7 y7)
   rw [ep,ew,eA,exe] at hg'
   refine wpAny_mono hg' (fun _ s8 ⟨σ8,H8,I8,ext8,q8⟩=>?_) fun _ _ z=>False.elim z
   have back : ∀ {ys' : List V} {H9 : Hp} {s9 : Shared} {σ9 : St},Ext (σ ++ List.replicate own.length none) σ9->Inv X' ([] ++ pinsAt fp s7.heap) σ9 H9 s9->(∃ n',n' < n/\W (i + 1) n' ys' H9)->∃ m,m < n/\∃ i ys H',Inv X' [] (σ ++ List.replicate own.length none) H' s9/\tn i s9.heap/\(∀ b ∈ fp,H' b = none)/\W i m ys H':=by
    rintro ys' H9 s9 σ9 ex9 I9 ⟨n',hn',w9⟩
    refine ⟨n',hn',i + 1,ys',H9,(I9.weak ex9.1.symm ex9.2).unpinned,T.keep _ _ _ st7 fun b hb o e=>(I9.pin (b,o) (List.mem_append_right _ (List.mem_append_right _ (mem_pinsAt hb e)))).1,fun b hb=>?_,w9⟩
    obtain ⟨o,e,d⟩:=T.obj _ _ st7 b hb
    exact (I9.pin (b,o) (List.mem_append_right _ (List.mem_append_right _ (mem_pinsAt hb e)))).2.1
   have hc':=hc X' cc _ s8 _ H8 _ I8 q8
   rw [ep,ew,eA,exe] at hc'
   refine wpAny_mono hc' (fun b s9 ⟨H9,I9,q9⟩=>?_) fun _ _ z=>False.elim z
   cases b with
   | false=>
    simp only [Bool.false_eq_true,if_false] at q9 ⊢
    exact back ext8 I9 q9
   | true=>
    simp only [if_true] at q9 ⊢
    have he':=he X' cc _ s9 _ H9 _ I9 q9
    rw [ep,ew,eA,exe] at he'
    refine wpAny_mono he' (fun yv s10 ⟨y,H10,I10,r10,p10,q10⟩=>?_) fun _ _ z=>False.elim z
    have hm:=mt_append (X:=X') _ s10 σ8 H10 (.ref s2.heap.objs.size) [y] (.ref s2.heap.objs.size) [yv] (fun _ H11=>∃ n',n' < n/\W (i + 1) n' (ys ++ [y]) H11) I10 rfl (.cons r10 .nil) ⟨s2.heap.objs.size,ys,y,rfl,rfl,p10,hlen,q10⟩
    rw [ep,ew,eA,exe] at hm
    exact wpAny_mono hm (fun _ s11 ⟨_,H11,I11,_,q11⟩=>back ext8 I11 q11) fun _ _ z=>False.elim z
 have l4:=loop _ rfl
 rw [eenv] at l4
 exact codeAny_compStart_list l4 (T.self X.A 0 _ _ _ st4 l4)
end
end L2
end
section
set_option maxRecDepth 100000
namespace Mi
open PySem L2 PySem.SeqAt PySem.Spec PyProof.Rows
variable [KFrag]
variable {own : Nat->Bool}
section
variable {X : Cx} {a b c e : Expr} {pos pos' : Pos} {fa fb fc fe : FE} {ra rb rc re : Bool} {ga gb gc : FT} {f g : FS} {st : Stmt} {rest s1 s2 : List Stmt}
variable {scope : Scope} {ownN : List Str} {elt iter tg : Expr} {it : FI} {t : D->Res (List D)} {gt : TG}
theorem ms_compif {n m : Nat} {y : Str} {py pos2 : Pos} {iy : Nat} {o : Bool} (S : CompSc X.N X.env.scope scope ownN) (hn : X.N.length = n) (hm : ownN.length = m) (hcalm : X.calm = true) (hi : PI X tg iter (gI X.K it)) (ht : TgC gt t n m) (hg : ∀ X',CompCx X X' scope ownN->PG X' tg gt) (hc : ∀ X',CompCx X X' scope ownN->PT X' c (gT gc)) (he : ∀ X',CompCx X X' scope ownN->PE X' elt (gE fe re))
  (hs : ∀ x,foldedSetIterable iter X.env x = pure x) (ho : own iy = o) (hNn : X.N.Nodup) (hiy : X.N[iy]? = some y) (hxy : Loc X.env.scope y) (hfy : X.fn y = true\/X.env.scope.names.lookup y = some .local) (hsw : swapsWith (.ListComp elt [⟨tg,iter,[c],0⟩] scope pos) (some (.Name y py)) pos2.line X.env = pure true) :
  PS X (.Assign [.Name y py] (.ListComp elt [⟨tg,iter,[c],0⟩] scope pos) pos2) (tS own (sSet o iy (bComp n it t gc fe re) true)):=by
 intro pins s σ H D I h
 subst hm
 refine ps_compif S hcalm hi hg hc he hs hNn hiy hxy hfy hsw pins s σ H D I ?_
 exact comp_core ht (fun σ H Q h=>h) (I.len.trans hn) (set_imp ho h)
noncomputable def TgS (own : Nat->Bool) (g : TG) (t : D->List D->Res (List D)) : Prop:=∀ (v : V) (d : D) (ρ ρ' : List D) (σ : L2.St) (H : Hp) (Q : L2.St->Hp->Prop),ES own H σ ρ->Rep (fun a=>¬ Own own σ a) H v d->t d ρ = .ok ρ'->
 (∀ σ',ES own H σ' ρ'->(∀ a,Own own σ' a ↔ Own own σ a)->Q σ' H)->g v σ H Q
theorem tgs_one {i : Nat} (ho : own i = false) : TgS own (gName i) (tg1 i):=fun v d ρ ρ' σ H Q E r h q=>by
 cases h
 exact q _ (E.set ho r) fun a=>own_set ho a
theorem ItQ.ku {K : PySem.W.Frag} {J : It} {items : List D} {σ σ' : L2.St} {H H' : Hp} {ρ : List D} (h : ItQ K (fun a=>¬ Own own σ a) J H items) (k : KU own σ H σ' H') (E : ES own H σ ρ) : ItQ K (fun a=>¬ Own own σ' a) J H' items:=by
 cases h with
 | lst a e r=>exact .lst a e (k.rep E r)
 | tup a e r=>exact .tup a e (k.rep E r)
 | rng lo n e r=>exact .rng lo n e r
 | chs x e r=>exact .chs x e r
 | enm a ds e r h=>exact .enm a ds e (k.rep E r) h
 | enf m a ds e r h=>exact .enf m a ds e (k.rep E r) h
 | zip a b ds es e r q n h=>exact .zip a b ds es e (k.rep E r) (k.rep E q) n h
theorem for_core {K : PySem.W.Frag} {g : TG} {t : D->List D->Res (List D)} {body : FS} {D' : Ends} {J : It} {items : List D} {σ : L2.St} {H1 : Hp} {ρ : List D} {fl : Fl} (tg : TgS own g t) (E : ES own H1 σ ρ) (hJ : ItQ K (fun a=>¬ Own own σ a) J H1 items) (hf : forS t body items ρ = .ok fl) (q : kS own D' σ H1 fl) :
  ∃ W : Nat->Nat->L2.St->Hp->Prop,(∃ m,W 0 m σ H1)/\∀ i m σ H,W i m σ H->
   (J.stop i H/\D'.nx σ H)\/(J.go i H/\∃ N : L2.St->Hp->Prop,(∀ σ' H',N σ' H'->∃ m',m' < m/\W (i + 1) m' σ' H')/\∀ x H',J.yld i H x H'->g x σ H' fun σ2 H2=>tS own body { D' with nx:=N,ct:=N,bk:=D'.nx } σ2 H2):=by
 refine ⟨fun i m σ' H'=>m = items.length - i/\i<=items.length/\ItQ K (fun a=>¬ Own own σ' a) J H' items/\∃ ρ',ES own H' σ' ρ'/\forS t body (items.drop i) ρ' = .ok fl/\kS own D' σ' H' fl,⟨items.length,rfl,Nat.zero_le _,hJ,ρ,E,hf,q⟩,?_⟩
 rintro i m σ' H' ⟨rfl,hi,hJ',ρ',E',hf',q'⟩
 rcases Nat.lt_or_ge i items.length with hlt | hge
 ·refine .inr ?_
  have e : items[i]? = some items[i]:=List.getElem?_eq_getElem hlt
  obtain ⟨g1,g2⟩:=hJ'.go e
  rw [List.drop_eq_getElem_cons hlt] at hf'
  obtain ⟨ρ1,h1,hf2⟩:=bindE hf'
  obtain ⟨r,h2,hf3⟩:=bindE hf2
  refine ⟨g1,fun σ2 H2=>ItQ K (fun a=>¬ Own own σ2 a) J H2 items/\∃ ρ',ES own H2 σ2 ρ'/\forS t body (items.drop (i + 1)) ρ' = .ok fl/\kS own D' σ2 H2 fl,fun σ2 H2 ⟨n1,n2⟩=>⟨items.length - (i + 1),by lia,rfl,hlt,n1,n2⟩,fun x H2 hy=>?_⟩
  obtain ⟨sH,rx⟩:=g2 x H2 hy
  have ks : KU own σ' H' σ' H2:=fun a o e n=>⟨sH a o e,n⟩
  have hJ':=hJ'.ku ks E'
  have q':=q'.step ks
  have E':=E'.same sH
  refine tg x items[i] ρ' ρ1 σ' H2 _ E' rx h1 fun σ2 E2 hO=>?_
  have k0 : KU own σ' H2 σ2 H2:=fun a o e n=>⟨e,by rw [hO];exact n⟩
  have hJ2:=hJ'.ku k0 E'
  have q2:=q'.step k0
  refine ⟨ρ1,r,E2,h2,?_⟩
  cases r with
  | nx ρ2=>exact fun σ3 H3 k3 E3=>⟨hJ2.ku k3 E2,ρ2,E3,hf3,q2.step k3⟩
  | ct ρ2=>exact fun σ3 H3 k3 E3=>⟨hJ2.ku k3 E2,ρ2,E3,hf3,q2.step k3⟩
  | bk ρ2=>cases hf3;exact fun σ3 H3 k3 E3=>q2 σ3 H3 k3 E3
  | rt d=>cases hf3;exact q2
 ·refine .inl ⟨hJ'.stop hge,?_⟩
  rw [List.drop_eq_nil_of_le hge] at hf'
  cases hf'
  exact q' σ' H' (fun a o e n=>⟨e,n⟩) E'
theorem ms_forV {tg : Expr} {body : List Stmt} {g : TG} {t : D->List D->Res (List D)} {i : Nat} {x : Str} {px : Pos} {fb : FS} (ho : own i = false) (hp : PassesOwn (model X.prog X.w) X.A X.env X.xe) (hc : X.calm = true) (hN : X.N[i]? = some x) (hv : Vis X.env.scope x) (ht : TgS own g t) (hg : PG X tg g) (hb : PSs X body (tS own fb))
  (hs : ∀ z,foldedSetIterable (.Name x px) X.env z = pure z:=by intro _;rfl) (hd : (x == ("__debug__" : Str)) = false:=by decide) (hcd : (x == ("__classdict__" : Str)) = false:=by decide) : PS X (.For tg (.Name x px) body [] pos) (tS own (sForV i t fb)):=PS.imp (ps_for hp hc (mi_var hN hv hd hcd) hg hb hs) fun D' σ H ⟨ρ,fl,E,h,q⟩=>by
 obtain ⟨d,h1,h⟩:=bindE h
 obtain ⟨items,h2,h3⟩:=bindE h
 obtain ⟨v,hv,r,e⟩:=E.er.var h1
 have hne : ρ.getD i .undef ≠ .undef:=fun z=>by
  rw [z] at e
  subst e
  exact Rep.undef r
 obtain ⟨w,hw,hr⟩:=E.at_ i hne
 rw [hv] at hw
 cases hw
 have r2:=hr ho
 rw [e] at r2
 exact ⟨v,d,items,hv,r,h2,fun J hJ=>for_core ht E (hJ _ r2) h3 q⟩
theorem es_start {own : Nat->Bool} {N ps : List Str} {vs : List V} {ds : List D} {H : Hp} (hst : start N vs = vs.map some ++ List.replicate (N.length - ps.length) none) (hl : ds.length = ps.length) (r : Reps All H vs ds) (hown : ∀ i,i < ps.length->own i = false) (noown : ∀ a,¬ Own own (start N vs) a) : ES own H (start N vs) (ds ++ List.replicate (N.length - ps.length) .undef):=by
 refine ⟨by rw [hst];simp [r.length],fun i hi=>?_,fun i v hi hv=>?_⟩
 ·have hlt : i < ds.length:=Nat.lt_of_not_le fun hge=>hi (by
   rw [List.getD_eq_getElem?_getD,List.getElem?_append_right hge,List.getElem?_replicate]
   split <;> rfl)
  have e : (ds ++ List.replicate (N.length - ps.length) D.undef).getD i .undef = ds[i]:=by
   rw [List.getD_eq_getElem?_getD,List.getElem?_append_left hlt,List.getElem?_eq_getElem hlt]
   rfl
  obtain ⟨v,g1,g2⟩:=r.get (i:=i) (d:=ds[i]) (by simp [hlt])
  refine ⟨v,by rw [hst,List.getElem?_append_left (by simp [r.length,hlt])];simp [g1],fun _=>?_⟩
  rw [e]
  exact g2.mono fun a _=>noown a
 ·exfalso
  rw [hst] at hv
  by_cases h : i < ps.length
  ·rw [hown i h] at hi;cases hi
  ·rw [List.getElem?_append_right (by simp [r.length,hl];lia)] at hv
   rw [List.getElem?_replicate] at hv
   split at hv <;> cases hv
theorem fn_body {own : Nat->Bool} {N ps : List Str} {f : FS} {vs : List V} {H : Hp} {Q : VK} {E : XK} (hown : ∀ i,i < ps.length->own i = false) (h0 : spD (fnS ps.length N.length f) ps.length vs H Q E) : tS own f { nx:=fun _ H'=>Q .non H',rt:=Q } (start N vs) H:=by
 obtain ⟨ds,d,hl,r,h,q⟩:=h0
 ·obtain ⟨fl,h1,h2⟩:=bindE h
  have hst : start N vs = vs.map some ++ List.replicate (N.length - ps.length) none:=by
   show vs.map some ++ List.replicate (N.length - vs.length) none = _
   rw [r.length,hl]
  have noown : ∀ a,¬ Own own (start N vs) a:=fun a ⟨i,hi,e⟩=>by
   rw [hst] at e
   by_cases h : i < ps.length
   ·rw [hown i h] at hi;cases hi
   ·rw [List.getElem?_append_right (by simp [r.length,hl];lia)] at e
    rw [List.getElem?_replicate] at e
    split at e <;> cases e
  have E0 : ES own H (start N vs) (ds ++ List.replicate (N.length - ps.length) .undef):=es_start hst hl r hown noown
  refine ⟨_,fl,E0,h1,?_⟩
  have sm : ∀ {σ' : L2.St} {H' : Hp},KU own (start N vs) H σ' H'->Same H H':=fun k a o e=>(k a o e (noown a)).1
  cases fl with
  | nx ρ'=>cases h2;exact fun σ' H' k E'=>q .non H' (sm k) .non fun _=>.non
  | rt d'=>
   cases h2
   refine fun v H' hk rp=>q v H' (fun a o e=>hk a o e (noown a)) rp.all fun _=>rp.mono fun a ha=>?_
   rcases ha with ha | ha
   ·exact absurd ha (noown a)
   ·exact ha
  | bk ρ'=>cases h2
  | ct ρ'=>cases h2
theorem fn_ok {P : Program} {w : World} {K : PySem.W.Frag} {mg : Str->Option Value} {base : Heap} {x qual : Str} {st : Stmt} {fad : Addr} {fd : FuncData} {N ps : List Str} {k : Nat} {f : FS} (F : Fun K x qual st fad fd) (S : FnScope N ps (defScope st)) (own : Nat->Bool) (hown : ∀ i,i < ps.length->own i = false) (hNl : ps.length<=N.length)
  (hbody : ∀ (cdv : Value) (A : Around) (outer : List Env) (s : Shared) (H : Hp) (E : XK),Room k (A.deeper (envOfC qual (defScope st) s.heap.objs.size fad cdv))->PSs (cxOf CX0 P w K mg base N qual (defScope st) fad cdv A outer s H E).nox (defBody st) (tS own f)) : FnOk P w K mg base CX0 (k + 1) fad fd ps (spD (fnS ps.length N.length f) ps.length):=
 F.ok S (fun vs H Q E h=>spD_len h) fun cdv A outer s H vs Q E hr h=>⟨_,hbody cdv A outer s H E hr,fn_body hown h⟩
end
end Mi
end
section
set_option maxRecDepth 100000
namespace Mi
open PySem L2 PySem.SeqAt PySem.Spec PyProof.Rows
variable [KFrag]
structure CRest where
 s₀ : Shared
 H₀ : Hp
 env : Env
 outer : List Env
 stack : List Env
 ex : List Addr
 fn : Str->Bool
 pn : List (Addr × Obj)
noncomputable abbrev mkC (X : Cx) (scope : Scope) (ownN : List Str) (y : CRest) : Cx:=
 { X with N:=X.N.map (hideN ownN) ++ ownN,s₀:=y.s₀,H₀:=y.H₀,env:={ y.env with scope:=relabel scope X.env },outer:=y.outer,stack:=y.stack,ex:=y.ex,fn:=y.fn,pn:=y.pn,xe:=fun _ _=>False }
theorem mkC_of {X X' : Cx} {scope : Scope} {ownN : List Str} (cc : CompCx X X' scope ownN) : ∃ y,X' = mkC X scope ownN y:=by
 refine ⟨⟨X'.s₀,X'.H₀,X'.env,X'.outer,X'.stack,X'.ex,X'.fn,X'.pn⟩,?_⟩
 obtain ⟨h1,h2,h3,h4,h5,h6,h7,h8,h9,h10⟩:=cc
 cases X' with
 | mk a b c d e f g h i j k l m n o p q=>
  cases j
  dsimp only at *
  subst h1 h2 h3 h4 h5 h6 h7 h8 h9 h10
  rfl
section
variable {own : Nat->Bool} {X : Cx} {scope : Scope} {ownN : List Str} {elt iter tg c : Expr} {it : FI} {t : D->Res (List D)} {g : TG} {gc : FT} {fe : FE} {re : Bool} {pos : Pos} {n m : Nat}
theorem me_comp' (S : CompSc X.N X.env.scope scope ownN) (hn : X.N.length = n) (hm : ownN.length = m) (hcalm : X.calm = true) (hi : PI X tg iter (gI X.K it)) (ht : TgC g t n m) (hg : ∀ y,PG (mkC X scope ownN y) tg g) (he : ∀ y,PE (mkC X scope ownN y) elt (gE fe re))
  (hs : ∀ x,foldedSetIterable iter X.env x = pure x) : PE X (.ListComp elt [⟨tg,iter,[],0⟩] scope pos) (gE (bComp n it t bTrue fe re) true):=
 me_comp S hn hm hcalm hi ht (fun X' cc=>by obtain ⟨y,rfl⟩:=mkC_of cc;exact hg y) (fun X' cc=>by obtain ⟨y,rfl⟩:=mkC_of cc;exact he y) hs
theorem ms_compif' {y : Str} {py pos2 : Pos} {iy : Nat} {o : Bool} (S : CompSc X.N X.env.scope scope ownN) (hn : X.N.length = n) (hm : ownN.length = m) (hcalm : X.calm = true) (hi : PI X tg iter (gI X.K it)) (ht : TgC g t n m) (hg : ∀ y,PG (mkC X scope ownN y) tg g) (hc : ∀ y,PT (mkC X scope ownN y) c (gT gc)) (he : ∀ y,PE (mkC X scope ownN y) elt (gE fe re))
  (hs : ∀ x,foldedSetIterable iter X.env x = pure x) (ho : own iy = o) (hNn : X.N.Nodup) (hiy : X.N[iy]? = some y) (hxy : Loc X.env.scope y) (hfy : X.fn y = true\/X.env.scope.names.lookup y = some .local) (hsw : swapsWith (.ListComp elt [⟨tg,iter,[c],0⟩] scope pos) (some (.Name y py)) pos2.line X.env = pure true) :
  PS X (.Assign [.Name y py] (.ListComp elt [⟨tg,iter,[c],0⟩] scope pos) pos2) (tS own (sSet o iy (bComp n it t gc fe re) true)):=
 ms_compif S hn hm hcalm hi ht (fun X' cc=>by obtain ⟨y,rfl⟩:=mkC_of cc;exact hg y) (fun X' cc=>by obtain ⟨y,rfl⟩:=mkC_of cc;exact hc y) (fun X' cc=>by obtain ⟨y,rfl⟩:=mkC_of cc;exact he y) hs ho hNn hiy hxy hfy hsw
end
noncomputable def sBad : FS:=fun _=>.bad
theorem mss_bad {X : Cx} {own : Nat->Bool} {st : List Stmt} : PSs X st (tS own sBad):=fun pins s σ H D I h=>by
 obtain ⟨_,_,_,h,_⟩:=h
 cases h
noncomputable def CalOk (P : Program) (w : World) (K : PySem.W.Frag) (mg : Str->Option Value) (base : Heap) (k : Nat) (x : Str) (n : Nat) (f : List D->Res D) : Prop:=
 ∃ (fad : Addr) (fd : FuncData) (ps : List Str),FnOk P w K mg base CX0 k fad fd ps (spD f n)/\mg x = some (.ref fad)/\PySem.W.keepIn K (.ref fad) = true/\Binds K fd ps []
section
variable {X : Cx} {e : Expr} {es : List Expr} {pos p : Pos} {fs : FA} {rr : Bool} {x : Str} {k n : Nat} {f : List D->Res D}
theorem me_callC {k' : Nat} (C : CalOk X.prog X.w X.K X.mg X.base k x n f) (hr : Room k' X.A) (hkk : k<=k') (hg : Gl X x) (ha : PA X (e :: es) (gA fs rr)) (hdb : (x == ("__debug__" : Str)) = false:=by decide) (he : starEach (e :: es) X.env = (false,eval e X.env) :: starEach es X.env:=by rfl) (hpl : (backTo pos (starEach es X.env)).any (·.1) = false:=by rfl) :
  PE X (.Call (.Name x p) (e :: es) [] pos) (gE (bCall (argN n f) fs) true):=by
 obtain ⟨fad,fd,ps,F,hm,hk,hb⟩:=C
 exact me_call F (hr.mono hkk) hg hm hk hb ha hdb he hpl
theorem cal_mk {P : Program} {w : World} {K : PySem.W.Frag} {mg : Str->Option Value} {base : Heap} {st : Stmt} {fad : Addr} {fd : FuncData} {N ps : List Str} {fs : FS} (F : Fun K x x st fad fd) (hm : mg x = some (.ref fad)) (hb : Binds K fd ps []) (S : FnScope N ps (defScope st)) (own : Nat->Bool) (hown : ∀ i,i < ps.length->own i = false) (hNl : ps.length<=N.length)
  (hbody : ∀ (cdv : Value) (A : Around) (outer : List Env) (s : Shared) (H : Hp) (E : XK),Room k (A.deeper (envOfC x (defScope st) s.heap.objs.size fad cdv))->PSs (cxOf CX0 P w K mg base N x (defScope st) fad cdv A outer s H E).nox (defBody st) (tS own fs)) : CalOk P w K mg base (k + 1) x ps.length (fnS ps.length N.length fs):=
 ⟨fad,fd,ps,fn_ok F S own hown hNl hbody,hm,F.kp,hb⟩
end
theorem hu20 {A : Around} {k : Nat} (hr : Room k A) : A.units + 20 < cLine:=Nat.lt_of_le_of_lt (Nat.add_le_add_left (by decide : 20<=64) _) hr.units
structure Bt (mg : Str->Option Value) : Prop where
 len : mg "len" = none
 min : mg "min" = none
 max : mg "max" = none
 list : mg "list" = none
 tuple : mg "tuple" = none
 sorted : mg "sorted" = none
 range : mg "range" = none
 isi : mg "isinstance" = none
 int : mg "int" = none
 bool : mg "bool" = none
 str : mg "str" = none
 dict : mg "dict" = none
 all : mg "all" = none
 enum : mg "enumerate" = none
 sum : mg "sum" = none
 zip : mg "zip" = none
 abs : mg "abs" = none
 reversed : mg "reversed" = none
theorem vb_len : bootBuiltins "len" = some (.builtin "len"):=by decide +kernel
theorem vb_isinstance : bootBuiltins "isinstance" = some (.builtin "isinstance"):=by decide +kernel
theorem vb_tuple : bootBuiltins "tuple" = some (.type "tuple"):=by decide +kernel
theorem vb_str : bootBuiltins "str" = some (.type "str"):=by decide +kernel
theorem ints_rep {P : Addr->Prop} {H : Hp} : ∀ ns : List Int,Reps P H (ns.map V.int) (ns.map D.int)
 | []=>.nil
 | n :: ns=>.cons (.int n) (ints_rep ns)
end Mi
namespace Mi
open PySem L2
theorem script_sp {K : PySem.W.Frag} {f : List D->Res D} {H : Hp} {a : Addr} {ns : List Int} {E : XK} (main : ∀ ns : List Int,ns.length<=63->f [.scr (ns.map D.int)] = .ok (.bl true)) (hl : ns.length<=63) (hO : Only H) (hS : SqL K H a (ns.map V.int)) : @spD ⟨K⟩ f 1 [.ref a] H (fun v _=>v = .bl true) E:=by
 letI : KFrag:=⟨K⟩
 refine ⟨[.scr (ns.map D.int)],.bl true,rfl,.cons (.frz ?_ (ints_rep ns)) .nil,main ns hl,fun v H' s r n=>by cases r;rfl⟩
 rcases hS with (h | ⟨o,h⟩) | h
 ·rcases hO a with z | ⟨o,xs,z⟩
  ·rw [h] at z;cases z
  ·rw [h] at z;cases z
 ·exact .inl ⟨o,h⟩
 ·exact .inr h
end Mi
end
section
set_option maxRecDepth 100000
namespace Mi
open PySem L2 PySem.SeqAt PySem.Spec PyProof.Rows
noncomputable def mulX : D->D->Res D
 | .str x,.int n=>if decide (0<=n) && decide (n<=100000) && decide (x.length * n.toNat<=lim) then .ok (.str (Txt.mul x n)) else .bad
 | a,b=>binD .mul a b
noncomputable def slcX : D->Option Int->Option Int->Res D
 | .str x,lo,hi=>if decide (x.length<=lim) then .ok (.str (Txt.slice x lo hi)) else .bad
 | d,lo,hi=>slcD d lo hi
noncomputable def bSlX (a : FE) (lo hi : List D->Res (Option Int)) : FE:=fun ρ=>do let x <- a ρ;let l <- lo ρ;let h <- hi ρ;slcX x l h
noncomputable def itemsX : D->Res (List D)
 | .str x=>if decide (x.length<=lim) then .ok (charsD x) else .bad
 | d=>itemsD d
noncomputable def bItemsX (a : FE) (fr : Bool) : FI:=fun ρ=>do let x <- a ρ;let xs <- itemsX x;pure (xs,fr || x.pure)
noncomputable def enumI : D->Res (List D)
 | .lst xs=>.ok xs
 | _=>.bad
noncomputable def bEnum (a : FE) (fr : Bool) : FI:=fun ρ=>do let x <- a ρ;let xs <- enumI x;pure (enumL xs,fr || x.pure)
noncomputable def textsD : List D->Option (List Str)
 | []=>some []
 | .str x :: r=>(textsD r).map (x :: ·)
 | _ :: _=>none
noncomputable def joinM : D->List D->Res D
 | .str sep,[.lst ds]=>match textsD ds with
  | some ts=>if JoinOk sep ts then .ok (.str (Txt.join sep ts)) else .bad
  | none=>.bad
 | _,_=>.bad
noncomputable def boolsD : List D->Option (List Bool)
 | []=>some []
 | .bl x :: r=>(boolsD r).map (x :: ·)
 | _ :: _=>none
noncomputable def allD : List D->Res D
 | [.lst ds]=>match boolsD ds with
  | some bs=>.ok (.bl (bs.all id))
  | none=>.bad
 | _=>.bad
variable [KFrag]
section
variable {X : Cx}
theorem om_mulX : OpR X (binaryOp .Mult) (r2 mulX true):=by
 intro pins s σ H x y v u Q I rx ry ⟨a,b,d,p,q,e,k⟩
 by_cases hs : ∃ z n,a = .str z/\b = .int n
 ·obtain ⟨z,n,rfl,rfl⟩:=hs
  simp only [mulX] at e
  split at e
  ·rename_i hl
   cases e
   simp only [Bool.and_eq_true,decide_eq_true_eq] at hl
   obtain ⟨⟨h0,h1⟩,h2⟩:=hl
   cases p
   cases q
   obtain ⟨t,rfl⟩:=rx
   obtain ⟨t',rfl⟩:=ry
   have hz : z.length * n.toNat<=sizeLine:=Nat.le_trans h2 (by rw [sizeLine_eq];decide)
   refine SB.mul ⟨?_,fun h3 _=>?_,fun _ _=>?_⟩ fun t2 k2=>⟨.str _,H,I.tok k2,⟨t2,rfl⟩,k.str⟩
   ·rw [decide_eq_false (by lia),decide_eq_false (by lia)]
    rfl
   ·have hn : 0 < n:=by lia
    have h4 : (z.length : Int) * n<=2 ^ 63 - 1:=by
     have h5 : ((z.length * n.toNat : Nat) : Int)<=1000000:=by
      have : lim = 1000000:=by unfold lim;exact Eq.refl _
      lia
     rw [Int.natCast_mul,Int.toNat_of_nonneg h0] at h5
     lia
    have h6:=(Int.le_ediv_iff_mul_le hn).mpr h4
    lia
   ·unfold Builtin.Str.tooLong
    exact decide_eq_false (by lia)
  ·cases e
 ·have he : mulX a b = binD .mul a b:=by
   unfold mulX
   split
   ·exact absurd ⟨_,_,rfl,rfl⟩ hs
   ·rfl
  rw [he] at e
  exact om_mul pins s σ H x y v u Q I rx ry ⟨a,b,d,p,q,e,k⟩
theorem part_of {v : Value} {o : Option Int} (h : IsPart v o) : ∃ l : Option (Int × Tok),partValue l = v/\l.map (·.1) = o:=by
 cases h with
 | none=>exact ⟨none,rfl,rfl⟩
 | int i t=>exact ⟨some (i,t),rfl,rfl⟩
theorem om_slX (hK : KFrag.K = X.K) : SlR X (fun x lo hi H Q=>∃ a d,Rep All H x a/\slcX a lo hi = .ok d/\kR H d true Q):=by
 intro pins s σ H x v vl vu lo hi sl Q I rx hs pl pu ⟨a,d,p,e,k⟩
 by_cases hz : ∃ z,a = .str z
 ·obtain ⟨z,rfl⟩:=hz
  simp only [slcX] at e
  split at e
  ·rename_i hl
   cases e
   cases p
   obtain ⟨t,rfl⟩:=rx
   obtain ⟨l,e1,e2⟩:=part_of pl
   obtain ⟨m,e3,e4⟩:=part_of pu
   subst e1 e2 e3 e4
   refine ⟨"str",_,F.slot_str_getitem.lookup,typeIs_str _ _ _,?_⟩
   obtain ⟨o,ho,hc,hd⟩:=hs
   refine wpAny_getItem_str_slice (l:=l) (u:=m) (st:=none) ⟨o,ho,hc,hd⟩ rfl ?_
   have hle : (Txt.slice z (l.map (·.1)) (m.map (·.1))).length<=sizeLine:=Nat.le_trans (Txt.slice_le ..) (lim_line hl)
   have q : ∀ (t' : Tok) (k2 : Nat),EP X pins σ Q (.str (Txt.slice z (l.map (·.1)) (m.map (·.1))) t') { s with toks:=k2 }:=fun t' k2=>⟨.str _,H,I.tok k2,⟨t',rfl⟩,k.str⟩
   show Made.post (if ((1 : Int) == 1 && (Builtin.Str.strSliceIndices (l.map (·.1)) (m.map (·.1)) 1 z.length).length == z.length) = true then .val (.str z t) else .str ⟨((Builtin.Str.strSliceIndices (l.map (·.1)) (m.map (·.1)) 1 z.length).filterMap (z.cps[·]?)).toArray⟩) _ s
   unfold Txt.slice at hle q
   split
   ·rename_i hh
    have:=q t s.toks
    rw [if_pos hh] at this
    exact this
   ·rename_i hh
    rw [if_neg hh] at hle
    have:=q s.toks (s.toks + 1)
    rw [if_neg hh] at this
    exact ⟨hle,this⟩
  ·cases e
 ·have he : slcX a lo hi = slcD a lo hi:=by
   unfold slcX
   split
   ·exact absurd ⟨_,rfl⟩ hz
   ·rfl
  rw [he] at e
  exact om_sl hK pins s σ H x v vl vu lo hi sl Q I rx hs pl pu ⟨a,d,p,e,k⟩
theorem me_slX {e : Expr} {fe : FE} {re : Bool} {pos : Pos} {lo hi : Option Expr} {p2 : Pos} {fl fh : List D->Res (Option Int)} (hK : KFrag.K = X.K) (he : PE X e (gE fe re)) (hl : PO X lo (gO fl)) (hh : PO X hi (gO fh)) : PE X (.Subscript e (.Slice lo hi none p2) pos) (gE (bSlX fe fl fh) true):=
 PE.imp (pe_slice (om_slX hK) he hl hh) fun σ H Q ⟨ρ,d,E,h,q⟩=>by
  obtain ⟨x,h1,h⟩:=bindE h
  obtain ⟨l,h2,h⟩:=bindE h
  obtain ⟨u,h3,h⟩:=bindE h
  exact ⟨ρ,x,E,h1,fun v H1 s1 r1 _=>⟨ρ,l,E.same s1,h2,fun H2 s2=>⟨ρ,u,E.same (s1.trans s2),h3,fun H3 s3=>⟨x,d,r1.same (s2.trans s3),h,q.imp ((s1.trans s2).trans s3) id⟩⟩⟩⟩
theorem texts_of {P : Addr->Prop} {H : Hp} : ∀ {xs : List V} {ds : List D} {its : List Value} {ts : List Str},Reps P H xs ds->Vals xs its->textsD ds = some ts->∃ l : List (Str × Tok),its = strValues l/\l.map (·.1) = ts
 | [],[],[],_,_,_,h=>by cases h;exact ⟨[],rfl,rfl⟩
 | _,_,_,_,.cons (d:=d) r t,.cons rv tv,h=>by
  cases d with
  | str z=>
   obtain ⟨ts,h1,h2⟩:=Option.map_eq_some_iff.mp h
   cases r
   obtain ⟨tk,rfl⟩:=rv
   obtain ⟨l,e1,e2⟩:=texts_of t tv h1
   refine ⟨(z,tk) :: l,?_,?_⟩
   ·rw [e1];rfl
   ·rw [<- h2,<- e2];rfl
  | _=>simp only [textsD] at h;cases h
theorem mt_join : MtR X "str.join" (rm joinM true):=by
 intro pins s σ H x xs v us Q I rv vr ⟨a,ds,d,ra,rs,h,k⟩
 unfold joinM at h
 split at h
 ·split at h
  ·rename_i ts hts
   split at h
   ·rename_i hok
    cases h
    obtain ⟨vv,uu,rfl,rfl,r,rk⟩:=one_of rs vr
    obtain ⟨l,ys,rfl,hl,rr⟩:=r.lstAt (K:=X.K)
    cases rk
    cases ra
    obtain ⟨t,rfl⟩:=rv
    obtain ⟨its,vr',pl⟩:=lst_of I hl
    obtain ⟨l2,e1,e2⟩:=texts_of rr vr' hts
    subst e1
    exact SC.join pl e2 hok fun t' k2=>⟨.str _,H,I.tok k2,⟨t',rfl⟩,k.str⟩
   ·cases h
  ·cases h
 ·cases h
theorem joinM_ty {d : D} {ds : List D} {r : D} {v : V} {H : Hp} (h : joinM d ds = .ok r) (rp : Rep All H v d) : tyV X.K "str" v H:=by
 have : ∃ z,d = .str z:=by
  unfold joinM at h
  split at h
  ·exact ⟨_,rfl⟩
  ·cases h
 obtain ⟨z,rfl⟩:=this
 cases rp
 rfl
theorem bools_of {P : Addr->Prop} {H : Hp} : ∀ {xs : List V} {ds : List D} {its : List Value} {bs : List Bool},Reps P H xs ds->Vals xs its->boolsD ds = some bs->its = bs.map Value.bool
 | [],[],[],_,_,_,h=>by cases h;rfl
 | _,_,_,_,.cons (d:=d) r t,.cons rv tv,h=>by
  cases d <;> simp only [boolsD] at h <;> (try (cases h;done))
  obtain ⟨ts,h1,h2⟩:=Option.map_eq_some_iff.mp h
  cases r
  cases rv
  rw [bools_of t tv h1,<- h2]
  rfl
theorem cl_all (hc : X.calm = true) : CallR X (.builtin "all") (rs allD true):=by
 intro pins s σ H xs us Q I vr ⟨ds,d,r,e,k⟩
 unfold allD at e
 split at e
 ·split at e
  ·rename_i bs hbs
   cases e
   obtain ⟨vv,uu,rfl,rfl,r,v⟩:=one_of r vr
   obtain ⟨l,ys,rfl,hl,rr⟩:=r.lstAt (K:=X.K)
   cases v
   obtain ⟨its,vr',pl⟩:=lst_of I hl
   have hb:=bools_of rr vr' hbs
   subst hb
   have hlt : l < s.heap.objs.size:=by obtain ⟨_,e,_⟩:=pl;exact Heap.lt_size e
   refine call_all_walk (wpAny_pyIter_list pl ?_)
   refine ⟨_,_,_,_,_,_,fun i=>bs.getD i true,rfl,Walks.list (A:=X.A.in1) (I.ok.hd hc) _ l (Nat.ne_of_lt hlt) _,⟨⟨_,Heap.get?_push_size _ rfl,rfl,rfl⟩,pl.push _⟩,fun i v s' Q' E' hP hQ=>?_,fun h' tk hk=>?_⟩
   ·have hv : (bs.map Value.bool)[i]? = some v:=by simpa using hP
    rw [List.getElem?_map] at hv
    cases hb : bs[i]? with
    | none=>rw [hb] at hv;cases hv
    | some b=>
     rw [hb] at hv
     cases hv
     have hQ : Q' (bs.getD i true) s':=hQ
     rw [List.getD_eq_getElem?_getD,hb] at hQ
     exact wpAny_truthy_bool hQ
   ·have e : (List.range (bs.map Value.bool).toArray.size).all (fun i=>bs.getD i true) = bs.all id:=by
     rw [List.size_toArray,List.length_map]
     have : bs = (List.range bs.length).map fun i=>bs.getD i true:=by
      apply List.ext_getElem
      ·simp
      ·intro i h1 h2
       simp [h1]
     conv=>rhs;rw [this]
     rw [List.all_map]
     rfl
    rw [e]
    refine ⟨.bl _,H,I.kept fun b o e=>hk b o (fun hb=>?_) (Heap.get?_push_of_some _ e),rfl,k.bl⟩
    rcases List.mem_cons.mp hb with rfl | hb
    ·exact absurd (Heap.lt_size e) (Nat.lt_irrefl _)
    ·cases hb
  ·cases e
 ·cases e
theorem turn_str {P : Program} {w : World} {K : PySem.W.Frag} {tg : Expr} (x : Str) (t : Tok) (it : Addr) : Turn P w K tg (Itss x) [it] it (fun i h=>h.IsStrIter it (strIterType x) x t i) where
 mem:=by simp
 obj:=fun i h st b hb=>by
  have e : b = it:=by simpa using hb
  subst e
  obtain ⟨o,e,c,d⟩:=st
  exact ⟨o,e,fun v z=>by rw [d] at z;cases z⟩
 keep:=fun i h h' st k=>by
  obtain ⟨o,e,r⟩:=st
  exact ⟨o,k it (by simp) o e,r⟩
 item:=by
  intro Y hP hw hK hc i pins s σ H E I hf st hg
  subst hP hw hK
  obtain ⟨f0,f1,f2,f3,f4,f5⟩:=hf it (by simp)
  have hx : x.cps[i]? = some x.cps[i]:=Array.getElem?_eq_getElem hg
  have fin : ∀ (h' : Heap) (ty : String),(["enumerate", "zip", "dict_itemiterator", "dict_reverseitemiterator", "odict_iterator", "itertools.zip_longest", "itertools.pairwise"].contains ty = false)->strIterType x = ty->h'.IsStrIter it ty x t (i + 1)->Heap.SameBut it s.heap h'->
    ∃ u,some (Value.str ⟨#[x.cps[i]]⟩ s.toks) = some u/\wpAny (model Y.prog Y.w) Y.A (letOwnedTupleGo tg (.ref it) u) (fun _ s2=>∃ v H',Inv Y pins σ H' s2/\RelV v u/\(Itss x).yld i H v H'/\s2.heap.IsStrIter it (strIterType x) x t (i + 1)/\∀ b ∈ [it],H' b = none) E { s with heap:=h',toks:=s.toks + 1 }:=by
   intro h' ty hn hty st' sb
   have I1 : Inv Y pins σ H { s with heap:=h',toks:=s.toks + 1 }:=I.turned (fun b o hb e=>(sb.2 b hb).trans e) f0 f1 f3 f4 f5
   obtain ⟨o,e,c,d⟩:=id st'
   exact ⟨_,rfl,go_of (s:={ s with heap:=h',toks:=s.toks + 1 }) e c d hn ⟨.str ⟨#[x.cps[i]]⟩,H,I1,⟨_,rfl⟩,⟨rfl,_,hx,rfl⟩,by rw [hty];exact st',fun b hb=>(hf b hb).1⟩⟩
  cases ha : x.cps.all (· < 128)
  ·have hty : strIterType x = "str_iterator":=by simp [strIterType,ha]
   rw [hty] at st
   exact wpAny_pyNext_wide_item st hx fun h' st' sb=>fin h' _ (by decide) hty st' sb
  ·have hty : strIterType x = "str_ascii_iterator":=by simp [strIterType,ha]
   rw [hty] at st
   exact wpAny_pyNext_ascii_item st hx fun h' st' sb=>fin h' _ (by decide) hty st' sb
 done:=by
  intro Y hP hw hK hc i pins s σ H E I hf st hg
  subst hP hw hK
  obtain ⟨f0,f1,f2,f3,f4,f5⟩:=hf it (by simp)
  have hx : x.cps[i]? = none:=Array.getElem?_eq_none hg
  cases ha : x.cps.all (· < 128)
  ·have hty : strIterType x = "str_iterator":=by simp [strIterType,ha]
   rw [hty] at st
   exact wpAny_pyNext_wide_end (I.ok.hd hc) st hx fun h' eb=>⟨rfl,I.turned (t':=s.toks) (fun b o hb e=>eb b o hb e) f0 f1 f3 f4 f5⟩
  ·have hty : strIterType x = "str_ascii_iterator":=by simp [strIterType,ha]
   rw [hty] at st
   exact wpAny_pyNext_ascii_end (I.ok.hd hc) st hx fun h' eb=>⟨rfl,I.turned (t':=s.toks) (fun b o hb e=>eb b o hb e) f0 f1 f3 f4 f5⟩
 self:=fun _ _ _ _ _ st h=>by
  cases ha : x.cps.all (· < 128)
  ·have hty : strIterType x = "str_iterator":=by simp [strIterType,ha]
   rw [hty] at st
   exact wpAny_pyIter_striter_wide st h
  ·have hty : strIterType x = "str_ascii_iterator":=by simp [strIterType,ha]
   rw [hty] at st
   exact wpAny_pyIter_striter_ascii st h
section
variable {tg l a : Expr} {fl fa : FE} {rl ra : Bool} {p pos : Pos}
theorem iter_repX {pins : List (Addr × Obj)} {s1 : Shared} {σ : L2.St} {H1 : Hp} {R : It->Hp->Prop} {v : V} {u : Value} {d : D} {items : List D} (I1 : Inv X pins σ H1 s1) (r : Rep All H1 v d) (ru : RelV v u) (hi : itemsX d = .ok items)
  (q : ∀ J,(∀ P : Addr->Prop,Rep P H1 v d->ItQ X.K P J H1 items)->R J H1) : wpAny (model X.prog X.w) X.A (pyIter u) (PIE X pins σ tg R) X.xe s1:=by
 by_cases hz : ∃ z,d = .str z
 ·obtain ⟨z,rfl⟩:=hz
  simp only [itemsX] at hi
  split at hi
  ·cases hi
   cases r
   obtain ⟨t,rfl⟩:=ru
   refine wpAny_pyIter_strU ?_
   refine ⟨s1.heap.objs.size,[s1.heap.objs.size],_,_,H1,rfl,I1.kept (t':=s1.toks) fun b o e=>Heap.get?_push_of_some _ e,turn_str z t _,⟨_,Heap.get?_push_size _ rfl,rfl,rfl⟩,fun b hb=>?_,q _ fun P r=>.chs z rfl rfl⟩
   have e : b = s1.heap.objs.size:=by simpa using hb
   subst e
   exact I1.fpOk (Nat.le_refl _) (I1.hok.fresh (Nat.le_refl _))
  ·cases hi
 ·have he : itemsX d = itemsD d:=by
   unfold itemsX
   split
   ·exact absurd ⟨_,rfl⟩ hz
   ·rfl
  rw [he] at hi
  exact iter_rep I1 r ru hi q
theorem mi_valX (hl : PE X l (gE fl rl)) : PI X tg l (gI X.K (bItemsX fl rl)):=by
 intro pins s σ H R I ⟨ρ,items,k,E,h,q⟩
 obtain ⟨d,h1,h⟩:=bindE h
 obtain ⟨its,h2,h⟩:=bindE h
 cases h
 refine thn (hl pins s σ H _ I ⟨ρ,d,E,h1,fun v H1 s1 r1 n1=>(show (∃ d',Rep All H1 v d/\d' = d/\∀ J,(∀ P : Addr->Prop,Rep P H1 v d->ItQ X.K P J H1 items)->R J H1) from ⟨d,r1,rfl,fun J hJ=>q J H1 s1 (hJ _ r1) fun hk=>hJ _ ?_⟩)⟩) fun u s1 ⟨v,H1,I1,ru,d',r1,e,q1⟩=>iter_repX I1 r1 ru h2 q1
 rw [Bool.or_eq_true] at hk
 rcases hk with hk | hk
 ·exact n1 hk
 ·exact r1.ofPure hk
theorem inv_turnNew {pins : List (Addr × Obj)} {s : Shared} {σ : L2.St} {H : Hp} {h' : Heap} {t' : Nat} {ch : List Addr} {a : Addr} {o : HO} (I : Inv X pins σ H s) (k : ∀ b u,b ∉ ch->s.heap.get? b = some u->h'.get? b = some u) (hf : ∀ b ∈ ch,FpOk X pins H b) (hp : s.heap.objs.size<=a)
  (new : ObjOk X.prog X.w (upd H a o) h' a o) : Inv X pins σ (upd H a o) { s with heap:=h',toks:=t' }:=by
 have hn : H a = none:=I.hok.fresh hp
 have nch : ∀ b u,H b = some u->b ∉ ch:=fun b u e z=>by rw [(hf b z).1] at e;cases e
 have kU : ∀ b u,H b = some u->upd H a o b = some u:=fun b u e=>by rw [upd_ne (ne_of_none e hn)];exact e
 refine I.step (g':=s.gens) (d':=s.drawn) (ch:=ch) (fun b hb=>?_) (fun b u _ _ hc e _=>k b u hc e) (fun b u _ _ hc e _=>⟨u.slots,k b u hc e⟩) (fun b u _ e n=>?_)
  (fun b u hc e=>⟨u,k b u hc e⟩) (fun b xs e=>kU b _ e) (fun b u v e=>kU b _ e) (fun b ps e=>⟨#[],by rw [kU b _ e];simp⟩) (fun m hm=>?_) (fun b u e=>?_) I.bare
 ·obtain ⟨_,f1,_,f3,f4,f5⟩:=hf b hb
  exact ⟨f3,f1,f4,f5⟩
 ·rw [upd_ne (fun z=>absurd (Nat.lt_of_lt_of_le (Heap.lt_size e) hp) (by rw [z];exact Nat.lt_irrefl _))]
  exact n
 ·obtain ⟨u,es,ep,hu,r⟩:=hm
  exact ⟨u,es,ep,k _ u (fun z=>(hf _ z).2.1 rfl) hu,r⟩
 ·by_cases hb : b = a
  ·subst hb
   rw [upd_same] at e
   cases e
   exact new
  ·rw [upd_ne hb] at e
   refine (I.hok b u e).stay (fun c v hc q=>k c v ?_ q) (fun c q=>kU c _ q) fun c xs q=>kU c _ q
   rcases hc with z | z
   ·rw [z];exact nch b u e
   ·exact nch c _ z
theorem turn_enum {P : Program} {w : World} {K : PySem.W.Frag} {elts : List Expr} {x1} {tp : Pos} (a e it : Addr) (hne : e ≠ it) : Turn P w K (.Tuple elts x1 tp) (Ite K a) [e,it] e (fun i h=>(∃ old,IsEnum h e it i old)/\h.IsListIter it a i) where
 mem:=by simp
 obj:=fun i h st b hb=>by
  obtain ⟨⟨old,h1⟩,h2⟩:=st
  rcases List.mem_cons.mp hb with rfl | hb
  ·exact ⟨_,h1,fun v z=>by
    have z' : Data.fields _ = Data.cell v:=z
    cases z'⟩
  ·have e : b = it:=by simpa using hb
   subst e
   obtain ⟨o,e,c,d⟩:=h2
   exact ⟨o,e,fun v z=>by rw [d] at z;cases z⟩
 keep:=fun i h h' st k=>by
  obtain ⟨⟨old,h1⟩,h2⟩:=st
  exact ⟨⟨old,k e (by simp) _ h1⟩,h2.at fun o e=>k it (by simp) o e⟩
 item:=by
  intro Y hP hw hK hc i pins s σ H E I hf st hg
  subst hP hw hK
  obtain ⟨⟨old,h1⟩,h2⟩:=st
  obtain ⟨xs,x,hq,hx⟩:=hg
  obtain ⟨its,rv,p,hz⟩:=I.list hq
  obtain ⟨u,hu,ru⟩:=rv.get hx
  have hlt : e < s.heap.objs.size:=Heap.lt_size h1
  refine wpAny_pyNext_enum_item h1 h2 p.isList (x:=u) (by simpa using hu) hne fun h' o1 o2 o3 o4 o5=>?_
  refine ⟨_,rfl,wpAny_letOwnedTupleGo_enum o1 fun h'' g1 g2=>?_⟩
  have g2' : Heap.SameBut e h' h'':=g2
  have kk : ∀ b o,b ∉ [e,it]->s.heap.get? b = some o->h''.get? b = some o:=fun b o hb eb=>by
   rw [List.mem_cons,List.mem_singleton,not_or] at hb
   exact (g2'.2 b hb.1).trans (o5 b o hb.1 hb.2 eb)
  have o3' : h''.get? s.heap.objs.size = some { cls:=.type "tuple",data:=.seq #[.int i s.toks,u] }:=(g2'.2 _ (Nat.ne_of_gt hlt)).trans o3
  refine ⟨.ref s.heap.objs.size,upd H s.heap.objs.size (.tup [.int i,x]),inv_turnNew (s:=s) (h':=h'') (t':=s.toks + 1) (ch:=[e,it]) I kk (fun b hb=>hf b hb) (Nat.le_refl _) ?_,rfl,⟨_,x,fun ys hy=>by rw [I.list_inj hy hq];exact hx,rfl,I.hok.fresh (Nat.le_refl _),rfl⟩,⟨⟨_,g1⟩,?_⟩,fun b hb=>?_⟩
  ·exact ⟨by show 2<=sizeLine;rw [sizeLine_eq];decide,[.int i s.toks,u],.cons ⟨_,rfl⟩ (.cons ru .nil),⟨_,o3',rfl,0,rfl⟩⟩
  ·obtain ⟨o,ho,r⟩:=o2
   exact ⟨o,(g2'.2 it (Ne.symm hne)).trans ho,r⟩
  ·have hb':=(hf b hb).1
   rw [upd_ne]
   ·exact hb'
   ·intro z
    subst z
    rcases List.mem_cons.mp hb with h | h
    ·rw [<- h] at hlt;exact Nat.lt_irrefl _ hlt
    ·have h' : s.heap.objs.size = it:=by simpa using h
     obtain ⟨o,ho,_⟩:=h2
     have:=Heap.lt_size ho
     rw [<- h'] at this
     exact Nat.lt_irrefl _ this
 done:=by
  intro Y hP hw hK hc i pins s σ H E I hf st hg
  subst hP hw hK
  obtain ⟨⟨old,h1⟩,h2⟩:=st
  obtain ⟨xs,hq,hx⟩:=hg
  obtain ⟨its,rv,p,hz⟩:=I.list hq
  obtain ⟨f0,f1,f2,f3,f4,f5⟩:=hf it (by simp)
  have hl:=rv.length
  exact wpAny_pyNext_enum_end (I.ok.hd hc) h1 h2 p.isList (by simp;lia) fun h' eb=>⟨rfl,I.turned (t':=s.toks) (fun b o hb e=>eb b o hb e) f0 f1 f3 f4 f5⟩
 self:=fun _ _ _ _ _ st h=>by
  obtain ⟨⟨old,h1⟩,h2⟩:=st
  exact wpAny_pyIter_enum h1 h
theorem mi_enum {elts : List Expr} {x1} {tp : Pos} (hg : Gl X "enumerate") (hm : X.mg "enumerate" = none) (ha : PA X [a] (gA (bCons fa bNil) ra)) (hs : starEach [a] X.env = [(false,eval a X.env)]:=by rfl) :
  PI X (.Tuple elts x1 tp) (.Call (.Name "enumerate" p) [a] [] pos) (gI X.K (bEnum fa ra)):=by
 intro pins s σ H R I ⟨ρ,items,k,E,h,q⟩
 obtain ⟨d,h1,h⟩:=bindE h
 obtain ⟨its,h2,h⟩:=bindE h
 cases h
 have hd : d = .lst its:=by
  unfold enumI at h2
  split at h2
  ·cases h2;rfl
  ·cases h2
 subst hd
 have hb : bCons fa bNil ρ = .ok [D.lst its]:=by
  unfold bCons
  rw [h1]
  rfl
 refine Call_ (ld_blt I hg hm PyProof.Rows.boot_enumerate (PyProof.Rows.callWith_type1 (thn (ha pos pins s σ H (fun vs H1=>∃ v,vs = [v]/\Same H H1/\Rep All H1 v (.lst its)/\(ra = true->Rep (New H) H1 v (.lst its))) I ⟨ρ,_,E,hb,fun vs H1 s1 r1 n1=>?_⟩) fun us s1 ⟨vs,H1,I1,r1,q1⟩=>?_) hs rfl))
 ·cases r1 with
  | cons r t=>
   cases t
   refine ⟨_,rfl,s1,r,fun z=>?_⟩
   cases n1 z with
   | cons r' _=>exact r'
 ·obtain ⟨v,rfl,s1',r,n⟩:=q1
  cases r1 with
  | cons rv rr=>
   cases rr
   obtain ⟨l,ys,rfl,hl,rr⟩:=r.lstAt (K:=X.K)
   cases rv
   obtain ⟨vs,rvs,pl,hz⟩:=I1.list hl
   refine call_enumerate_list pl.isList fun h' e1 e2 e3 e4=>?_
   refine wpAny_pyIter_enum e1 ?_
   refine ⟨s1.heap.objs.size + 1,[s1.heap.objs.size + 1,s1.heap.objs.size],_,_,H1,rfl,I1.kept (t':=s1.toks) fun b o e=>e4 b o e,turn_enum l (s1.heap.objs.size + 1) s1.heap.objs.size (Nat.succ_ne_self _),⟨⟨_,e1⟩,e2⟩,fun b hb=>?_,q _ H1 s1' (.enm l its rfl r rfl) fun hk=>.enm l its rfl ?_ rfl⟩
   ·rcases List.mem_cons.mp hb with rfl | hb
    ·exact I1.fpOk (Nat.le_succ _) (I1.hok.fresh (Nat.le_succ _))
    ·have e : b = s1.heap.objs.size:=by simpa using hb
     subst e
     exact I1.fpOk (Nat.le_refl _) (I1.hok.fresh (Nat.le_refl _))
   ·rw [Bool.or_eq_true] at hk
    rcases hk with hk | hk
    ·exact n hk
    ·cases hk
end
end
section
variable {X : Cx} {pos p : Pos} {x : Str} {k : Nat} {f : List D->Res D}
end
theorem vb_all : bootBuiltins "all" = some (.builtin "all"):=by decide +kernel
end Mi
end
section
set_option maxRecDepth 100000
namespace Mi
open PySem L2
theorem asB_bl (b : Bool) : asB (.bl b) = .ok b:=rfl
theorem lim_eq : lim = 1000000:=by unfold lim;exact Eq.refl _
theorem padD_self {n : Nat} {ρ : List D} (h : ρ.length = n) : padD n ρ = ρ:=by
 subst h
 apply List.ext_getElem
 ·simp [padD]
 ·intro i h1 h2
  simp [padD,h2]
theorem argN_ok {n : Nat} {f : List D->Res D} {ds : List D} (h : ds.length = n) : argN n f ds = f ds:=by
 unfold argN
 rw [if_pos (by simp [h])]
theorem b2_ok {f : D->D->Res D} {a b : FE} {ρ : List D} {x y z : D} (h1 : a ρ = .ok x) (h2 : b ρ = .ok y) (h3 : f x y = .ok z) : b2 f a b ρ = .ok z:=by
 unfold b2
 rw [h1,Res.ok_bind,h2,Res.ok_bind,h3]
theorem set_ok {i : Nat} {f : FE} {ρ : List D} {d : D} (h : f ρ = .ok d) : sSet false i f true ρ = .ok (.nx (ρ.set i d)):=by
 unfold sSet
 rw [h,Res.ok_bind]
 rfl
theorem setP_ok {i : Nat} {f : FE} {ρ : List D} {d : D} (h : f ρ = .ok d) (hp : d.pure = true) : sSet false i f false ρ = .ok (.nx (ρ.set i d)):=by
 unfold sSet
 rw [h,Res.ok_bind]
 simp only [hp,Bool.false_or,Bool.false_eq_true,if_false,if_true]
theorem setV_ok {i : Nat} {f : FE} {ρ : List D} {d : D} (h : f ρ = .ok d) (hp : inner d = true) : sSet true i f true ρ = .ok (.nx (ρ.set i d)):=by
 unfold sSet
 rw [h,Res.ok_bind]
 simp only [hp,Bool.and_self,if_true]
theorem seq_ok {f g : FS} {ρ ρ' : List D} {r : Res Fl} (h1 : f ρ = .ok (.nx ρ')) (h2 : g ρ' = r) : sSeq f g ρ = r:=by
 unfold sSeq
 rw [h1,Res.ok_bind]
 exact h2
theorem if_ok {c : FT} {f g : FS} {ρ : List D} {k : Bool} {r : Res Fl} (h1 : c ρ = .ok k) (h2 : (if k then f ρ else g ρ) = r) : sIf c f g ρ = r:=by
 unfold sIf
 rw [h1,Res.ok_bind]
 exact h2
theorem if_t {c : FT} {f g : FS} {ρ : List D} {r : Res Fl} (h1 : c ρ = .ok true) (h2 : f ρ = r) : sIf c f g ρ = r:=if_ok h1 (by rw [if_pos rfl];exact h2)
theorem if_f {c : FT} {f g : FS} {ρ : List D} {r : Res Fl} (h1 : c ρ = .ok false) (h2 : g ρ = r) : sIf c f g ρ = r:=if_ok h1 (by rw [if_neg (by simp)];exact h2)
theorem tb_ok {f : FE} {ρ : List D} {k : Bool} (h1 : f ρ = .ok (.bl k)) : bTB f ρ = .ok k:=by
 unfold bTB
 rw [h1,Res.ok_bind]
 rfl
theorem and_t {a b : FT} {ρ : List D} {r : Res Bool} (h1 : a ρ = .ok true) (h2 : b ρ = r) : bAnd a b ρ = r:=by
 unfold bAnd
 rw [h1,Res.ok_bind,if_pos rfl,h2]
theorem and_f {a b : FT} {ρ : List D} (h1 : a ρ = .ok false) : bAnd a b ρ = .ok false:=by
 unfold bAnd
 rw [h1,Res.ok_bind,if_neg (by simp)]
 rfl
theorem ch_t {f g : D->D->Res D} {a b c : FE} {ρ : List D} {x y z : D} {r : Res D} (h1 : a ρ = .ok x) (h2 : b ρ = .ok y) (h3 : f x y = .ok (.bl true)) (h4 : c ρ = .ok z) (h5 : g y z = r) : bCh f g a b c ρ = r:=by
 unfold bCh
 rw [h1,Res.ok_bind,h2,Res.ok_bind,h3,Res.ok_bind,asB_bl,Res.ok_bind,if_pos rfl,h4,Res.ok_bind,h5]
theorem ch_f {f g : D->D->Res D} {a b c : FE} {ρ : List D} {x y : D} (h1 : a ρ = .ok x) (h2 : b ρ = .ok y) (h3 : f x y = .ok (.bl false)) : bCh f g a b c ρ = .ok (.bl false):=by
 unfold bCh
 rw [h1,Res.ok_bind,h2,Res.ok_bind,h3,Res.ok_bind,asB_bl,Res.ok_bind,if_neg (by simp)]
 rfl
theorem cons_ok {a : FE} {b : FA} {ρ : List D} {x : D} {xs : List D} (h1 : a ρ = .ok x) (h2 : b ρ = .ok xs) : bCons a b ρ = .ok (x :: xs):=by
 unfold bCons
 rw [h1,Res.ok_bind,h2,Res.ok_bind]
 rfl
theorem call_ok {f : List D->Res D} {a : FA} {ρ : List D} {xs : List D} {d : D} (h1 : a ρ = .ok xs) (h2 : f xs = .ok d) : bCall f a ρ = .ok d:=by
 unfold bCall
 rw [h1,Res.ok_bind,h2]
theorem tup_ok {a : FA} {ρ : List D} {xs : List D} (h : a ρ = .ok xs) (hl : xs.length<=lim) : bTup a ρ = .ok (.tup xs):=by
 unfold bTup
 rw [h,Res.ok_bind,if_pos (decide_eq_true hl)]
 rfl
theorem ret_ok {f : FE} {ρ : List D} {d : D} {k : Bool} (h : f ρ = .ok d) (hp : (k || d.pure) = true) : sRet f k ρ = .ok (.rt d):=by
 unfold sRet
 rw [h,Res.ok_bind,if_pos hp]
theorem for_ok {it : FI} {t : D->List D->Res (List D)} {body : FS} {ρ : List D} {xs : List D} {r : Res Fl} (h1 : it ρ = .ok (xs,true)) (h2 : forS t body xs ρ = r) : sFor it t body ρ = r:=by
 unfold sFor
 rw [h1,Res.ok_bind]
 exact h2
theorem forV_ok {i : Nat} {t : D->List D->Res (List D)} {body : FS} {ρ : List D} {d : D} {xs : List D} {r : Res Fl} (h1 : bVar i ρ = .ok d) (h2 : itemsD d = .ok xs) (h3 : forS t body xs ρ = r) : sForV i t body ρ = r:=by
 unfold sForV
 rw [h1,Res.ok_bind,h2,Res.ok_bind]
 exact h3
theorem rng_ok {f : FA} {ρ : List D} {n : Int} (h : f ρ = .ok [.int n]) (h1 : 0<=n) (h2 : n<=1000000) : bThen f rng1D ρ = .ok ((List.range n.toNat).map fun (k : Nat)=>D.int (0 + (k : Int)),true):=by
 unfold bThen
 rw [h,Res.ok_bind]
 have : bound62 n = true:=by
  simp only [bound62,Bool.and_eq_true,decide_eq_true_eq]
  lia
 simp only [rng1D,this,if_true]
theorem app_ok {i : Nat} {f : FE} {ρ : List D} {xs : List D} {d : D} (h1 : f ρ = .ok d) (h3 : ρ.getD i .undef = .lst xs) (h4 : xs.length < lim) (h5 : d.pure = true) : sApp i f ρ = .ok (.nx (ρ.set i (.lst (xs ++ [d])))):=by
 unfold sApp
 rw [h1,Res.ok_bind,h3]
 simp only [decide_eq_true h4,h5,Bool.and_self,if_true]
theorem fors_cons {t : D->List D->Res (List D)} {body : FS} {x : D} {xs : List D} {ρ ρ1 ρ2 : List D} {r : Res Fl} (h1 : t x ρ = .ok ρ1) (h2 : body ρ1 = .ok (.nx ρ2)) (h3 : forS t body xs ρ2 = r) : forS t body (x :: xs) ρ = r:=by
 rw [forS,h1,Res.ok_bind,h2,Res.ok_bind]
 exact h3
theorem comp_ok {n : Nat} {it : FI} {t : D->Res (List D)} {c : FT} {f : FE} {k kk : Bool} {ρ : List D} {xs ys : List D} (h1 : it ρ = .ok (xs,kk)) (h2 : xs.length<=lim) (h3 : cfold (cstep n t c f k ρ) [] xs = .ok ys) : bComp n it t c f k ρ = .ok (.lst ys):=by
 unfold bComp
 rw [h1,Res.ok_bind]
 simp only [decide_eq_true h2,if_true]
 rw [h3]
 rfl
theorem cstep_one {n : Nat} {c : FT} {f : FE} {k : Bool} {ρ acc : List D} {x y : D} {b : Bool} (hρ : ρ.length = n) (h1 : c (ρ ++ [x]) = .ok b) (h2 : b = true->f (ρ ++ [x]) = .ok y/\(k || y.pure) = true) : cstep n oneT c f k ρ acc x = .ok (if b then acc ++ [y] else acc):=by
 unfold cstep
 show (do let ok <- c (padD n ρ ++ [x]);_) = _
 rw [padD_self hρ,h1,Res.ok_bind]
 cases b with
 | true=>
  obtain ⟨e1,e2⟩:=h2 rfl
  rw [if_pos rfl,e1,Res.ok_bind,if_pos e2,if_pos rfl]
  rfl
 | false=>
  rw [if_neg (by simp),if_neg (by simp)]
  rfl
theorem cfold_map {α : Type} (g : List D->D->Res (List D)) (d : α->D) (p : α->Bool) (y : α->D) (h : ∀ acc a,g acc (d a) = .ok (if p a then acc ++ [y a] else acc)) : ∀ (xs : List α) (acc : List D),cfold g acc (xs.map d) = .ok (acc ++ (xs.filter p).map y)
 | [],acc=>by simp [cfold]
 | x :: xs,acc=>by
  rw [List.map_cons,cfold,h]
  show cfold g _ _ = _
  rw [cfold_map g d p y h xs]
  by_cases hp : p x
  ·simp [hp]
  ·simp [hp]
theorem add_ok (a b : Int) : binD .add (.int a) (.int b) = .ok (.int (a + b)):=rfl
theorem sub_ok (a b : Int) : binD .sub (.int a) (.int b) = .ok (.int (a - b)):=rfl
theorem mul_ok (a b : Int) (h : smallB b = true) : binD .mul (.int a) (.int b) = .ok (.int (a * b)):=by
 simp only [binD,h,Bool.or_true,if_true]
theorem mul_okL (a b : Int) (h : smallB a = true) : binD .mul (.int a) (.int b) = .ok (.int (a * b)):=by
 simp only [binD,h,Bool.true_or,if_true]
theorem fdiv_ok (a b : Int) (h1 : 0 < b) (h2 : b < 1073741824) : binD .fdiv (.int a) (.int b) = .ok (.int (a / b)):=by
 simp only [binD,decide_eq_true h1,decide_eq_true h2,Bool.and_self,if_true]
theorem mod_ok (a b : Int) (h1 : 0 < b) : binD .mod (.int a) (.int b) = .ok (.int (a % b)):=by
 simp only [binD,decide_eq_true h1,if_true]
theorem small_ok (a : Int) (h1 : -1000000<=a) (h2 : a<=1000000) : smallB a = true:=by
 simp only [smallB,Bool.and_eq_true,decide_eq_true_eq]
 lia
theorem cmp_ord {o : Ordr} {a b : D} {k : Bool} (h1 : a.eqok eqdepth = true) (h2 : b.eqok eqdepth = true) (h : ordD o a b = some k) : cmpD (.ord o) a b = .ok (.bl k):=by
 simp only [cmpD,h1,h2,h,Bool.and_self,if_true]
theorem add_lst (a b : List D) (h : a.length + b.length<=lim) (ha : D.pures a = true) (hb : D.pures b = true) : binD .add (.lst a) (.lst b) = .ok (.lst (a ++ b)):=by
 simp only [binD,decide_eq_true h,ha,hb,Bool.and_self,if_true]
theorem pures_ints (S : List Int) : D.pures (S.map D.int) = true:=by
 induction S with
 | nil=>rfl
 | cons q Q ih=>rw [List.map_cons,D.pures,ih];rfl
theorem cut_map (ns : List Int) (lo hi : Option Int) : cutD (ns.map D.int) lo hi = (cutD ns lo hi).map D.int:=by
 unfold cutD
 rw [List.length_map,List.map_take,List.map_drop]
end Mi
end
section
set_option maxRecDepth 100000
namespace Mi
open PySem L2 PySem.SeqAt PySem.Spec PyProof.Rows
section
variable {P : Program} {w : World} {K : PySem.W.Frag} {mg : Str->Option Value} {base : Heap} {N : List Str} {qual : Str} {scope : Scope} {f C : Addr} {cd : Value} {A : Around} {outer : List Env} {s : Shared} {H : Hp} {E : XK}
end
section
variable [KFrag]
end
end Mi
end
section
set_option maxRecDepth 100000
namespace Mi
open PySem L2 PySem.W PySem.SeqAt PySem.Spec PyProof.Rows PySem.Builtin PySem.Builtin.ObjectAttr PySem.Builtin.Getset_descriptor
section
variable {prog : Program} {w : World} {A : Around} {E : Value->Shared->Prop} {s : Shared} {K : Frag} {x C : Addr}
end
end Mi
end
section
set_option maxRecDepth 100000
namespace Mi
open PySem L2 PySem.W PySem.SeqAt PySem.Spec PyProof.Rows
section
variable {X : Cx} {pins : List (Addr × Obj)} {σ : L2.St} {H H1 H2 : Hp} {s : Shared} {h h6 : Heap} {a : Addr}
end
end Mi
end
section
set_option maxRecDepth 100000
namespace Mi
open PySem L2 PySem.W PySem.SeqAt PySem.Spec PyProof.Rows
variable [KFrag]
section
variable {X : Cx} {C : Addr} {i : Nat} {cs : List Addr} {b : Bool} {y : Str} {p np tpos pos : Pos} {es : List Expr} {kk : Nat} {ce : Expr} {v : V} {u : Value}
end
end Mi
end
section
set_option maxRecDepth 100000
namespace Mi
open PySem L2 PySem.SeqAt PySem.Spec PyProof.Rows
variable [KFrag]
section
variable {X : Cx} {a e : Expr} {es : List Expr} {p p2 pos pos2 : Pos} {fs : FA} {rr : Bool}
end
section
variable {X : Cx} {own : Nat->Bool} {a b e : Expr} {pos : Pos} {fs : FA} {rr re : Bool} {fe : FE}
end
end Mi
end
section
set_option maxRecDepth 100000
namespace Mi
open PySem L2 PySem.SeqAt PySem.Spec PyProof.Rows
variable [KFrag]
section
variable {X : Cx} {pins : List (Addr × Obj)} {σ : L2.St} {H : Hp} {s : Shared} {a : Addr} {kvs : List (Key × V)}
end
section
variable {X : Cx} {scope : Scope} {x c : Str} {i n : Nat} {elt : Expr} {fe : FE} {re : Bool} {np ap cp cpos pos : Pos}
end
end Mi
end
section
set_option maxRecDepth 100000
namespace Mi
open PySem L2 PySem.SeqAt PySem.Spec PyProof.Rows AutoSeq1 MeetsSeq MeetsSeq2 MeetsSeq3
section
variable {P : Program} {w : World} {l b : Addr} {xs ys : Array Value} {n m : Nat} {dd de : Option Addr} {sl sm : Array (Option Value)} {e : Nat->Bool}
end
variable [KFrag]
section
variable {X : Cx} {pins : List (Addr × Obj)} {σ : L2.St} {H : Hp} {s : Shared}
end
end Mi
end
section
set_option maxRecDepth 100000
namespace Mi
open PySem L2 PySem.SeqAt PySem.Spec PyProof.Rows
variable [KFrag]
section
variable {P : Program} {w : World} {K : PySem.W.Frag} {mg : Str->Option Value} {base : Heap} {x qual : Str} {st : Stmt} {fad T : Addr} {its : Array Value} {fd : FuncData} {N ps : List Str} {k : Nat} {f : FS}
end
section
variable {X : Cx} {e ke : Expr} {es : List Expr} {pos p kp : Pos} {fs : FA} {rr re : Bool} {fk : FE} {x kw : Str} {k k' n : Nat} {df : D} {f : List D->Res D}
end
end Mi
end
section
set_option maxRecDepth 100000
namespace Mi
open PySem L2 PySem.SeqAt PySem.Spec PyProof.Rows
variable [KFrag]
section
variable {X : Cx} {pos : Pos}
end
end Mi
end
section
set_option maxRecDepth 100000
namespace Mi
open PySem L2 PySem.SeqAt PySem.Spec PyProof.Rows
variable [KFrag]
section
variable {X : Cx} {own : Nat->Bool} {e : Expr} {fe : FE} {re : Bool} {pos : Pos}
end
end Mi
end
section
set_option maxRecDepth 100000
namespace Mi
open PySem L2 PySem.SeqAt PySem.Spec PyProof.Rows
variable [KFrag]
section
variable {X : Cx} {pins : List (Addr × Obj)} {σ : L2.St} {H : Hp} {s : Shared} {a : Addr} {kvs : List (Key × V)}
end
end Mi
end
section
set_option maxRecDepth 100000
namespace Mi
open PySem L2 PySem.SeqAt PySem.Spec PyProof.Rows
variable [KFrag]
section
variable {X : Cx} {scope : Scope} {own : Nat->Bool} {x c y : Str} {i n iy : Nat} {elt cnd : Expr} {fe : FE} {gc : FT} {re o : Bool} {np cpos pos py pos2 : Pos}
end
section
variable {own : Nat->Bool}
end
end Mi
end
section
set_option maxRecDepth 100000
namespace Wz
open PySem PySem.Spec
noncomputable abbrev itO (t : Addr) (i : Nat) : Obj:={ cls:=.type "tuple_iterator",data:=.fields #[.ref t,.int i 0] }
noncomputable abbrev tuO (xs : Array Value) (n : Nat) (dd : Option Addr) (sl : Array (Option Value)) : Obj:={ cls:=.type "tuple",dict:=dd,data:=.seq xs n,slots:=sl }
noncomputable abbrev zpO (f0 f1 : Value) (TI TO : Addr) : Obj:={ cls:=.type "zip",data:=.fields #[f0,f1,.bool false,.ref TI,.ref TO] }
noncomputable abbrev prO (a b : Value) : Obj:={ cls:=.type "tuple",data:=.seq #[a,b] }
theorem meets_draw (it t : Addr) (i : Nat) (xs : Array Value) (n : Nat) (dd : Option Addr) (sl : Array (Option Value)) (x : Value) (hx : xs[i]? = some x) :
  Meets (Builtin.«tuple_iterator.__next__» ⟨[.ref it],[]⟩) (fun _ R s=>s.heap.get? it = some (itO t i)/\s.heap.get? t = some (tuO xs n dd sl)/\R (.ok (.ret x)) { s with heap:=s.heap.update it (Obj.mapFields (·.setIfInBounds 1 (rawInt (i + 1)))) }):=.of_wp fun prog w A R s hs=>by
 obtain ⟨hp,g,d,tk,os⟩:=s
 obtain ⟨e1,e2,hq⟩:=hs
 wp_walk
 rw [Int.toNat_natCast,hx]
 wp_walk
 exact ⟨_,rfl,hq⟩
theorem meets_over (it t : Addr) (i : Nat) (xs : Array Value) (n : Nat) (dd : Option Addr) (sl : Array (Option Value)) (hx : xs[i]? = none) :
  Meets (Builtin.«tuple_iterator.__next__» ⟨[.ref it],[]⟩) (fun A R s=>A.handled = none/\s.heap.get? it = some (itO t i)/\s.heap.get? t = some (tuO xs n dd sl)/\∀ h' e,Heap.ExtBut it s.heap h'->(∃ o,h'.get? e = some o/\o.cls = .type "StopIteration")->R (.error (.ref e)) { s with heap:=h' }):=.of_wp fun prog w A R s hs=>by
 obtain ⟨hp,g,d,tk,os⟩:=s
 obtain ⟨hh,e1,e2,hq⟩:=hs
 wp_walk
 rw [Int.toNat_natCast,hx]
 wp_walk
 have hh1 : A.in1.handled = none:=hh
 unfold raiseNew
 wp_walk
 exact hq _ _ (((Heap.SameBut.update ..).extBut.push _).push _) ⟨_,Heap.get?_push_size _ rfl,rfl⟩
section
variable {prog : Program} {w : World} {A : Around} {E : Value->Shared->Prop} {s : Shared} {it t : Addr} {i : Nat} {xs : Array Value} {x : Value} {n : Nat} {dd : Option Addr} {sl : Array (Option Value)}
theorem drawn {Q : Value->Shared->Prop} (e1 : s.heap.get? it = some (itO t i)) (e2 : s.heap.get? t = some (tuO xs n dd sl)) (hx : xs[i]? = some x)
  (q : ∀ h',h'.get? it = some (itO t (i + 1))->Heap.SameBut it s.heap h'->Q x { s with heap:=h' }) : wpAny (model prog w) A (Builtin.SmallTypes.nextOf (.ref it)) Q E s:=by
 have ty : s.TypeIs (.ref it) "tuple_iterator":=⟨_,e1,rfl⟩
 refine wpAny_bind (wpAny_callSpecial?_slot ty F.slot_tuple_iterator_next ?_)
 refine call_meets F.slot_tuple_iterator_next ty F.entry_tuple_iterator_next (F.args_tuple_iterator_next_1 _) (meets_draw it t i xs n dd sl x hx) ⟨e1,e2,wpAny_pure (q _ ?_ (Heap.SameBut.update ..))⟩
 exact Heap.get?_update_self _ e1 rfl
theorem over {Q : Value->Shared->Prop} (hh : A.handled = none) (e1 : s.heap.get? it = some (itO t i)) (e2 : s.heap.get? t = some (tuO xs n dd sl)) (hx : xs[i]? = none)
  (q : ∀ h' e,Heap.ExtBut it s.heap h'->(∃ o,h'.get? e = some o/\o.cls = .type "StopIteration")->E (.ref e) { s with heap:=h' }) : wpAny (model prog w) A (Builtin.SmallTypes.nextOf (.ref it)) Q E s:=by
 have ty : s.TypeIs (.ref it) "tuple_iterator":=⟨_,e1,rfl⟩
 refine wpAny_bind (wpAny_callSpecial?_slot ty F.slot_tuple_iterator_next ?_)
 exact call_meets F.slot_tuple_iterator_next ty F.entry_tuple_iterator_next (F.args_tuple_iterator_next_1 _) (meets_over it t i xs n dd sl hx) ⟨hh,e1,e2,fun h' e k o=>q h' e k o⟩
end
structure Apart (z TI TO i1 i2 l1 l2 : Addr) : Prop where
 zTI : z ≠ TI
 zTO : z ≠ TO
 z1 : z ≠ i1
 z2 : z ≠ i2
 zl : z ≠ l1
 zm : z ≠ l2
 TT : TI ≠ TO
 T1 : TI ≠ i1
 T2 : TI ≠ i2
 O1 : TO ≠ i1
 O2 : TO ≠ i2
 Ol : TO ≠ l1
 Om : TO ≠ l2
 ij : i1 ≠ i2
 il : i1 ≠ l1
 im : i1 ≠ l2
 jl : i2 ≠ l1
 jm : i2 ≠ l2
structure W (z TI TO i1 i2 l1 l2 : Addr) (o1 o2 : Obj) (f0 f1 a b : Value) (k1 k2 : Nat) (h : Heap) : Prop where
 z_ : h.get? z = some (zpO f0 f1 TI TO)
 ti : h.get? TI = some (prO (.ref i1) (.ref i2))
 to : h.get? TO = some (prO a b)
 j1 : h.get? i1 = some (itO l1 k1)
 j2 : h.get? i2 = some (itO l2 k2)
 t1 : h.get? l1 = some o1
 t2 : h.get? l2 = some o2
section
variable {z TI TO i1 i2 l1 l2 : Addr} {o1 o2 : Obj} {f0 f1 g0 g1 a b c d : Value} {k1 k2 : Nat} {h h' : Heap}
theorem W.onZ (x : W z TI TO i1 i2 l1 l2 o1 o2 f0 f1 a b k1 k2 h) (ap : Apart z TI TO i1 i2 l1 l2) (e : h'.get? z = some (zpO g0 g1 TI TO)) (k : Heap.SameBut z h h') : W z TI TO i1 i2 l1 l2 o1 o2 g0 g1 a b k1 k2 h':=
 ⟨e,(k.2 _ ap.zTI.symm).trans x.ti,(k.2 _ ap.zTO.symm).trans x.to,(k.2 _ ap.z1.symm).trans x.j1,(k.2 _ ap.z2.symm).trans x.j2,(k.2 _ ap.zl.symm).trans x.t1,(k.2 _ ap.zm.symm).trans x.t2⟩
theorem W.onT (x : W z TI TO i1 i2 l1 l2 o1 o2 f0 f1 a b k1 k2 h) (ap : Apart z TI TO i1 i2 l1 l2) (e : h'.get? TO = some (prO c d)) (k : Heap.SameBut TO h h') : W z TI TO i1 i2 l1 l2 o1 o2 f0 f1 c d k1 k2 h':=
 ⟨(k.2 _ ap.zTO).trans x.z_,(k.2 _ ap.TT).trans x.ti,e,(k.2 _ ap.O1.symm).trans x.j1,(k.2 _ ap.O2.symm).trans x.j2,(k.2 _ ap.Ol.symm).trans x.t1,(k.2 _ ap.Om.symm).trans x.t2⟩
theorem W.on1 {k : Nat} (x : W z TI TO i1 i2 l1 l2 o1 o2 f0 f1 a b k1 k2 h) (ap : Apart z TI TO i1 i2 l1 l2) (e : h'.get? i1 = some (itO l1 k)) (s : Heap.SameBut i1 h h') : W z TI TO i1 i2 l1 l2 o1 o2 f0 f1 a b k k2 h':=
 ⟨(s.2 _ ap.z1).trans x.z_,(s.2 _ ap.T1).trans x.ti,(s.2 _ ap.O1).trans x.to,e,(s.2 _ ap.ij.symm).trans x.j2,(s.2 _ ap.il.symm).trans x.t1,(s.2 _ ap.im.symm).trans x.t2⟩
theorem W.on2 {k : Nat} (x : W z TI TO i1 i2 l1 l2 o1 o2 f0 f1 a b k1 k2 h) (ap : Apart z TI TO i1 i2 l1 l2) (e : h'.get? i2 = some (itO l2 k)) (s : Heap.SameBut i2 h h') : W z TI TO i1 i2 l1 l2 o1 o2 f0 f1 a b k1 k h':=
 ⟨(s.2 _ ap.z2).trans x.z_,(s.2 _ ap.T2).trans x.ti,(s.2 _ ap.O2).trans x.to,(s.2 _ ap.ij).trans x.j1,e,(s.2 _ ap.jl.symm).trans x.t1,(s.2 _ ap.jm.symm).trans x.t2⟩
theorem W.up (x : W z TI TO i1 i2 l1 l2 o1 o2 f0 f1 a b k1 k2 h) (k : ∀ c o,c = z\/c = TI\/c = TO\/c = i1\/c = i2\/c = l1\/c = l2->h.get? c = some o->h'.get? c = some o) : W z TI TO i1 i2 l1 l2 o1 o2 f0 f1 a b k1 k2 h':=
 ⟨k _ _ (by simp) x.z_,k _ _ (by simp) x.ti,k _ _ (by simp) x.to,k _ _ (by simp) x.j1,k _ _ (by simp) x.j2,k _ _ (by simp) x.t1,k _ _ (by simp) x.t2⟩
end
noncomputable def Side (z TO i1 i2 : Addr) (h h' : Heap) : Prop:=∀ c o,c ≠ z->c ≠ TO->c ≠ i1->c ≠ i2->h.get? c = some o->h'.get? c = some o
section
variable {prog : Program} {w : World} {A : Around} {E : Value->Shared->Prop} {s : Shared} {z TI TO i1 i2 l1 l2 : Addr} {n1 n2 : Nat} {d1 d2 : Option Addr} {s1 s2 : Array (Option Value)} {f0 f1 a b x y : Value} {k : Nat} {xs ys : Array Value}
theorem W.ty {o1 o2 : Obj} {k1 k2 : Nat} (hw : W z TI TO i1 i2 l1 l2 o1 o2 f0 f1 a b k1 k2 s.heap) : s.TypeIs (.ref z) "zip":=⟨_,hw.z_,rfl⟩
end
end Wz
end
section
set_option maxRecDepth 100000
namespace Wz
open PySem PySem.Spec
noncomputable abbrev nxt (z : Addr) : Sem PySem.Fin:=Builtin.«zip.__next__» ⟨[.ref z],[]⟩
noncomputable abbrev Got (Q : Value->Shared->Prop) : PySem.Fin->Shared->Prop:=fun r t=>∃ v,r = .done (.ret v)/\Q v t
section
variable {prog : Program} {w : World} {A : Around} {E : Value->Shared->Prop} {s : Shared} {z TI TO i1 i2 l1 l2 : Addr} {n1 n2 : Nat} {d1 d2 : Option Addr} {s1 s2 : Array (Option Value)} {f0 f1 a b x y : Value} {k : Nat} {xs ys : Array Value}
theorem there {c : Addr} {o : Obj} {Q : Option Obj->Shared->Prop} (e : s.heap.get? c = some o) (q : Q (some o) s) : wpAny (model prog w) A (loadIfAlive c) Q E s:=fun Γ p _=>by
 show Sem.wp _ Γ (.loadIfAlive c pure) _ _ p s
 rw [Sem.wp_loadIfAlive,e]
 exact q
theorem keptAt {o1 o2 : Obj} {k1 k2 : Nat} {Q : Unit->Shared->Prop} (j : Nat) (v c d : Value) (hw : W z TI TO i1 i2 l1 l2 o1 o2 f0 f1 a b k1 k2 s.heap) (ap : Apart z TI TO i1 i2 l1 l2) (hj : (#[a,b] : Array Value).setIfInBounds j v = #[c,d])
  (q : ∀ h',W z TI TO i1 i2 l1 l2 o1 o2 f0 f1 c d k1 k2 h'->Heap.SameBut TO s.heap h'->Q () { s with heap:=h' }) : wpAny (model prog w) A (updateSeq TO (·.setIfInBounds j v)) Q E s:=
 wpAny_updateSeq_pair hw.to fun h' e sb=>q h' (hw.onT ap (by rw [e,hj]) sb) sb
theorem first {Q : Value->Shared->Prop} (ap : Apart z TI TO i1 i2 l1 l2) (hw : W z TI TO i1 i2 l1 l2 (tuO xs n1 d1 s1) (tuO ys n2 d2 s2) .none (.bool false) a b k k s.heap) (hx : xs[k]? = some x) (hy : ys[k]? = some y)
  (q : ∀ (h' : Heap) (p : Addr),W z TI TO i1 i2 l1 l2 (tuO xs n1 d1 s1) (tuO ys n2 d2 s2) (rawInt p) (.bool false) x y (k + 1) (k + 1) h'->h'.get? p = some (prO x y)->p = s.heap.objs.size->Side z TO i1 i2 s.heap h'->Q (.ref p) { s with heap:=h' }) :
  wpAny (model prog w) A (nxt z) (Got Q) E s:=by
 refine wpAny_bind (m:=field (.ref z) 2) (wpAny_field hw.z_ rfl (x:=.bool false) rfl (wpAny_bind (m:=field (.ref z) 3) (wpAny_field hw.z_ rfl (x:=.ref TI) rfl (wpAny_bind (wpAny_seqItems hw.ti rfl ?_)))))
 refine wpAny_bind (m:=Builtin.SmallTypes.ownedTupleIsFree (.ref z)) (wpAny_bind (wpAny_field hw.z_ rfl (x:=.none) rfl (wpAny_pure ?_)))
 rw [if_pos rfl]
 refine wpAny_bind (wpAny_rule (wpAny_bind (wpAny_field hw.z_ rfl (x:=.ref TO) rfl (wpAny_bind (wpAny_setField_rec hw.z_ (by simp) fun h1 e1 k1=>?_)))))
 have w1 : W z TI TO i1 i2 l1 l2 (tuO xs n1 d1 s1) (tuO ys n2 d2 s2) .ellipsis (.bool false) a b k k h1:=hw.onZ ap e1 k1
 simp only [List.zipIdx_cons,List.zipIdx_nil,List.forIn_cons,List.forIn_nil]
 refine wpAny_bind (wpAny_bind (wpAny_bind (wpAny_onRaise (wpAny_bind (m:=Builtin.SmallTypes.nextOf (.ref i1)) (drawn w1.j1 w1.t1 hx fun h2 e2 k2=>wpAny_pure ?_)))))
 have w2:=w1.on1 ap e2 k2
 refine wpAny_bind (wpAny_seqItems w2.to rfl (wpAny_bind (keptAt 0 x x b w2 ap rfl fun h3 w3 k3=>wpAny_bind (wpAny_letGo (wpAny_pure ?_)))))
 refine wpAny_bind (wpAny_bind (wpAny_onRaise (wpAny_bind (m:=Builtin.SmallTypes.nextOf (.ref i2)) (drawn w3.j2 w3.t2 hy fun h4 e4 k4=>wpAny_pure ?_))))
 have w4:=w3.on2 ap e4 k4
 refine wpAny_bind (wpAny_seqItems w4.to rfl (wpAny_bind (keptAt 1 y x y w4 ap rfl fun h5 w5 k5=>wpAny_bind (wpAny_letGo (wpAny_pure (wpAny_pure ?_))))))
 have sd : Side z TO i1 i2 s.heap h5:=fun c o c1 c2 c3 c4 e=>(k5.2 c c2).trans ((k4.2 c c4).trans ((k3.2 c c2).trans ((k2.2 c c3).trans ((k1.2 c c1).trans e))))
 have sz : h5.objs.size = s.heap.objs.size:=by rw [k5.1,k4.1,k3.1,k2.1,k1.1]
 refine wpAny_bind (wpAny_seqItems w5.to rfl (wpAny_bind (wpAny_newTuple ?_)))
 have w6 : W z TI TO i1 i2 l1 l2 (tuO xs n1 d1 s1) (tuO ys n2 d2 s2) .ellipsis (.bool false) x y (k + 1) (k + 1) (h5.push (prO x y)):=w5.up fun c o _ e=>Heap.get?_push_of_some _ e
 refine wpAny_bind (m:=Builtin.SmallTypes.ownedTupleHandOut (.ref z) (.ref h5.objs.size)) (wpAny_bind (wpAny_setField_rec w6.z_ (by simp) fun h7 e7 k7=>?_))
 have w7 : W z TI TO i1 i2 l1 l2 (tuO xs n1 d1 s1) (tuO ys n2 d2 s2) (rawInt h5.objs.size) (.bool false) x y (k + 1) (k + 1) h7:=w6.onZ ap e7 k7
 refine wpAny_setField_rec w7.z_ (by simp) fun h8 e8 k8=>wpAny_pure ⟨_,rfl,?_⟩
 have w8 : W z TI TO i1 i2 l1 l2 (tuO xs n1 d1 s1) (tuO ys n2 d2 s2) (rawInt h5.objs.size) (.bool false) x y (k + 1) (k + 1) h8:=w7.onZ ap e8 k8
 have nz : h5.objs.size ≠ z:=Nat.ne_of_gt (Heap.lt_size w5.z_)
 exact q h8 _ w8 ((k8.2 _ nz).trans ((k7.2 _ nz).trans (Heap.get?_push_size _ rfl))) sz fun c o c1 c2 c3 c4 e=>(k8.2 c c1).trans ((k7.2 c c1).trans (Heap.get?_push_of_some _ (sd c o c1 c2 c3 c4 e)))
theorem firstEnd {Q : Fin->Shared->Prop} (hh : A.handled = none) (ap : Apart z TI TO i1 i2 l1 l2) (hw : W z TI TO i1 i2 l1 l2 (tuO xs n1 d1 s1) (tuO ys n2 d2 s2) .none (.bool false) a b k k s.heap) (hx : xs[k]? = none)
  (q : ∀ h' e,Side z TO i1 i2 s.heap h'->(∃ o,h'.get? e = some o/\o.cls = .type "StopIteration")->E (.ref e) { s with heap:=h' }) :
  wpAny (model prog w) A (nxt z) Q E s:=by
 refine wpAny_bind (m:=field (.ref z) 2) (wpAny_field hw.z_ rfl (x:=.bool false) rfl (wpAny_bind (m:=field (.ref z) 3) (wpAny_field hw.z_ rfl (x:=.ref TI) rfl (wpAny_bind (wpAny_seqItems hw.ti rfl ?_)))))
 refine wpAny_bind (m:=Builtin.SmallTypes.ownedTupleIsFree (.ref z)) (wpAny_bind (wpAny_field hw.z_ rfl (x:=.none) rfl (wpAny_pure ?_)))
 rw [if_pos rfl]
 refine wpAny_bind (wpAny_rule (wpAny_bind (wpAny_field hw.z_ rfl (x:=.ref TO) rfl (wpAny_bind (wpAny_setField_rec hw.z_ (by simp) fun h1 e1 k1=>?_)))))
 have w1 : W z TI TO i1 i2 l1 l2 (tuO xs n1 d1 s1) (tuO ys n2 d2 s2) .ellipsis (.bool false) a b k k h1:=hw.onZ ap e1 k1
 simp only [List.zipIdx_cons,List.zipIdx_nil,List.forIn_cons,List.forIn_nil]
 refine wpAny_bind (wpAny_bind (wpAny_bind (wpAny_onRaise (wpAny_bind (m:=Builtin.SmallTypes.nextOf (.ref i1)) (over hh w1.j1 w1.t1 hx fun h2 e k2 he=>?_)))))
 obtain ⟨oe,he,hc⟩:=he
 have ez : h2.get? z = some (zpO .ellipsis (.bool false) TI TO):=k2 _ _ ap.z1 w1.z_
 have hez : e ≠ z:=fun v=>by
  rw [v,ez] at he
  cases he
  exact absurd (show Value.type "zip" = Value.type "StopIteration" from hc) (by decide)
 exact wpAny_setField_rec ez (by simp) fun h3 _ k3=>q h3 e (fun c o c1 _ c3 _ v=>(k3.2 c c1).trans (k2 c o c3 ((k1.2 c c1).trans v))) ⟨oe,(k3.2 e hez).trans he,hc⟩
theorem taken {o1 o2 oT : Obj} {k1 k2 : Nat} {T : Addr} {bb : Bool} {Q : Bool->Shared->Prop} (ap : Apart z TI TO i1 i2 l1 l2) (hw : W z TI TO i1 i2 l1 l2 o1 o2 (rawInt T) (.bool bb) a b k1 k2 s.heap) (hT : s.heap.get? T = some oT)
  (q : ∀ h',W z TI TO i1 i2 l1 l2 o1 o2 (rawInt T) (.bool true) a b k1 k2 h'->Heap.SameBut z s.heap h'->Q false { s with heap:=h' }) : wpAny (model prog w) A (Builtin.SmallTypes.ownedTupleIsFree (.ref z)) Q E s:=by
 refine wpAny_bind (wpAny_field hw.z_ rfl (x:=rawInt T) rfl (wpAny_bind (m:=loadIfAlive T) (there hT ?_)))
 refine wpAny_bind (wpAny_field hw.z_ rfl (x:=.bool bb) rfl ?_)
 cases bb
 ·exact wpAny_bind (wpAny_setField_rec hw.z_ (by simp) fun h1 e1 k1=>wpAny_pure (q h1 (hw.onZ ap e1 k1) k1))
 ·exact wpAny_pure (q _ hw (Heap.SameBut.refl _ _))
theorem moreEnd {T : Addr} {bb : Bool} {oT : Obj} {Q : Fin->Shared->Prop} (hh : A.handled = none) (ap : Apart z TI TO i1 i2 l1 l2) (hw : W z TI TO i1 i2 l1 l2 (tuO xs n1 d1 s1) (tuO ys n2 d2 s2) (rawInt T) (.bool bb) a b k k s.heap) (hT : s.heap.get? T = some oT) (hx : xs[k]? = none)
  (q : ∀ h' e,Side z TO i1 i2 s.heap h'->(∃ o,h'.get? e = some o/\o.cls = .type "StopIteration")->E (.ref e) { s with heap:=h' }) :
  wpAny (model prog w) A (nxt z) Q E s:=by
 refine wpAny_bind (m:=field (.ref z) 2) (wpAny_field hw.z_ rfl (x:=.bool false) rfl (wpAny_bind (m:=field (.ref z) 3) (wpAny_field hw.z_ rfl (x:=.ref TI) rfl (wpAny_bind (wpAny_seqItems hw.ti rfl ?_)))))
 refine wpAny_bind (m:=Builtin.SmallTypes.ownedTupleIsFree (.ref z)) (taken ap hw hT fun h1 w1 k1=>?_)
 rw [if_neg Bool.false_ne_true]
 dsimp only
 rw [<- Array.forIn_toList]
 simp only [List.forIn_cons,List.forIn_nil]
 exact wpAny_bind (wpAny_bind (wpAny_bind (wpAny_holding (wpAny_bind (m:=Builtin.SmallTypes.nextOf (.ref i1)) (over hh w1.j1 w1.t1 hx fun h2 e k2 he=>q h2 e (fun c o c1 _ c3 _ v=>k2 c o c3 ((k1.2 c c1).trans v)) he)))))
end
end Wz
end
section
set_option maxRecDepth 100000
namespace Wz
open PySem PySem.Spec
theorem five (h : Heap) (a b c d e : Obj) (fa : a.isFreed = false) (fb : b.isFreed = false) (fc : c.isFreed = false) (fd : d.isFreed = false) (fe : e.isFreed = false) :
  (((((h.push a).push b).push c).push d).push e).get? h.objs.size = some a/\(((((h.push a).push b).push c).push d).push e).get? (h.objs.size + 1) = some b/\(((((h.push a).push b).push c).push d).push e).get? (h.objs.size + 2) = some c/\(((((h.push a).push b).push c).push d).push e).get? (h.objs.size + 3) = some d/\(((((h.push a).push b).push c).push d).push e).get? (h.objs.size + 4) = some e/\
  (∀ x o,h.get? x = some o->(((((h.push a).push b).push c).push d).push e).get? x = some o)/\(((((h.push a).push b).push c).push d).push e).objs.size = h.objs.size + 5:=by
 have z1 : (h.push a).objs.size = h.objs.size + 1:=Heap.size_push ..
 have z2 : ((h.push a).push b).objs.size = h.objs.size + 2:=(Heap.size_push ..).trans (by rw [z1])
 have z3 : (((h.push a).push b).push c).objs.size = h.objs.size + 3:=(Heap.size_push ..).trans (by rw [z2])
 have z4 : ((((h.push a).push b).push c).push d).objs.size = h.objs.size + 4:=(Heap.size_push ..).trans (by rw [z3])
 have up : ∀ {h : Heap} {x : Addr} {o q : Obj},h.get? x = some o->(h.push q).get? x = some o:=fun e=>Heap.get?_push_of_some _ e
 have g2:=Heap.get?_push_size (h.push a) (o:=b) fb
 have g3:=Heap.get?_push_size ((h.push a).push b) (o:=c) fc
 have g4:=Heap.get?_push_size (((h.push a).push b).push c) (o:=d) fd
 have g5:=Heap.get?_push_size ((((h.push a).push b).push c).push d) (o:=e) fe
 rw [z1] at g2
 rw [z2] at g3
 rw [z3] at g4
 rw [z4] at g5
 exact ⟨up (up (up (up (Heap.get?_push_size h fa)))),up (up (up g2)),up (up g3),up g4,g5,fun x o q=>up (up (up (up (up q)))),(Heap.size_push ..).trans (by rw [z4])⟩
theorem meets_zip (t u : Addr) (xs ys : Array Value) :
  Meets (Builtin.«zip.__new__» ⟨[.type "zip",.ref t,.ref u],[]⟩) (fun _ R s=>s.heap.IsTuple t xs/\s.heap.IsTuple u ys/\∀ h' n,n = s.heap.objs.size->h'.get? n = some (itO t 0)->h'.get? (n + 1) = some (itO u 0)->h'.get? (n + 2) = some (prO (.ref n) (.ref (n + 1)))->h'.get? (n + 3) = some (prO .none .none)->h'.get? (n + 4) = some (zpO .none (.bool false) (n + 2) (n + 3))->
   (∀ x o,s.heap.get? x = some o->h'.get? x = some o)->h'.objs.size = n + 5->R (.ok (.ret (.ref (n + 4)))) { s with heap:=h' }):=
 .of_wp fun prog w A R s hs=>by
  obtain ⟨hp,g,d,tk,os⟩:=s
  obtain ⟨ht,hu,q⟩:=hs
  have sub:=sub_zip
  have p1 : Heap.IsTuple (Shared.heap ⟨hp,g,d,tk,os⟩) t xs:=ht
  have p2 : Heap.IsTuple (Shared.heap ⟨hp.push { cls:=.type "tuple_iterator",data:=.fields #[.ref t,.int 0 0] },g,d,tk,os⟩) u ys:=Heap.IsTuple.push hu _
  have f:=five hp (itO t 0) (itO u 0) (prO (.ref hp.objs.size) (.ref (hp.objs.size + 1))) (prO .none .none) (zpO .none (.bool false) (hp.objs.size + 2) (hp.objs.size + 3)) rfl rfl rfl rfl rfl
  wp_walk using wpAny_pyIter_tuple p1,wpAny_pyIter_tuple p2
  refine ⟨_,rfl,?_⟩
  have fin:=q _ hp.objs.size rfl f.1 f.2.1 f.2.2.1 f.2.2.2.1 f.2.2.2.2.1 f.2.2.2.2.2.1 f.2.2.2.2.2.2
  have gen : ∀ m1 m2 m3 m4 : Nat,m1 = hp.objs.size + 1->m2 = hp.objs.size + 2->m3 = hp.objs.size + 3->m4 = hp.objs.size + 4->R (.ok (.ret (.ref m4))) ⟨((((hp.push (itO t 0)).push (itO u 0)).push (prO (.ref hp.objs.size) (.ref m1))).push (prO .none .none)).push (zpO .none (.bool false) m2 m3),g,d,tk,os⟩:=by
   intro m1 m2 m3 m4 q1 q2 q3 q4
   subst q1 q2 q3 q4
   exact fin
  exact gen _ _ _ _ (Heap.size_push ..) ((Heap.size_push ..).trans (congrArg (· + 1) (Heap.size_push ..))) ((Heap.size_push ..).trans (congrArg (· + 1) ((Heap.size_push ..).trans (congrArg (· + 1) (Heap.size_push ..))))) ((Heap.size_push ..).trans (congrArg (· + 1) ((Heap.size_push ..).trans (congrArg (· + 1) ((Heap.size_push ..).trans (congrArg (· + 1) (Heap.size_push ..)))))))
section
variable {prog : Program} {w : World} {A : Around} {E : Value->Shared->Prop} {s : Shared}
theorem zipped {t u : Addr} {xs ys : Array Value} {Q : Value->Shared->Prop} (ht : s.heap.IsTuple t xs) (hu : s.heap.IsTuple u ys)
  (q : ∀ h' n,n = s.heap.objs.size->h'.get? n = some (itO t 0)->h'.get? (n + 1) = some (itO u 0)->h'.get? (n + 2) = some (prO (.ref n) (.ref (n + 1)))->h'.get? (n + 3) = some (prO .none .none)->h'.get? (n + 4) = some (zpO .none (.bool false) (n + 2) (n + 3))->
   (∀ x o,s.heap.get? x = some o->h'.get? x = some o)->h'.objs.size = n + 5->Q (.ref (n + 4)) { s with heap:=h' }) :
  wpAny (model prog w) A (call (.type "zip") [.ref t,.ref u]) Q E s:=
 callType_new F.called_zip (by decide) (F.typeCall_zip_2 _ _) (F.newCall_zip_2 _ _) (fun obj=>F.args_object_init_3 obj _ _) F.entry_zip_new (meets_zip t u xs ys)
  ⟨ht,hu,fun h' n e a1 a2 a3 a4 a5 k z=>⟨⟨_,a5,rfl⟩,q h' n e a1 a2 a3 a4 a5 k z⟩⟩
end
section
variable {prog : Program} {w : World} {A : Around} {E : Value->Shared->Prop} {hp : Heap} {g : Array GenState} {d : Drawn} {tk : Nat} {os : OsState} {a TI TO : Addr} {f0 f1 : Value}
end
end Wz
end
section
set_option maxRecDepth 100000
namespace Wz
open PySem PySem.Spec
noncomputable def ZS (z TI TO i1 i2 l1 l2 : Addr) (o1 o2 : Obj) (k : Nat) (h : Heap) : Prop:=∃ f0 f1 a b,W z TI TO i1 i2 l1 l2 o1 o2 f0 f1 a b k k h/\
 ((f0 = .none/\f1 = .bool false)\/∃ (T : Addr) (bb : Bool) (u v : Value),f0 = rawInt T/\f1 = .bool bb/\h.get? T = some (prO u v)/\T ≠ z/\T ≠ TO/\T ≠ i1/\T ≠ i2)
section
variable {prog : Program} {w : World} {A : Around} {E : Value->Shared->Prop} {s : Shared} {z TI TO i1 i2 l1 l2 d : Addr} {n1 n2 : Nat} {d1 d2 : Option Addr} {s1 s2 : Array (Option Value)} {x y : Value} {k : Nat} {xs ys : Array Value}
theorem zs_end {Q : Option Value->Shared->Prop} (hh : A.handled = none) (ap : Apart z TI TO i1 i2 l1 l2) (Z : ZS z TI TO i1 i2 l1 l2 (tuO xs n1 d1 s1) (tuO ys n2 d2 s2) k s.heap) (hx : xs[k]? = none)
  (q : ∀ h',Side z TO i1 i2 s.heap h'->Q none { s with heap:=h' }) : wpAny (model prog w) A (pyNext (.ref z)) Q E s:=by
 obtain ⟨f0,f1,a,b,hw,hf⟩:=Z
 refine wpAny_bind (wpAny_attempt (wpAny_callSpecial?_slot hw.ty F.slot_zip_next (wpAny_call_entry F.slot_zip_next hw.ty F.entry_zip_next ?_ (F.args_zip_next_1 _))))
 have stop : ∀ h' e,Side z TO i1 i2 s.heap h'->(∃ o,h'.get? e = some o/\o.cls = .type "StopIteration")->wpAny (model prog w) A (do if <- isInstance (.ref e) (.type "StopIteration") then pure none else throw (.ref e)) Q E { s with heap:=h' }:=fun h' e sd he=>wpAny_bind (wpAny_isInstance (T := "StopIteration") (b:=true) he isSubtype_stop (wpAny_pure (q h' sd)))
 rcases hf with ⟨rfl,rfl⟩ | ⟨T,bb,u,v,rfl,rfl,hT,_⟩
 ·exact firstEnd hh ap hw hx fun h' e sd he=>stop h' e sd he
 ·exact moreEnd hh ap hw hT hx fun h' e sd he=>stop h' e sd he
end
section
variable {prog : Program} {w : World} {K : Type} [DecidableEq K] {knd : KeyKind prog w K} {A : Around} {R : Except Value Flow->Shared->Prop} {z TI TO i1 i2 l1 l2 d : Addr} {n1 n2 : Nat} {d1 d2 : Option Addr} {s1 s2 : Array (Option Value)} {xs ys : Array Value} {ks : List K}
end
section
variable {prog : Program} {w : World} {K : Type} [DecidableEq K] {knd : KeyKind prog w K} {A : Around} {E : Value->Shared->Prop} {hp : Heap} {g : Array GenState} {dr : Drawn} {tk : Nat} {os : OsState} {z TI TO i1 i2 l1 l2 : Addr} {n1 n2 : Nat} {d1 d2 : Option Addr} {s1 s2 : Array (Option Value)} {xs ys : Array Value} {ks : List K}
end
end Wz
end
section
set_option maxRecDepth 100000
namespace Mi
open PySem L2 PySem.SeqAt PySem.Spec PyProof.Rows
variable [KFrag]
theorem boot_zip : bootBuiltins "zip" = some (.type "zip"):=by decide +kernel
theorem zip_apart {n l m : Nat} (hl : l < n) (hm : m < n) : Wz.Apart (n + 4) (n + 2) (n + 3) n (n + 1) l m:=by
 constructor <;> (intro h;replace h : @Eq Nat _ _:=h;lia)
section
variable {X : Cx} {a b : Expr} {fs : FA} {rr : Bool} {p p2 pos pos2 : Pos}
end
end Mi
end
section
set_option maxRecDepth 100000
namespace Mi
open PySem L2 PySem.SeqAt PySem.Spec PyProof.Rows
variable [KFrag]
section
variable {X : Cx} {own : Nat->Bool} {e : Expr} {fe : FE} {re : Bool} {pos : Pos}
end
end Mi
end
section
set_option maxRecDepth 100000
namespace Ws
open PySem PySem.Spec PySem.Builtin PySem.Builtin.Str
theorem made_split (x y : Str) (t u : Tok) (hy : (y.length == 0) = false) (hx : x.length<=sizeLine) (hl : (Txt.split x y).length<=sizeLine) :
  Meets (Builtin.«str.split» ⟨[.str x t,.str y u],[]⟩) (fun _ R s=>∀ l tk,l.map (·.1) = Txt.split x y->R (.ok (.ret (.ref s.heap.objs.size))) { s with heap:=s.heap.push { cls:=.type "list",data:=.seq (strValues l).toArray },toks:=tk }):=.of_wp fun prog w A R s q=>by
 obtain ⟨raising,e⟩:=split_sep_tree x y t u
 rw [e]
 obtain ⟨hp,g,d,tk,os⟩:=s
 unfold Txt.split at q hl
 by_cases h1 : (decide (x.length < y.length) || decide (strKind x < strKind y)) = true
 ·rw [if_pos h1] at q ⊢
  wp_walk
  exact ⟨_,rfl,q [(x,t)] tk rfl⟩
 ·rw [if_neg h1] at q hl ⊢
  rw [if_neg (by rw [hy];exact Bool.false_ne_true)]
  by_cases h2 : (occurrences x y 0 x.length (x.length + 1)).isEmpty = true
  ·rw [if_pos h2] at q
   rw [if_pos (by rw [h2];rfl)]
   wp_walk
   exact ⟨_,rfl,q [(x,t)] tk rfl⟩
  ·rw [if_neg h2] at q hl
   rw [if_neg (by rw [Bool.true_and];exact h2)]
   refine wpAny_bind (wpAny_mapM_mkStr _ _ _ (fun p hp=>?_) (wpAny_bind (wpAny_newList (wpAny_pure ⟨_,rfl,?_⟩) ?_)))
   ·obtain ⟨r,_,rfl⟩:=List.mem_map.mp hp
    exact fits_strSub _ _ hx
   ·rw [strsFrom_eq]
    exact q (numbered tk _) _ (numbered_texts ..)
   ·rw [strsFrom_length]
    exact hl
end Ws
namespace Mi
open PySem L2 PySem.SeqAt PySem.Spec PyProof.Rows
noncomputable def splitM : D->List D->Res D
 | .str x,[.str y]=>if decide (x.length<=lim) && decide ((Txt.split x y).length<=lim) && !(y.length == 0) then .ok (.lst ((Txt.split x y).map D.str)) else .bad
 | _,_=>.bad
variable [KFrag]
theorem vals_strs {P : Addr->Prop} {H : Hp} : ∀ {l : List (Str × Tok)} {ts : List Str},l.map (·.1) = ts->Vals (ts.map V.str) (strValues l)/\Reps P H (ts.map V.str) (ts.map D.str)
 | [],_,h=>by cases h;exact ⟨.nil,.nil⟩
 | p :: l,_,h=>by
  cases h
  obtain ⟨h1,h2⟩:=vals_strs (P:=P) (H:=H) (l:=l) rfl
  exact ⟨.cons ⟨p.2,rfl⟩ h1,.cons (.str _) h2⟩
theorem mt_split {X : Cx} : MtR X "str.split" (rm splitM true):=by
 intro pins s σ H x xs v us Q I rv vr ⟨a,ds,d,ra,rs,h,k⟩
 unfold splitM at h
 split at h
 ·rename_i x y
  split at h
  ·rename_i hok
   rw [Bool.and_eq_true,Bool.and_eq_true,Bool.not_eq_true',decide_eq_true_eq,decide_eq_true_eq] at hok
   cases h
   obtain ⟨vv,uu,rfl,rfl,r,rk⟩:=one_of rs vr
   cases r
   obtain ⟨u,rfl⟩:=rk
   cases ra
   obtain ⟨t,rfl⟩:=rv
   have hls : ∀ {n : Nat},n<=lim->n<=sizeLine:=fun h=>Nat.le_trans h (by rw [sizeLine_eq];decide)
   refine call_meets F.slot_str_split (typeIs_str _ _ _) F.entry_str_split (F.args_str_split_2 _ _) (Ws.made_split x y t u hok.2 (hls hok.1.1) (hls hok.1.2)) fun l tk hl2=>?_
   obtain ⟨v1,r1⟩:=vals_strs (P:=All) (H:=H) hl2
   have hz : ((Txt.split x y).map V.str).length<=sizeLine:=by rw [List.length_map];exact hls hok.1.2
   have sp:=Same.upd (o:=.lst ((Txt.split x y).map V.str)) I.fresh
   refine ⟨.ref s.heap.objs.size,_,I.lnew (t':=tk) v1 hz,rfl,?_⟩
   exact k _ _ sp (.lst upd_same trivial (vals_strs (P:=All) hl2).2) fun _=>.lst upd_same I.fresh (vals_strs hl2).2
  ·cases h
 ·cases h
theorem splitM_ty {X : Cx} {d : D} {ds : List D} {r : D} {v : V} {H : Hp} (h : splitM d ds = .ok r) (rp : Rep All H v d) : tyV X.K "str" v H:=by
 have : ∃ z,d = .str z:=by
  unfold splitM at h
  split at h
  ·exact ⟨_,rfl⟩
  ·cases h
 obtain ⟨z,rfl⟩:=this
 cases rp
 rfl
end Mi
end
section
set_option maxRecDepth 100000
namespace Ws
open PySem PySem.Spec PySem.Builtin PySem.SeqAt PyProof.Rows
section
variable {prog : Program} {w : World} {A : Around} {E : Value->Shared->Prop} {s : Shared}
theorem tup_index {l : Addr} {items : Array Value} {x : Value} (e : Value->Bool) {j : Nat} {R : PySem.Fin->Shared->Prop} (hj : j < items.size)
  (hit : e items[j] = true) (hno : ∀ m (hm : m < items.size),m < j->e items[m] = false) (ht : IsTup s.heap l items) (he : ∀ y,y ∈ items->EqAt A s y x (e y)) (h : R (.done (.ret (.int j s.toks))) { s with toks:=s.toks + 1 }) :
  wpAny (model prog w) A (Builtin.«tuple.index» ⟨[.ref l,x],[]⟩) R E s:=by
 show wpAny _ _ (Builtin.Tuple.tupleItemsOf (.ref l) >>= _) _ _ s
 refine wpAny_bind (tupleItemsOf_ ht ?_)
 show wpAny _ _ (bind (forIn [0:Min.min items.size items.size] _ _) _) _ _ s
 rw [Std.Legacy.Range.forIn_eq_forIn_range']
 refine wpAny_bind (wpAny_forIn_list _ (fun rest b s'=>b.1 = none/\s' = s/\∃ k,rest = List.range' k (items.size - k)/\k<=j) _ ?_ ?_ _ _ ⟨rfl,rfl,0,by simp [Std.Legacy.Range.size],Nat.zero_le _⟩)
 ·rintro y rest b s' ⟨hb,rfl,k,hk,hkj⟩
  have hlt : k < items.size:=Nat.lt_of_le_of_lt hkj hj
  rw [show items.size - k = (items.size - (k + 1)) + 1 by lia,List.range'_succ] at hk
  injection hk with h1 h2
  subst h1
  have hi : items[y]? = some items[y]:=by simp [hlt]
  show wpAny _ _ (match items[y]? with | some z=>_ | x=>_) _ _ s'
  rw [hi]
  refine wpAny_bind (he _ (Array.getElem_mem hlt) prog w _ _ ?_)
  by_cases hyj : y = j
  ·subst hyj
   rw [hit]
   show wpAny _ _ (retInt y >>= _) _ _ s'
   unfold retInt
   exact wpAny_bind (wpAny_bind (wpAny_mkInt (wpAny_pure (wpAny_pure (wpAny_pure h)))))
  ·rw [hno y hlt (by lia)]
   exact wpAny_pure ⟨rfl,rfl,y + 1,h2,by lia⟩
 ·rintro ⟨b1,b2⟩ s' ⟨hb,rfl,k,hk,hkj⟩
  rw [show items.size - k = (items.size - (k + 1)) + 1 by lia,List.range'_succ] at hk
  cases hk
end
end Ws
namespace Mi
open PySem L2 PySem.SeqAt PySem.Spec PyProof.Rows
noncomputable def idxD (y : D) : List D->Option Nat
 | []=>none
 | z :: r=>if eqD z y then some 0 else (idxD y r).map (· + 1)
noncomputable def indexT : D->List D->Res D
 | .tup xs,[y]=>if y.eqok eqdepth && D.eqoks eqdepth xs then (match idxD y xs with | some j=>.ok (.int j) | none=>.bad) else .bad
 | _,_=>.bad
noncomputable def indexL : D->List D->Res D
 | .lst xs,[y]=>if y.eqok eqdepth && D.eqoks eqdepth xs then (match idxD y xs with | some j=>.ok (.int j) | none=>.bad) else .bad
 | _,_=>.bad
variable [KFrag]
theorem idx_dat {H : Hp} {a : D} : ∀ {xs : List V} {ds : List D} {its : List Value} {j : Nat},D.eqoks eqdepth ds = true->Reps All H xs ds->Vals xs its->idxD a ds = some j->∃ hj : j < its.length,eqD (datQ H its[j]) a = true/\∀ m (hm : m < its.length),m < j->eqD (datQ H its[m]) a = false
 | _,_,_,_,_,.nil,.nil,h=>by cases h
 | _,_,_,j,hq,.cons r t,.cons v vt,h=>by
  rw [D.eqoks,Bool.and_eq_true] at hq
  rw [idxD] at h
  split at h
  ·rename_i he
   cases h
   refine ⟨Nat.zero_lt_succ _,?_,fun m hm z=>absurd z (Nat.not_lt_zero _)⟩
   rw [List.getElem_cons_zero,datQ_eq hq.1 v r]
   exact he
  ·rename_i he
   obtain ⟨k,h1,rfl⟩:=Option.map_eq_some_iff.mp h
   obtain ⟨hj,h2,h3⟩:=idx_dat hq.2 t vt h1
   refine ⟨Nat.succ_lt_succ hj,by rw [List.getElem_cons_succ];exact h2,fun m hm z=>?_⟩
   cases m with
   | zero=>rw [List.getElem_cons_zero,datQ_eq hq.1 v r];exact Bool.eq_false_iff.mpr he
   | succ m=>rw [List.getElem_cons_succ];exact h3 m (Nat.lt_of_succ_lt_succ hm) (Nat.lt_of_succ_lt_succ z)
section
variable {X : Cx}
theorem mt_indexT (hu : X.A.units + 20 < cLine) : MtR X "tuple.index" (rm indexT true):=by
 intro pins s σ H x xs v us Q I rv vr ⟨a,ds,d,ra,rs,h,k⟩
 unfold indexT at h
 split at h
 ·rename_i ys y
  split at h
  ·rename_i hl
   rw [Bool.and_eq_true] at hl
   split at h
   ·rename_i j hj
    cases h
    obtain ⟨vv,uu,rfl,rfl,r,rk⟩:=one_of rs vr
    obtain ⟨l,zs,rfl,ee,rr⟩:=ra.tupAt
    cases rv
    obtain ⟨its,vr',pl⟩:=fst_of I ee
    obtain ⟨h1,h2,h3⟩:=idx_dat hl.2 rr vr' hj
    have mm:=fun w hw=>mem_dat I hu hl.1 r rk hl.2 rr vr' w hw
    obtain ⟨⟨cls,dd,data,sl⟩,ho,hc,n,hd⟩:=id pl
    have hfin : EP X pins σ Q (.int j s.toks) { s with toks:=s.toks + 1 }:=⟨.int j,H,I.tok _,⟨_,rfl⟩,k.int⟩
    refine wpAny_call (codeAny_call_builtin F.slot_tuple_index.plain F.entry_tuple_index (F.slot_tuple_index.check _ _ _ _ _ _ _ _ ⟨_,ho,hc⟩ (F.args_tuple_index_2 _ _) ?_))
    exact Ws.tup_index (A:=X.A.in1) (fun u=>eqD (datQ H u) y) (by simpa using h1) (by simpa using h2) (fun m hm hmj=>by simpa using h3 m (by simpa using hm) hmj) pl (fun w hw=>mm w (by simpa using hw)) hfin
   ·cases h
  ·cases h
 ·cases h
theorem mt_indexL (hu : X.A.units + 20 < cLine) : MtR X "list.index" (rm indexL true):=by
 intro pins s σ H x xs v us Q I rv vr ⟨a,ds,d,ra,rs,h,k⟩
 unfold indexL at h
 split at h
 ·rename_i ys y
  split at h
  ·rename_i hl
   rw [Bool.and_eq_true] at hl
   split at h
   ·rename_i j hj
    cases h
    obtain ⟨vv,uu,rfl,rfl,r,rk⟩:=one_of rs vr
    obtain ⟨l,zs,rfl,ee,rr⟩:=ra.lstAt (K:=X.K)
    cases rv
    obtain ⟨its,vr',pl,hz⟩:=I.list ee
    obtain ⟨h1,h2,h3⟩:=idx_dat hl.2 rr vr' hj
    have mm:=fun w hw=>mem_dat I hu hl.1 r rk hl.2 rr vr' w hw
    obtain ⟨⟨cls,dd,data,sl⟩,ho,hc,n,hd⟩:=id pl.isList
    simp only at hc hd
    subst hc hd
    have hls : (j : Int) < 2 ^ 63 - 1:=by
     have : its.length = zs.length:=vr'.length.symm
     have hz' : zs.length<=sizeLine:=hz
     rw [sizeLine_eq] at hz'
     lia
    exact call_meets F.slot_list_index ⟨_,ho,rfl⟩ F.entry_list_index (F.args_list_index_2 _ _) (list_indexAt l its.toArray n dd sl uu (fun u=>eqD (datQ H u) y) j (by simpa using h1) hls (by simpa using h2) (fun m hm hmj=>by simpa using h3 m (by simpa using hm) hmj)) ⟨ho,fun w hw=>mm w (by simpa using hw),⟨.int j,H,I.tok _,⟨_,rfl⟩,k.int⟩⟩
   ·cases h
  ·cases h
 ·cases h
theorem indexT_ty {d : D} {ds : List D} {r : D} {v : V} {H : Hp} (h : indexT d ds = .ok r) (rp : Rep All H v d) : tyV X.K "tuple" v H:=by
 unfold indexT at h
 split at h
 ·obtain ⟨a,xs,rfl,e,_⟩:=rp.tupAt
  exact .inr (.inl ⟨rfl,.inr ⟨_,e⟩⟩)
 ·cases h
theorem indexL_ty {d : D} {ds : List D} {r : D} {v : V} {H : Hp} (h : indexL d ds = .ok r) (rp : Rep All H v d) : tyV X.K "list" v H:=by
 unfold indexL at h
 split at h
 ·obtain ⟨a,xs,rfl,e,_⟩:=rp.lstAt (K:=X.K)
  exact .inl ⟨rfl,_,e⟩
 ·cases h
end
end Mi
end
section
set_option maxRecDepth 100000
namespace Wz
open PySem PySem.Spec
section
variable {prog : Program} {w : World} {A : Around} {E : Value->Shared->Prop} {s : Shared} {z TI TO i1 i2 l1 l2 : Addr} {o1 o2 : Obj} {a b : Value} {k1 k2 : Nat}
theorem let_go {elts : List Expr} {x1} {pos : Pos} {p : Addr} {Q : Unit->Shared->Prop} (ap : Apart z TI TO i1 i2 l1 l2) (hw : W z TI TO i1 i2 l1 l2 o1 o2 (rawInt p) (.bool false) a b k1 k2 s.heap)
  (q : ∀ h',W z TI TO i1 i2 l1 l2 o1 o2 .none (.bool false) a b k1 k2 h'->Heap.SameBut z s.heap h'->Q () { s with heap:=h' }) : wpAny (model prog w) A (letOwnedTupleGo (.Tuple elts x1 pos) (.ref z) (.ref p)) Q E s:=by
 refine wpAny_bind (m:=load z) (wpAny_load hw.z_ ?_)
 have e : (["enumerate", "zip", "dict_itemiterator", "dict_reverseitemiterator", "odict_iterator", "itertools.zip_longest", "itertools.pairwise"].contains "zip" && (#[rawInt p,.bool false,.bool false,.ref TI,.ref TO] : Array Value)[0]? == some (rawInt p)) = true:=by simp
 dsimp only
 rw [if_pos e]
 exact wpAny_bind (wpAny_rule (wpAny_setField_rec (k:=0) (x:=.none) hw.z_ (by simp) fun h1 e1 k1=>q h1 (hw.onZ ap e1 k1) k1))
end
end Wz
namespace Mi
open PySem L2 PySem.SeqAt PySem.Spec PyProof.Rows
noncomputable def zipI : List D->Res (List D × Bool)
 | [.tup xs,.tup ys]=>if decide (ys.length = xs.length) && D.pures xs && D.pures ys then .ok (zipL xs ys,true) else .bad
 | _=>.bad
variable [KFrag]
section
variable {X : Cx}
theorem inv_turns {pins : List (Addr × Obj)} {s : Shared} {σ : L2.St} {H : Hp} {h' : Heap} {t' : Nat} {ch : List Addr} (I : Inv X pins σ H s) (k : ∀ b u,b ∉ ch->s.heap.get? b = some u->h'.get? b = some u) (hf : ∀ b ∈ ch,FpOk X pins H b) : Inv X pins σ H { s with heap:=h',toks:=t' }:=by
 have nch : ∀ b u,H b = some u->b ∉ ch:=fun b u e z=>by rw [(hf b z).1] at e;cases e
 refine I.step (g':=s.gens) (d':=s.drawn) (ch:=ch) (fun b hb=>?_) (fun b u _ _ hc e _=>k b u hc e) (fun b u _ _ hc e _=>⟨u.slots,k b u hc e⟩) (fun b u _ e n=>n)
  (fun b u hc e=>⟨u,k b u hc e⟩) (fun b xs e=>e) (fun b u v e=>e) (fun b ps e=>⟨#[],by rw [e];simp⟩) (fun m hm=>?_) (fun b u e=>?_) I.bare
 ·obtain ⟨_,f1,_,f3,f4,f5⟩:=hf b hb
  exact ⟨f3,f1,f4,f5⟩
 ·obtain ⟨u,es,ep,hu,r⟩:=hm
  exact ⟨u,es,ep,k _ u (fun z=>(hf _ z).2.1 rfl) hu,r⟩
 ·refine (I.hok b u e).stay (fun c v hc q=>k c v ?_ q) (fun c q=>q) fun c xs q=>q
  rcases hc with z | z
  ·rw [z];exact nch b u e
  ·exact nch c _ z
end
theorem tup_obj {h : Heap} {l : Addr} {its : Array Value} (p : PyProof.Rows.IsTup h l its) : ∃ n dd sl,h.get? l = some (Wz.tuO its n dd sl):=by
 obtain ⟨⟨c,dd,da,sl⟩,g,hc,m,hd⟩:=p
 simp only at hc hd
 subst hc hd
 exact ⟨m,dd,sl,g⟩
noncomputable def ZF (z TI TO i1 i2 l1 l2 : Addr) (i : Nat) (h : Heap) : Prop:=∃ a b,h.get? z = some (Wz.zpO .none (.bool false) TI TO)/\h.get? TI = some (Wz.prO (.ref i1) (.ref i2))/\h.get? TO = some (Wz.prO a b)/\h.get? i1 = some (Wz.itO l1 i)/\h.get? i2 = some (Wz.itO l2 i)
theorem turn_zip {P : Program} {w : World} {K : PySem.W.Frag} {elts : List Expr} {x1} {tp : Pos} {z TI TO i1 i2 l1 l2 : Addr} (ap : Wz.Apart z TI TO i1 i2 l1 l2) : Turn P w K (.Tuple elts x1 tp) (Itz l1 l2) [z,TI,TO,i1,i2] z (ZF z TI TO i1 i2 l1 l2) where
 mem:=by simp
 obj:=fun i h ⟨a,b,e1,e2,e3,e4,e5⟩ c hc=>by
  simp only [List.mem_cons,List.not_mem_nil,or_false] at hc
  rcases hc with rfl | rfl | rfl | rfl | rfl
  ·exact ⟨_,e1,fun v q=>nomatch (show Data.fields _ = Data.cell v from q)⟩
  ·exact ⟨_,e2,fun v q=>nomatch (show Data.seq _ _ = Data.cell v from q)⟩
  ·exact ⟨_,e3,fun v q=>nomatch (show Data.seq _ _ = Data.cell v from q)⟩
  ·exact ⟨_,e4,fun v q=>nomatch (show Data.fields _ = Data.cell v from q)⟩
  ·exact ⟨_,e5,fun v q=>nomatch (show Data.fields _ = Data.cell v from q)⟩
 keep:=fun i h h' ⟨a,b,e1,e2,e3,e4,e5⟩ k=>⟨a,b,k _ (by simp) _ e1,k _ (by simp) _ e2,k _ (by simp) _ e3,k _ (by simp) _ e4,k _ (by simp) _ e5⟩
 item:=by
  intro Y hP hw hK hc i pins s σ H E I hf ⟨a,b,e1,e2,e3,e4,e5⟩ ⟨xs,ys,x,y,g1,g2,hx,hy⟩
  subst hP hw hK
  obtain ⟨its1,w1,p1,_⟩:=I.tuple (.of g1)
  obtain ⟨its2,w2,p2,_⟩:=I.tuple (.of g2)
  obtain ⟨u,hu,ru⟩:=w1.get hx
  obtain ⟨v,hv,rv⟩:=w2.get hy
  obtain ⟨n1,d1,s1,t1⟩:=tup_obj p1
  obtain ⟨n2,d2,s2,t2⟩:=tup_obj p2
  have hw : Wz.W z TI TO i1 i2 l1 l2 (Wz.tuO its1.toArray n1 d1 s1) (Wz.tuO its2.toArray n2 d2 s2) .none (.bool false) a b i i s.heap:=⟨e1,e2,e3,e4,e5,t1,t2⟩
  refine wpAny_bind (wpAny_attempt (wpAny_callSpecial?_slot hw.ty F.slot_zip_next (wpAny_call_entry F.slot_zip_next hw.ty F.entry_zip_next ?_ (F.args_zip_next_1 _))))
  refine Wz.first ap hw (x:=u) (y:=v) (by simpa using hu) (by simpa using hv) fun h' p w' ep pp sd=>wpAny_pure ⟨_,rfl,Wz.let_go ap w' fun h'' w'' sb=>?_⟩
  subst pp
  have sb' : Heap.SameBut z h' h'':=sb
  have lt : ∀ {c o},s.heap.get? c = some o->s.heap.objs.size ≠ c:=fun e=>Nat.ne_of_gt (Heap.lt_size e)
  have kk : ∀ c o,c ∉ [z,TI,TO,i1,i2]->s.heap.get? c = some o->h''.get? c = some o:=fun c o hc e=>by
   simp only [List.mem_cons,List.not_mem_nil,or_false,not_or] at hc
   exact (sb'.2 c hc.1).trans (sd c o hc.1 hc.2.2.1 hc.2.2.2.1 hc.2.2.2.2 e)
  have ep' : h''.get? s.heap.objs.size = some (Wz.prO u v):=(sb'.2 _ (lt e1)).trans ep
  refine ⟨.ref s.heap.objs.size,upd H s.heap.objs.size (.tup [x,y]),inv_turnNew (s:=s) (h':=h'') (t':=s.toks) (ch:=[z,TI,TO,i1,i2]) I kk hf (Nat.le_refl _) ?_,rfl,⟨_,x,y,fun zs hz=>?_,fun zs hz=>?_,rfl,I.hok.fresh (Nat.le_refl _),rfl⟩,⟨u,v,w''.z_,w''.ti,w''.to,w''.j1,w''.j2⟩,fun c hc=>?_⟩
  ·exact ⟨by show 2<=sizeLine;rw [sizeLine_eq];decide,[u,v],.cons ru (.cons rv .nil),⟨_,ep',rfl,0,rfl⟩⟩
  ·rw [g1] at hz;cases hz;exact hx
  ·rw [g2] at hz;cases hz;exact hy
  ·have hn:=(hf c hc).1
   rw [upd_ne]
   ·exact hn
   ·intro q
    subst q
    simp only [List.mem_cons,List.not_mem_nil,or_false] at hc
    rcases hc with h | h | h | h | h
    ·exact lt e1 h
    ·exact lt e2 h
    ·exact lt e3 h
    ·exact lt e4 h
    ·exact lt e5 h
 done:=by
  intro Y hP hw hK hc i pins s σ H E I hf ⟨a,b,e1,e2,e3,e4,e5⟩ ⟨xs,ys,g1,g2,hl,hi⟩
  subst hP hw hK
  obtain ⟨its1,w1,p1,_⟩:=I.tuple (.of g1)
  obtain ⟨its2,w2,p2,_⟩:=I.tuple (.of g2)
  obtain ⟨n1,d1,s1,t1⟩:=tup_obj p1
  obtain ⟨n2,d2,s2,t2⟩:=tup_obj p2
  have hw : Wz.W z TI TO i1 i2 l1 l2 (Wz.tuO its1.toArray n1 d1 s1) (Wz.tuO its2.toArray n2 d2 s2) .none (.bool false) a b i i s.heap:=⟨e1,e2,e3,e4,e5,t1,t2⟩
  have hz : its1.toArray[i]? = none:=by
   have:=w1.length
   simp
   lia
  refine Wz.zs_end (I.ok.hd hc) ap ⟨_,_,_,_,hw,.inl ⟨rfl,rfl⟩⟩ hz fun h' sd=>⟨rfl,inv_turns (t':=s.toks) (ch:=[z,TI,TO,i1,i2]) I (fun c o hc e=>?_) hf⟩
  simp only [List.mem_cons,List.not_mem_nil,or_false,not_or] at hc
  exact sd c o hc.1 hc.2.2.1 hc.2.2.2.1 hc.2.2.2.2 e
 self:=fun _ _ _ _ _ ⟨a,b,e1,_⟩ h=>wpAny_pyIter_zip (TI:=TI) (TO:=TO) (f0:=.none) e1 h
section
variable {X : Cx} {a b : Expr} {fs : FA} {rr : Bool} {p pos : Pos}
theorem mi_zip {elts : List Expr} {x1} {tp : Pos} (hg : Gl X "zip") (hm : X.mg "zip" = none) (ha : PA X [a,b] (gA fs rr)) (hs2 : starEach [a,b] X.env = (false,eval a X.env) :: starEach [b] X.env:=by rfl) (hpl2 : (backTo pos (starEach [b] X.env)).any (·.1) = false:=by rfl) :
  PI X (.Tuple elts x1 tp) (.Call (.Name "zip" p) [a,b] [] pos) (gI X.K (bThen fs zipI)):=by
 intro pins s σ H R I ⟨ρ,items,k,E,h,q⟩
 obtain ⟨ds,h1,h2⟩:=bindE h
 unfold zipI at h2
 split at h2
 ·rename_i xs ys
  split at h2
  ·rename_i hb
   cases h2
   simp only [Bool.and_eq_true,decide_eq_true_eq] at hb
   obtain ⟨⟨hb1,hb2⟩,hb3⟩:=hb
   refine wpAny_Call_Name_kw (ld_blt I hg hm boot_zip ?_)
   refine PyProof.Rows.callWith_type1 (thn (ha pos pins s σ H (fun vs H1=>Same H H1/\Reps All H1 vs [.tup xs,.tup ys]) I ⟨ρ,_,E,h1,fun vs H1 s1 r1 _=>⟨s1,r1⟩⟩) fun us s1 ⟨vs,H1,I1,r1,sm,rp⟩=>?_) hs2 hpl2
   cases rp with
   | cons rp1 rp=>
    cases rp with
    | cons rp2 rp=>
     cases rp
     obtain ⟨l1,vs1,rfl,e1,rr1⟩:=rp1.tupAt
     obtain ⟨l2,vs2,rfl,e2,rr2⟩:=rp2.tupAt
     cases r1 with
     | cons q1 r1=>
      cases r1 with
      | cons q2 r1=>
       cases r1
       cases q1
       cases q2
       obtain ⟨its1,w1,p1,_⟩:=I1.tuple (.of e1)
       obtain ⟨its2,w2,p2,_⟩:=I1.tuple (.of e2)
       have lt1 : l1 < s1.heap.objs.size:=by obtain ⟨_,e,_⟩:=p1;exact Heap.lt_size e
       have lt2 : l2 < s1.heap.objs.size:=by obtain ⟨_,e,_⟩:=p2;exact Heap.lt_size e
       have t1 : s1.heap.IsTuple l1 its1.toArray:=p1
       have t2 : s1.heap.IsTuple l2 its2.toArray:=p2
       refine Wz.zipped t1 t2 fun h' n hn z1 z2 z3 z4 z5 kp zsz=>?_
       subst hn
       refine wpAny_pyIter_zip (TI:=s1.heap.objs.size + 2) (TO:=s1.heap.objs.size + 3) (f0:=.none) z5 ?_
       have fp : ∀ c,s1.heap.objs.size<=c->FpOk X pins H1 c:=fun c hc=>I1.fpOk hc (I1.hok.fresh hc)
       refine ⟨_,_,_,_,H1,rfl,I1.kept (t':=s1.toks) fun c o e=>kp c o e,turn_zip (zip_apart lt1 lt2),⟨_,_,z5,z3,z4,z1,z2⟩,fun c hc=>?_,q _ H1 sm (.zip l1 l2 xs ys rfl rp1 rp2 hb1 rfl) fun _=>.zip l1 l2 xs ys rfl (rp1.ofPure (by rw [D.pure];exact hb2)) (rp2.ofPure (by rw [D.pure];exact hb3)) hb1 rfl⟩
       simp only [List.mem_cons,List.not_mem_nil,or_false] at hc
       rcases hc with rfl | rfl | rfl | rfl | rfl
       ·exact fp _ (Nat.le_add_right _ _)
       ·exact fp _ (Nat.le_add_right _ _)
       ·exact fp _ (Nat.le_add_right _ _)
       ·exact fp _ (Nat.le_refl _)
       ·exact fp _ (Nat.le_add_right _ _)
  ·cases h2
 ·cases h2
end
end Mi
end
section
set_option maxRecDepth 100000
namespace Mi
open PySem L2 PySem.SeqAt PySem.Spec PyProof.Rows
noncomputable def app2D (d k e : D) : Res D:=
 match d,k with
 | .lst xs,.int j=>match (ixD xs.length j).bind fun n=>(xs[n]?).map fun y=>(n,y) with
  | some (n,.lst ys)=>if decide (ys.length < lim) && e.pure then .ok (.lst (xs.set n (.lst (ys ++ [e])))) else .bad
  | _=>.bad
 | .dct kvs,.str x=>match lookD kvs (.str x) with
  | some (.lst ys)=>if decide (ys.length < lim) && e.pure then .ok (.dct (putD kvs (.str x) (.lst (ys ++ [e])))) else .bad
  | _=>.bad
 | _,_=>.bad
noncomputable def sApp2 (i : Nat) (fk fe : FE) : FS:=fun ρ=>do
 let d <- bVar i ρ
 let k <- fk ρ
 let e <- fe ρ
 let r <- app2D d k e
 .ok (.nx (ρ.set i r))
noncomputable def sNew (i : Nat) (d : D) : FS:=fun ρ=>.ok (.nx (ρ.set i d))
noncomputable def empL (n : Nat) : D:=.lst (List.replicate n (.lst []))
noncomputable def empK (ks : List Str) : D:=.dct (ks.map fun k=>(.str k,.lst []))
variable [KFrag]
noncomputable abbrev Cel:=Nat->Option (Addr × List Addr)
noncomputable def OwnC (c : Cel) (a : Addr) : Prop:=∃ i b as,c i = some (b,as)/\a ∈ b :: as
inductive InL (H : Hp) : List V->List D->List Addr->Prop
 | nil : InL H [] [] []
 | cons {a : Addr} {vs : List V} {ds : List D} {r : List V} {es : List D} {as : List Addr} : H a = some (.lst vs)->Reps All H vs ds->D.pures ds = true->InL H r es as->InL H (.ref a :: r) (.lst ds :: es) (a :: as)
inductive InK (H : Hp) : List (Key × V)->List (D × D)->List Addr->Prop
 | nil : InK H [] [] []
 | cons {k : Key} {a : Addr} {vs : List V} {ds : List D} {r : List (Key × V)} {es : List (D × D)} {as : List Addr} : H a = some (.lst vs)->Reps All H vs ds->D.pures ds = true->InK H r es as->InK H ((k,.ref a) :: r) ((kD k,.lst ds) :: es) (a :: as)
inductive Nest (H : Hp) (b : Addr) (as : List Addr) : D->Prop
 | lst {vs : List V} {ds : List D} : H b = some (.lst vs)->InL H vs ds as->Nest H b as (.lst ds)
 | dct {kvs : List (Key × V)} {ds : List (D × D)} : H b = some (.dK kvs)->InK H kvs ds as->(kvs.map (·.1)).Nodup->Nest H b as (.dct ds)
 | pln {vs : List V} {ds : List D} : as = []->H b = some (.lst vs)->Reps All H vs ds->D.pures ds = true->Nest H b as (.lst ds)
section
variable {H H' : Hp} {vs : List V} {ds : List D} {as : List Addr} {kvs : List (Key × V)} {es : List (D × D)}
theorem InL.reps (h : InL H vs ds as) : Reps All H vs ds:=by
 induction h with
 | nil=>exact .nil
 | cons e r p t ih=>exact .cons (.lst e trivial r) ih
theorem InK.reps (h : InK H kvs es as) : RepK All H kvs es:=by
 induction h with
 | nil=>exact .nil
 | cons e r p t ih=>exact .cons (.lst e trivial r) ih
theorem InL.same (h : InL H vs ds as) (s : Same H H') : InL H' vs ds as:=by
 induction h with
 | nil=>exact .nil
 | cons e r p t ih=>exact .cons (s _ _ e) (r.same s) p ih
theorem InK.same (h : InK H kvs es as) (s : Same H H') : InK H' kvs es as:=by
 induction h with
 | nil=>exact .nil
 | cons e r p t ih=>exact .cons (s _ _ e) (r.same s) p ih
theorem InL.live (h : InL H vs ds as) : ∀ a ∈ as,∃ ws,H a = some (.lst ws):=by
 induction h with
 | nil=>intro a ha;cases ha
 | cons e r p t ih=>
  intro a ha
  rcases List.mem_cons.mp ha with rfl | ha
  ·exact ⟨_,e⟩
  ·exact ih a ha
theorem InK.live (h : InK H kvs es as) : ∀ a ∈ as,∃ ws,H a = some (.lst ws):=by
 induction h with
 | nil=>intro a ha;cases ha
 | cons e r p t ih=>
  intro a ha
  rcases List.mem_cons.mp ha with rfl | ha
  ·exact ⟨_,e⟩
  ·exact ih a ha
theorem InL.upd {x : Addr} {o u : HO} (h : InL H vs ds as) (hx : x ∉ as) (hu : H x = some u) (hm : mutO u = true) : InL (upd H x o) vs ds as:=by
 induction h with
 | nil=>exact .nil
 | cons e r p t ih=>
  rw [List.mem_cons,not_or] at hx
  exact .cons (by rw [upd_ne (Ne.symm hx.1)];exact e) (r.upd p hu hm) p (ih hx.2)
theorem InK.upd {x : Addr} {o u : HO} (h : InK H kvs es as) (hx : x ∉ as) (hu : H x = some u) (hm : mutO u = true) : InK (upd H x o) kvs es as:=by
 induction h with
 | nil=>exact .nil
 | cons e r p t ih=>
  rw [List.mem_cons,not_or] at hx
  exact .cons (by rw [upd_ne (Ne.symm hx.1)];exact e) (r.upd p hu hm) p (ih hx.2)
theorem pures_at {ds : List D} {n : Nat} {y : D} (h : D.pures ds = true) (hn : ds[n]? = some y) : y.pure = true:=by
 induction ds generalizing n with
 | nil=>simp at hn
 | cons d ds ih=>
  rw [D.pures,Bool.and_eq_true] at h
  cases n with
  | zero=>simp at hn;subst hn;exact h.1
  | succ n=>exact ih h.2 (by simpa using hn)
theorem pures_snocN {ds : List D} {d : D} (h : D.pures ds = true) (hd : d.pure = true) : D.pures (ds ++ [d]) = true:=by
 rw [pures_app];simp only [Bool.and_eq_true];exact ⟨h,by simp [D.pures,hd]⟩
theorem InL.at_ {n : Nat} {y : D} (h : InL H vs ds as) (hn : ds[n]? = some y) (nd : as.Nodup) : ∃ a ws ys,y = .lst ys/\vs[n]? = some (.ref a)/\a ∈ as/\H a = some (.lst ws)/\Reps All H ws ys/\
  ∀ (H' : Hp) (v : V) (e : D),Same H H'->Rep All H' v e->e.pure = true->InL (L2.upd H' a (.lst (ws ++ [v]))) vs (ds.set n (.lst (ys ++ [e]))) as:=by
 induction h generalizing n with
 | nil=>simp at hn
 | @cons a ws ys r es as e rr p t ih=>
  rw [List.nodup_cons] at nd
  cases n with
  | zero=>
   simp only [List.getElem?_cons_zero,Option.some.injEq] at hn
   subst hn
   refine ⟨a,ws,ys,rfl,rfl,List.mem_cons_self ..,e,rr,fun H' v d sm rv hd=>?_⟩
   exact .cons upd_same (((rr.same sm).snoc rv).upd (pures_snocN p hd) (sm _ _ e) rfl) (pures_snocN p hd) ((t.same sm).upd nd.1 (sm _ _ e) rfl)
  | succ n=>
   rw [List.getElem?_cons_succ] at hn
   obtain ⟨a',ws',ys',h1,h2,h3,h4,h5,h6⟩:=ih hn nd.2
   refine ⟨a',ws',ys',h1,by rw [List.getElem?_cons_succ];exact h2,List.mem_cons_of_mem _ h3,h4,h5,fun H' v d sm rv hd=>?_⟩
   have hne : a ≠ a':=fun z=>by subst z;exact nd.1 h3
   exact .cons (by rw [upd_ne hne];exact sm _ _ e) ((rr.same sm).upd p (sm _ _ h4) rfl) p (h6 H' v d sm rv hd)
theorem InK.at_ {k : Key} {y : D} (h : InK H kvs es as) (hn : lookD es (kD k) = some y) (nd : as.Nodup) : ∃ a ws ys,y = .lst ys/\valV kvs k = some (.ref a)/\a ∈ as/\H a = some (.lst ws)/\Reps All H ws ys/\
  ∀ (H' : Hp) (v : V) (e : D),Same H H'->Rep All H' v e->e.pure = true->InK (L2.upd H' a (.lst (ws ++ [v]))) kvs (putD es (kD k) (.lst (ys ++ [e]))) as:=by
 induction h with
 | nil=>cases hn
 | @cons q a ws ys r es as e rr p t ih=>
  rw [List.nodup_cons] at nd
  rw [lookD,kD_eq] at hn
  by_cases hq : q = k
  ·subst hq
   rw [decide_eq_true rfl,if_pos rfl] at hn
   cases hn
   refine ⟨a,ws,ys,rfl,?_,List.mem_cons_self ..,e,rr,fun H' v d sm rv hd=>?_⟩
   ·simp [valV]
   ·rw [putD,kD_eq,decide_eq_true rfl,if_pos rfl]
    exact .cons upd_same (((rr.same sm).snoc rv).upd (pures_snocN p hd) (sm _ _ e) rfl) (pures_snocN p hd) ((t.same sm).upd nd.1 (sm _ _ e) rfl)
  ·rw [decide_eq_false hq,if_neg (by simp)] at hn
   obtain ⟨a',ws',ys',h1,h2,h3,h4,h5,h6⟩:=ih hn nd.2
   have hne : a ≠ a':=fun z=>by subst z;exact nd.1 h3
   refine ⟨a',ws',ys',h1,?_,List.mem_cons_of_mem _ h3,h4,h5,fun H' v d sm rv hd=>?_⟩
   ·rw [<- h2];simp [valV,hq]
   ·rw [putD,kD_eq,decide_eq_false hq,if_neg (by simp)]
    exact .cons (by rw [upd_ne hne];exact sm _ _ e) ((rr.same sm).upd p (sm _ _ h4) rfl) p (h6 H' v d sm rv hd)
theorem Nest.rep {b : Addr} {d : D} (h : Nest H b as d) : Rep All H (.ref b) d:=by
 cases h with
 | lst e i=>exact .lst e trivial i.reps
 | dct e i n=>exact .dK e trivial i.reps n
 | pln z e r p=>exact .lst e trivial r
theorem Nest.same {b : Addr} {d : D} (h : Nest H b as d) (s : Same H H') : Nest H' b as d:=by
 cases h with
 | lst e i=>exact .lst (s _ _ e) (i.same s)
 | dct e i n=>exact .dct (s _ _ e) (i.same s) n
 | pln z e r p=>exact .pln z (s _ _ e) (r.same s) p
theorem Nest.live {b : Addr} {d : D} (h : Nest H b as d) : ∀ a ∈ b :: as,∃ o,H a = some o/\mutO o = true:=by
 intro a ha
 cases h with
 | lst e i=>
  rcases List.mem_cons.mp ha with rfl | ha
  ·exact ⟨_,e,rfl⟩
  ·obtain ⟨ws,h⟩:=i.live a ha
   exact ⟨_,h,rfl⟩
 | dct e i n=>
  rcases List.mem_cons.mp ha with rfl | ha
  ·exact ⟨_,e,rfl⟩
  ·obtain ⟨ws,h⟩:=i.live a ha
   exact ⟨_,h,rfl⟩
 | pln z e r p=>
  subst z
  rw [List.mem_singleton.mp ha]
  exact ⟨_,e,rfl⟩
theorem Nest.upd {b x : Addr} {d : D} {o u : HO} (h : Nest H b as d) (hx : x ∉ b :: as) (hu : H x = some u) (hm : mutO u = true) : Nest (L2.upd H x o) b as d:=by
 rw [List.mem_cons,not_or] at hx
 cases h with
 | lst e i=>exact .lst (by rw [upd_ne (Ne.symm hx.1)];exact e) (i.upd hx.2 hu hm)
 | dct e i n=>exact .dct (by rw [upd_ne (Ne.symm hx.1)];exact e) (i.upd hx.2 hu hm) n
 | pln z e r p=>exact .pln z (by rw [upd_ne (Ne.symm hx.1)];exact e) (r.upd p hu hm) p
end
structure NS (S : Nat->Bool) (c : Cel) (H : Hp) (σ : L2.St) (ρ : List D) : Prop where
 len : σ.length = ρ.length
 dom : ∀ i p,c i = some p->S i = true
 nd : ∀ i b as,c i = some (b,as)->(b :: as).Nodup
 dj : ∀ i j b as b' as',i ≠ j->c i = some (b,as)->c j = some (b',as')->∀ a ∈ b :: as,a ∉ b' :: as'
 at_ : ∀ i,ρ.getD i .undef ≠ .undef->∃ v,σ[i]? = some (some v)/\(S i = false->Rep (fun a=>¬ OwnC c a) H v (ρ.getD i .undef))
 nst : ∀ i b as,c i = some (b,as)->σ[i]? = some (some (.ref b))/\Nest H b as (ρ.getD i .undef)
 all : ∀ i,S i = true->ρ.getD i .undef ≠ .undef->∃ p,c i = some p
variable {S : Nat->Bool}
theorem NS.er {c : Cel} {H : Hp} {σ : L2.St} {ρ : List D} (E : NS S c H σ ρ) : ER H σ ρ:=fun i hi=>by
 obtain ⟨v,h1,h2⟩:=E.at_ i hi
 cases ho : S i with
 | false=>exact ⟨v,h1,(h2 ho).all⟩
 | true=>
  obtain ⟨⟨b,as⟩,hp⟩:=E.all i ho hi
  obtain ⟨h3,h4⟩:=E.nst i b as hp
  exact ⟨_,h3,h4.rep⟩
theorem NS.live {c : Cel} {H : Hp} {σ : L2.St} {ρ : List D} (E : NS S c H σ ρ) {a : Addr} (h : OwnC c a) : ∃ o,H a = some o/\mutO o = true:=by
 obtain ⟨i,b,as,hc,ha⟩:=h
 exact (E.nst i b as hc).2.live a ha
theorem NS.same {c : Cel} {H H' : Hp} {σ : L2.St} {ρ : List D} (E : NS S c H σ ρ) (s : Same H H') : NS S c H' σ ρ:=
 ⟨E.len,E.dom,E.nd,E.dj,fun i hi=>let ⟨v,h1,h2⟩:=E.at_ i hi;⟨v,h1,fun ho=>(h2 ho).same s⟩,fun i b as hc=>let ⟨h1,h2⟩:=E.nst i b as hc;⟨h1,h2.same s⟩,E.all⟩
noncomputable def KC (c : Cel) (H : Hp) (c' : Cel) (H' : Hp) : Prop:=∀ a o,H a = some o->¬ OwnC c a->H' a = some o/\¬ OwnC c' a
theorem KC.trans {c c1 c2 : Cel} {H H1 H2 : Hp} (a : KC c H c1 H1) (b : KC c1 H1 c2 H2) : KC c H c2 H2:=fun x o e n=>let ⟨e1,n1⟩:=a x o e n;b x o e1 n1
theorem KC.same {c : Cel} {H H' : Hp} (s : Same H H') : KC c H c H':=fun a o e n=>⟨s a o e,n⟩
theorem KC.rep {c c' : Cel} {σ : L2.St} {H H' : Hp} {ρ : List D} (k : KC c H c' H') (E : NS S c H σ ρ) {v : V} {d : D} (r : Rep (fun a=>¬ OwnC c a) H v d) : Rep (fun a=>¬ OwnC c' a) H' v d:=by
 refine r.dom.keep (P':=fun a=>¬ OwnC c' a) (fun a o h hp=>?_) fun a ⟨h1,h2⟩=>?_
 ·by_cases ho : OwnC c a
  ·obtain ⟨o',g1,g2⟩:=E.live ho
   rw [h] at g1
   cases g1
   rcases hp with hp | hp
   ·exact absurd ho hp.1
   ·rw [g2] at hp;cases hp
  ·exact (k a o h ho).1
 ·cases q : H a with
  | none=>exact absurd q h2
  | some o=>exact (k a o q h1).2
noncomputable def kN (S : Nat->Bool) (D : Ends) (c : Cel) (H : Hp) : Fl->Prop
 | .nx ρ=>∀ c' σ' H',KC c H c' H'->NS S c' H' σ' ρ->D.nx σ' H'
 | .bk ρ=>∀ c' σ' H',KC c H c' H'->NS S c' H' σ' ρ->D.bk σ' H'
 | .ct ρ=>∀ c' σ' H',KC c H c' H'->NS S c' H' σ' ρ->D.ct σ' H'
 | .rt d=>∀ v H',(∀ a o,H a = some o->¬ OwnC c a->H' a = some o)->Rep (fun a=>OwnC c a\/H a = none) H' v d->D.rt v H'
theorem kN.step {D : Ends} {c c' : Cel} {H H' : Hp} {fl : Fl} (k : KC c H c' H') (h : kN S D c H fl) : kN S D c' H' fl:=by
 cases fl with
 | nx ρ=>exact fun c2 σ2 H2 k2 e=>h c2 σ2 H2 (k.trans k2) e
 | bk ρ=>exact fun c2 σ2 H2 k2 e=>h c2 σ2 H2 (k.trans k2) e
 | ct ρ=>exact fun c2 σ2 H2 k2 e=>h c2 σ2 H2 (k.trans k2) e
 | rt d=>
  refine fun v H2 hk r=>h v H2 (fun a o e n=>let ⟨e1,n1⟩:=k a o e n;hk a o e1 n1) (r.mono fun a ha=>?_)
  cases q : H a with
  | none=>exact .inr rfl
  | some o=>
   refine .inl (Classical.byContradiction fun n=>?_)
   obtain ⟨e1,n1⟩:=k a o q n
   rcases ha with ha | ha
   ·exact n1 ha
   ·rw [e1] at ha;cases ha
noncomputable def tN (S : Nat->Bool) (f : FS) : TS:=fun D σ H=>∃ c ρ fl,NS S c H σ ρ/\f ρ = .ok fl/\kN S D c H fl
structure QS (X : Cx) (st : Stmt) (t : TS) : Prop where
 out : PS X st t
structure QSs (X : Cx) (st : List Stmt) (t : TS) : Prop where
 out : PSs X st t
section
variable {X : Cx} {a b c e : Expr} {pos pos' : Pos} {fa fb fc fe : FE} {ra rb rc re : Bool} {ga gb gc : FT} {f g : FS} {st : Stmt} {rest s1 s2 : List Stmt}
theorem nss_nil : QSs X [] (tN S sNil):=QSs.mk <| PSs.imp pss_nil fun D σ H ⟨c,ρ,fl,E,h,q⟩=>by
 cases h
 exact q c σ H (fun a o e n=>⟨e,n⟩) E
theorem nss_cons (h1 : QS X st (tN S f)) (h2 : QSs X rest (tN S g)) : QSs X (st :: rest) (tN S (sSeq f g)):=QSs.mk <| PSs.imp (pss_cons h1.out h2.out) fun D σ H ⟨c,ρ,fl,E,h,q⟩=>by
 obtain ⟨r,h1,h2⟩:=bindE h
 refine ⟨c,ρ,r,E,h1,?_⟩
 cases r with
 | nx ρ'=>exact fun c' σ' H' k E'=>⟨c',ρ',fl,E',h2,q.step k⟩
 | bk ρ'=>cases h2;exact q
 | ct ρ'=>cases h2;exact q
 | rt d=>cases h2;exact q
theorem nss_one (h1 : QS X st (tN S f)) : QSs X [st] (tN S f):=⟨pss_one h1.out⟩
theorem ns_bad : QS X st (tN S sBad):=QS.mk fun pins s σ H D I h=>by
 obtain ⟨_,_,_,_,h,_⟩:=h
 cases h
theorem ns_if (hc : PT X c (gT gc)) (ha : QSs X s1 (tN S f)) (hb : QSs X s2 (tN S g)) : QS X (.If c s1 s2 pos) (tN S (sIf gc f g)):=QS.mk <| PS.imp (ps_if hc ha.out hb.out) fun D σ H ⟨c',ρ,fl,E,h,q⟩=>by
 obtain ⟨k,h1,h2⟩:=bindE h
 refine ⟨ρ,k,E.er,h1,fun H' s=>?_⟩
 cases k with
 | true=>rw [if_pos rfl];rw [if_pos rfl] at h2;exact ⟨c',ρ,fl,E.same s,h2,q.step (.same s)⟩
 | false=>rw [if_neg (by simp)];rw [if_neg (by simp)] at h2;exact ⟨c',ρ,fl,E.same s,h2,q.step (.same s)⟩
theorem ns_ret (he : PE X e (gE fe re)) : QS X (.Return (some e) pos) (tN S (sRet fe re)):=QS.mk <| PS.imp (ps_ret he) fun D σ H ⟨c,ρ,fl,E,h,q⟩=>by
 obtain ⟨d,h1,h2⟩:=bindE h
 split at h2
 ·rename_i hk
  cases h2
  refine ⟨ρ,d,E.er,h1,fun v H' s r n=>q v H' (fun a o e _=>s a o e) ?_⟩
  rw [Bool.or_eq_true] at hk
  rcases hk with hk | hk
  ·exact (n hk).mono fun a ha=>.inr ha
  ·exact r.ofPure hk
 ·cases h2
theorem NS.set {c : Cel} {H : Hp} {σ : L2.St} {ρ : List D} {i : Nat} {v : V} {d : D} (E : NS S c H σ ρ) (ho : S i = false) (r : Rep (fun a=>¬ OwnC c a) H v d) : NS S c H (σ.set i (some v)) (ρ.set i d):=by
 have hne : ∀ j,S j = true->i ≠ j:=fun j hj z=>by subst z;rw [ho] at hj;cases hj
 refine ⟨by simp [E.len],E.dom,E.nd,E.dj,fun j hj=>?_,fun j b as hc=>?_,fun j hj hd=>?_⟩
 ·rw [getD_set] at hj ⊢
  by_cases h : i = j/\i < ρ.length
  ·rw [if_pos h]
   obtain ⟨rfl,hl⟩:=h
   exact ⟨v,by rw [List.getElem?_set_self (by rw [E.len];exact hl)],fun _=>r⟩
  ·rw [if_neg h] at hj ⊢
   obtain ⟨w,h1,h2⟩:=E.at_ j hj
   by_cases hij : i = j
   ·subst hij
    have : i < σ.length:=(List.getElem?_eq_some_iff.mp h1).1
    rw [E.len] at this
    exact absurd ⟨rfl,this⟩ h
   ·exact ⟨w,by rw [List.getElem?_set_ne hij];exact h1,h2⟩
 ·have hij:=hne j (E.dom j _ hc)
  rw [getD_set,if_neg fun z=>hij z.1,List.getElem?_set_ne hij]
  exact E.nst j b as hc
 ·have hij:=hne j hj
  rw [getD_set,if_neg fun z=>hij z.1] at hd
  exact E.all j hj hd
theorem ns_set {i : Nat} {x : Str} (ho : S i = false) (hN : X.N.Nodup) (hi : X.N[i]? = some x) (hx : Loc X.env.scope x) (he : PE X e (gE fe re)) (hs : swapsWith e (some (.Name x pos')) pos.line X.env = pure false:=by rfl) (hf : X.fn x = true\/X.env.scope.names.lookup x = some .local:=by first | exact .inl rfl | exact .inr rfl | assumption) :
  QS X (.Assign [.Name x pos'] e pos) (tN S (sSet false i fe re)):=QS.mk <| PS.imp (ps_set hN hi hx he hs hf) fun D σ H ⟨c,ρ,fl,E,h,q⟩=>by
 obtain ⟨d,h1,h2⟩:=bindE h
 simp only [Bool.false_eq_true,if_false] at h2
 split at h2
 ·rename_i hk
  cases h2
  refine ⟨ρ,d,E.er,h1,fun v H' s r n=>?_⟩
  rw [Bool.or_eq_true] at hk
  have r2 : Rep (fun a=>¬ OwnC c a) H' v d:=by
   rcases hk with hk | hk
   ·refine (n hk).mono fun a ha ho=>?_
    obtain ⟨o,h1,_⟩:=E.live ho
    rw [show H a = none from ha] at h1
    cases h1
   ·exact r.ofPure hk
  exact q c _ H' (.same s) ((E.same s).set ho r2)
 ·cases h2
theorem NS.app {c : Cel} {H : Hp} {σ : L2.St} {ρ : List D} {i : Nat} {b x : Addr} {as : List Addr} {d : D} {o u : HO} (E : NS S c H σ ρ) (hc : c i = some (b,as)) (hx : x ∈ as) (hu : H x = some u) (hm : mutO u = true) (hn : Nest (upd H x o) b as d) : NS S c (upd H x o) σ (ρ.set i d)/\KC c H c (upd H x o):=by
 have hO : OwnC c x:=⟨i,b,as,hc,List.mem_cons_of_mem _ hx⟩
 have k : KC c H c (upd H x o):=fun a oa e n=>⟨by rw [upd_ne (fun z=>by subst z;exact n hO)];exact e,n⟩
 obtain ⟨hσ,_⟩:=E.nst i b as hc
 have hl : i < ρ.length:=by rw [<- E.len];exact (List.getElem?_eq_some_iff.mp hσ).1
 have hS:=E.dom i _ hc
 refine ⟨⟨by simp [E.len],E.dom,E.nd,E.dj,fun j hj=>?_,fun j b' as' hc'=>?_,fun j hj hd=>?_⟩,k⟩
 ·rw [getD_set] at hj ⊢
  by_cases h : i = j/\i < ρ.length
  ·obtain ⟨rfl,_⟩:=h
   exact ⟨_,hσ,fun z=>by rw [hS] at z;cases z⟩
  ·rw [if_neg h] at hj ⊢
   obtain ⟨w,h1,h2⟩:=E.at_ j hj
   exact ⟨w,h1,fun hj=>k.rep E (h2 hj)⟩
 ·by_cases hij : i = j
  ·subst hij
   rw [hc] at hc'
   cases hc'
   rw [getD_set,if_pos ⟨rfl,hl⟩]
   exact ⟨hσ,hn⟩
  ·rw [getD_set,if_neg fun z=>hij z.1]
   obtain ⟨h1,h2⟩:=E.nst j b' as' hc'
   exact ⟨h1,h2.upd (E.dj i j b as b' as' hij hc hc' x (List.mem_cons_of_mem _ hx)) hu hm⟩
 ·by_cases hij : i = j
  ·subst hij;exact ⟨_,hc⟩
  ·rw [getD_set,if_neg fun z=>hij z.1] at hd
   exact E.all j hj hd
noncomputable def rIx2 (K : PySem.W.Frag) : R2:=fun x y H Q=>rIxL K x y H Q\/∃ a kvs k v,x = .ref a/\y = kV k/\H a = some (.dK kvs)/\valV kvs k = some v/\Q v H
theorem ix_2 (hu : X.A.units + 20 < cLine) : IxR X (rIx2 X.K):=IxR.or ix_list fun value slice pins s σ H x y v u Q I rx ry h hs=>by
 obtain ⟨a,kvs,k,w,rfl,rfl,e,hv,q⟩:=h
 cases rx
 have g : DGet H a (kV k) (valV kvs k):=.k e
 rw [hv] at g
 exact tail_dict hu I g ry hs (fun _ h=>h) q
theorem ns_app2 {i : Nat} {x : Str} {k : Expr} {fk : FE} {rk : Bool} {p1 p2 apos cpos : Pos} (hu : X.A.units + 20 < cLine) (ho : S i = true) (hN : X.N[i]? = some x) (hv : Vis X.env.scope x) (hk : PE X k (gE fk rk)) (he : PE X e (gE fe re)) (hp : PlainIx k:=by exact fun _ _=>rfl) (hd : (x == ("__debug__" : Str)) = false:=by decide) (hcd : (x == ("__classdict__" : Str)) = false:=by decide)
  (hbase : attributeBase (.Subscript (.Name x p1) k p2) "append" X.env (eval (.Subscript (.Name x p1) k p2) X.env) = eval (.Subscript (.Name x p1) k p2) X.env:=by rfl)
  (hs1 : starEach [e] X.env = (false,eval e X.env) :: starEach [] X.env:=by rfl)
  (hfew : ((backTo cpos (starEach [e] X.env)).all (fun x=>!x.1) && (backToKw cpos (keywordEach [] X.env)).all (fun x=>x.1.isSome)
   && decide (([e] : List Expr).length + ([] : List Keyword).length + (if ([] : List Keyword).isEmpty then 0 else 1) < 30)) = true:=by rfl)
  (hline : (apos.endLine == cpos.line) = true:=by rfl)
  (hs : swapsWith (.Call (.Attribute (.Subscript (.Name x p1) k p2) "append" apos) [e] [] cpos) none pos.line X.env = pure false:=by rfl) :
  QS X (.Expr (.Call (.Attribute (.Subscript (.Name x p1) k p2) "append" apos) [e] [] cpos) pos) (tN S (sApp2 i fk fe)):=QS.mk <|
 PS.imp (ps_expr (pe_bm PySem.F.plainAttrs_list PySem.F.slot_list_append PySem.F.type_list_append mt_append (pe_ix (ix_2 hu) (pe_var hN hv hd hcd) hk hp) (pa_cons he pa_nil hs1) hbase hfew hline hs1 rfl) hs) fun D' σ H ⟨c,ρ,fl,E,h,q⟩=>by
 obtain ⟨d,h1,hA⟩:=bindE h
 obtain ⟨kd,h2,hB⟩:=bindE hA
 obtain ⟨ed,h3,hC⟩:=bindE hB
 obtain ⟨r,h4,hD⟩:=bindE hC
 cases hD
 obtain ⟨v0,hv0,r0,e0⟩:=E.er.var h1
 have hne : ρ.getD i .undef ≠ .undef:=fun z=>by rw [z] at e0;subst e0;exact Rep.undef r0
 obtain ⟨⟨b,as⟩,hc⟩:=E.all i ho hne
 obtain ⟨hσ,hN0⟩:=E.nst i b as hc
 have hnd:=E.nd i b as hc
 rw [List.nodup_cons] at hnd
 rw [e0] at hN0
 unfold app2D at h4
 split at h4
 ·rename_i xs j
  split at h4
  ·rename_i n ys hix
   split at h4
   ·rename_i hg
    cases h4
    rw [Bool.and_eq_true] at hg
    obtain ⟨n',hx1,hx2⟩:=Option.bind_eq_some_iff.mp hix
    obtain ⟨y',hx3,hx4⟩:=Option.map_eq_some_iff.mp hx2
    cases hx4
    refine ⟨.ref b,hσ,ρ,_,E.er,h2,fun kv H1 sm1 rk1 _=>?_⟩
    cases rk1
    have N1:=hN0.same sm1
    cases N1 with
    | lst eb il=>
     obtain ⟨a,ws,zs,q1,q2,q3,q4,q5,q6⟩:=il.at_ hx3 hnd.2
     cases q1
     refine .inl ⟨b,_,j,.ref a,rfl,rfl,.of eb,by rw [atI_of,il.reps.length,hx1];exact q2,?_⟩
     refine ⟨.inl ⟨rfl,_,.of q4⟩,ρ,_,E.er.same sm1,h3,fun ev H2 sm2 re2 _=>⟨a,ws,ev,rfl,rfl,sm2 _ _ q4,by rw [q5.length];exact lim_lt hg.1,?_⟩⟩
     obtain ⟨E2,k2⟩:=(E.same (sm1.trans sm2)).app (o:=.lst (ws ++ [ev])) hc q3 (sm2 _ _ q4) rfl (.lst (by rw [upd_ne (fun z=>hnd.1 (by rw [z];exact q3))];exact sm2 _ _ eb) (q6 H2 ev ed sm2 re2 hg.2))
     exact q c σ _ ((KC.same (sm1.trans sm2)).trans k2) E2
    | pln _ _ _ pp=>
     have:=pures_at pp hx3
     cases this
   ·cases h4
  ·cases h4
 ·rename_i kvs z
  split at h4
  ·rename_i ys hlk
   split at h4
   ·rename_i hg
    cases h4
    rw [Bool.and_eq_true] at hg
    refine ⟨.ref b,hσ,ρ,_,E.er,h2,fun kv H1 sm1 rk1 _=>?_⟩
    cases rk1
    have N1:=hN0.same sm1
    cases N1 with
    | dct eb il nk=>
     obtain ⟨a,ws,zs,q1,q2,q3,q4,q5,q6⟩:=il.at_ (k:=.inr z) hlk hnd.2
     cases q1
     refine .inr ⟨b,_,.inr z,.ref a,rfl,rfl,eb,q2,?_⟩
     refine ⟨.inl ⟨rfl,_,.of q4⟩,ρ,_,E.er.same sm1,h3,fun ev H2 sm2 re2 _=>⟨a,ws,ev,rfl,rfl,sm2 _ _ q4,by rw [q5.length];exact lim_lt hg.1,?_⟩⟩
     obtain ⟨E2,k2⟩:=(E.same (sm1.trans sm2)).app (o:=.lst (ws ++ [ev])) hc q3 (sm2 _ _ q4) rfl (.dct (by rw [upd_ne (fun z=>hnd.1 (by rw [z];exact q3))];exact sm2 _ _ eb) (q6 H2 ev ed sm2 re2 hg.2) nk)
     exact q c σ _ ((KC.same (sm1.trans sm2)).trans k2) E2
   ·cases h4
  ·cases h4
 ·cases h4
end
end Mi
end
section
set_option maxRecDepth 100000
namespace Mi
open PySem L2 PySem.SeqAt PySem.Spec PyProof.Rows
variable [KFrag]
noncomputable def updE (H : Hp) : List Addr->Hp
 | []=>H
 | a :: as=>updE (upd H a (.lst [])) as
theorem updE_same : ∀ (as : List Addr) {H : Hp},as.Nodup->(∀ a ∈ as,H a = none)->Same H (updE H as)
 | [],H,_,_=>Same.refl _
 | a :: as,H,nd,h=>by
  rw [List.nodup_cons] at nd
  refine (Same.upd (h a (List.mem_cons_self ..))).trans (updE_same as nd.2 fun x hx=>?_)
  rw [upd_ne (fun z=>nd.1 (by rw [<- z];exact hx))]
  exact h x (List.mem_cons_of_mem _ hx)
theorem updE_at : ∀ (as : List Addr) {H : Hp} {x : Addr},as.Nodup->(∀ a ∈ as,H a = none)->x ∈ as->updE H as x = some (.lst [])
 | [],H,x,_,_,hx=>by cases hx
 | a :: as,H,x,nd,h,hx=>by
  rw [List.nodup_cons] at nd
  have h' : ∀ y ∈ as,upd H a (.lst []) y = none:=fun y hy=>by
   rw [upd_ne (fun z=>nd.1 (by rw [<- z];exact hy))]
   exact h y (List.mem_cons_of_mem _ hy)
  rcases List.mem_cons.mp hx with rfl | hx
  ·exact updE_same as nd.2 h' _ _ upd_same
  ·exact updE_at as nd.2 h' hx
noncomputable def tEmps : Nat->TA
 | 0=>fun _ H Q=>Q [] H
 | n + 1=>fun σ H Q=>∀ p,H p = none->tEmps n σ (upd H p (.lst [])) fun xs H1=>Q (.ref p :: xs) H1
theorem emps_run : ∀ (n : Nat) {σ : L2.St} {H : Hp} {Q : List V->Hp->Prop},(∀ as : List Addr,as.length = n->as.Nodup->(∀ a ∈ as,H a = none)->Q (as.map V.ref) (updE H as))->tEmps n σ H Q
 | 0,σ,H,Q,h=>h [] rfl List.nodup_nil fun _ z=>by cases z
 | n + 1,σ,H,Q,h=>fun p hp=>emps_run n (σ:=σ) fun as hl nd hf=>by
  refine h (p :: as) (by simp [hl]) (List.nodup_cons.mpr ⟨fun z=>?_,nd⟩) fun a ha=>?_
  ·have:=hf p z
   rw [upd_same] at this
   cases this
  ·rcases List.mem_cons.mp ha with rfl | ha
   ·exact hp
   ·have:=hf a ha
    by_cases hap : a = p
    ·subst hap;exact hp
    ·rwa [upd_ne hap] at this
noncomputable def tKEmps : List Str->L2.St->Hp->(List (V × V)->Hp->Prop)->Prop
 | [],_,H,Q=>Q [] H
 | k :: ks,σ,H,Q=>∀ p,H p = none->tKEmps ks σ (upd H p (.lst [])) fun ps H1=>Q ((.str k,.ref p) :: ps) H1
theorem kemps_run : ∀ (ks : List Str) {σ : L2.St} {H : Hp} {Q : List (V × V)->Hp->Prop},(∀ as : List Addr,as.length = ks.length->as.Nodup->(∀ a ∈ as,H a = none)->Q ((ks.zip as).map fun p=>(V.str p.1,V.ref p.2)) (updE H as))->tKEmps ks σ H Q
 | [],σ,H,Q,h=>h [] rfl List.nodup_nil fun _ z=>by cases z
 | k :: ks,σ,H,Q,h=>fun p hp=>kemps_run ks (σ:=σ) fun as hl nd hf=>by
  refine h (p :: as) (by simp [hl]) (List.nodup_cons.mpr ⟨fun z=>?_,nd⟩) fun a ha=>?_
  ·have:=hf p z
   rw [upd_same] at this
   cases this
  ·rcases List.mem_cons.mp ha with rfl | ha
   ·exact hp
   ·have:=hf a ha
    by_cases hap : a = p
    ·subst hap;exact hp
    ·rwa [upd_ne hap] at this
theorem inL_new : ∀ (as : List Addr) {H : Hp},(∀ a ∈ as,H a = some (.lst []))->InL H (as.map V.ref) (List.replicate as.length (.lst [])) as
 | [],H,_=>.nil
 | a :: as,H,h=>.cons (h a (List.mem_cons_self ..)) .nil rfl (inL_new as fun x hx=>h x (List.mem_cons_of_mem _ hx))
theorem inK_new : ∀ (ks : List Str) (as : List Addr) {H : Hp},as.length = ks.length->(∀ a ∈ as,H a = some (.lst []))->InK H ((ks.zip as).map fun p=>(.inr p.1,V.ref p.2)) (ks.map fun k=>(.str k,.lst [])) as
 | [],[],H,_,_=>.nil
 | k :: ks,a :: as,H,hl,h=>.cons (k:=.inr k) (h a (List.mem_cons_self ..)) .nil rfl (inK_new ks as (by simpa using hl) fun x hx=>h x (List.mem_cons_of_mem _ hx))
 | [],_ :: _,H,hl,_=>by cases hl
 | _ :: _,[],H,hl,_=>by cases hl
variable {S : Nat->Bool}
theorem NS.new {c : Cel} {H H' : Hp} {σ : L2.St} {ρ : List D} {i : Nat} {b : Addr} {as : List Addr} {d : D} (E : NS S c H σ ρ) (ho : S i = true) (hl : i < σ.length) (sm : Same H H') (nd : (b :: as).Nodup) (hf : ∀ a ∈ b :: as,H a = none) (hn : Nest H' b as d) : ∃ c',NS S c' H' (σ.set i (some (.ref b))) (ρ.set i d)/\KC c H c' H':=by
 have hlv : ∀ a,OwnC c a->a ∉ b :: as:=fun a ha z=>by
  obtain ⟨o,h1,_⟩:=E.live ha
  rw [hf a z] at h1;cases h1
 have own : ∀ a,OwnC (fun j=>if j = i then some (b,as) else c j) a->OwnC c a\/a ∈ b :: as:=fun a ⟨j,b',as',hc,ha⟩=>by
  by_cases hj : j = i
  ·simp only [hj,if_true,Option.some.injEq,Prod.mk.injEq] at hc
   obtain ⟨rfl,rfl⟩:=hc
   exact .inr ha
  ·simp only [hj,if_false] at hc
   exact .inl ⟨j,b',as',hc,ha⟩
 have k : KC c H (fun j=>if j = i then some (b,as) else c j) H':=fun a o e n=>⟨sm a o e,fun z=>by
  rcases own a z with z | z
  ·exact n z
  ·rw [hf a z] at e;cases e⟩
 have hlr : i < ρ.length:=by rw [<- E.len];exact hl
 refine ⟨fun j=>if j = i then some (b,as) else c j,⟨by simp [E.len],fun j p hc=>?_,fun j b' as' hc=>?_,fun j1 j2 b1 as1 b2 as2 hne h1 h2 a ha=>?_,fun j hj=>?_,fun j b' as' hc=>?_,fun j hj hd=>?_⟩,k⟩
 ·by_cases hj : j = i
  ·rw [hj];exact ho
  ·simp only [hj,if_false] at hc
   exact E.dom j p hc
 ·by_cases hj : j = i
  ·simp only [hj,if_true,Option.some.injEq,Prod.mk.injEq] at hc
   obtain ⟨rfl,rfl⟩:=hc
   exact nd
  ·simp only [hj,if_false] at hc
   exact E.nd j b' as' hc
 ·by_cases e1 : j1 = i
  ·by_cases e2 : j2 = i
   ·exact absurd (e1.trans e2.symm) hne
   ·simp only [e1,if_true,Option.some.injEq,Prod.mk.injEq] at h1
    simp only [e2,if_false] at h2
    obtain ⟨rfl,rfl⟩:=h1
    exact fun z=>hlv a ⟨j2,b2,as2,h2,z⟩ ha
  ·simp only [e1,if_false] at h1
   by_cases e2 : j2 = i
   ·simp only [e2,if_true,Option.some.injEq,Prod.mk.injEq] at h2
    obtain ⟨rfl,rfl⟩:=h2
    exact hlv a ⟨j1,b1,as1,h1,ha⟩
   ·simp only [e2,if_false] at h2
    exact E.dj j1 j2 b1 as1 b2 as2 hne h1 h2 a ha
 ·rw [getD_set] at hj ⊢
  by_cases h : i = j/\i < ρ.length
  ·obtain ⟨rfl,_⟩:=h
   exact ⟨.ref b,by rw [List.getElem?_set_self hl],fun z=>by rw [ho] at z;cases z⟩
  ·rw [if_neg h] at hj ⊢
   have hij : i ≠ j:=fun z=>h ⟨z,hlr⟩
   obtain ⟨w,h1,h2⟩:=E.at_ j hj
   exact ⟨w,by rw [List.getElem?_set_ne hij];exact h1,fun hs=>k.rep E (h2 hs)⟩
 ·by_cases hj : j = i
  ·subst hj
   simp only [if_true,Option.some.injEq,Prod.mk.injEq] at hc
   obtain ⟨rfl,rfl⟩:=hc
   rw [getD_set,if_pos ⟨rfl,hlr⟩,List.getElem?_set_self hl]
   exact ⟨rfl,hn⟩
  ·simp only [hj,if_false] at hc
   rw [getD_set,if_neg fun z=>hj z.1.symm,List.getElem?_set_ne (Ne.symm hj)]
   obtain ⟨h1,h2⟩:=E.nst j b' as' hc
   exact ⟨h1,h2.same sm⟩
 ·by_cases hji : j = i
  ·exact ⟨(b,as),by simp [hji]⟩
  ·rw [getD_set,if_neg fun z=>hji z.1.symm] at hd
   obtain ⟨p,hp⟩:=E.all j hj hd
   exact ⟨p,by simp [hji,hp]⟩
section
variable {X : Cx} {a b c e : Expr} {es : List Expr} {pos pos' : Pos} {fa fb fc fe : FE} {ra rb rc re : Bool} {ga gb gc : FT} {f g : FS} {st : Stmt} {n : Nat}
theorem pa_e0 : PA X [] (tEmps 0):=pa_nil
theorem ns_newL {i : Nat} {x : Str} {p2 : Pos} (ho : S i = true) (hN : X.N.Nodup) (hi : X.N[i]? = some x) (hx : Loc X.env.scope x) (ha : PA X es (tEmps n)) (hn : n<=1000) (hs : swapsWith (.List es p2) (some (.Name x pos')) pos.line X.env = pure false:=by rfl) (hf : X.fn x = true\/X.env.scope.names.lookup x = some .local:=by first | exact .inl rfl | exact .inr rfl | assumption) :
  QS X (.Assign [.Name x pos'] (.List es p2) pos) (tN S (sNew i (empL n))):=QS.mk fun pins s σ H D I ⟨c,ρ,fl,E,h,q⟩=>by
 cases h
 have hl : i < σ.length:=by
  rw [I.len]
  exact (List.getElem?_eq_some_iff.mp hi).1
 refine ps_set hN hi hx (pe_lst ha) hs hf pins s σ H D I (emps_run n fun as hln nd hfr=>⟨by rw [List.length_map,hln,sizeLine_eq];lia,fun b hb=>?_⟩)
 have sm1:=updE_same as nd hfr
 have hbn : b ∉ as:=fun z=>by rw [updE_at as nd hfr z] at hb;cases hb
 have sm2 : Same (updE H as) (upd (updE H as) b (.lst (as.map V.ref))):=Same.upd hb
 have hbH : H b = none:=sm1.free hb
 obtain ⟨c',E',k⟩:=E.new (i:=i) (b:=b) (as:=as) (d:=empL n) ho hl (sm1.trans sm2) (List.nodup_cons.mpr ⟨hbn,nd⟩) (fun a ha=>by
  rcases List.mem_cons.mp ha with rfl | ha
  ·exact hbH
  ·exact hfr a ha) (.lst upd_same (by
   have:=inL_new as (H:=upd (updE H as) b (.lst (as.map V.ref))) fun a ha=>sm2 _ _ (updE_at as nd hfr ha)
   rw [hln] at this
   exact this))
 exact q c' _ _ k E'
noncomputable def trE (ks : List Str) : List (TE × TE):=ks.map fun k=>(tC (.str k),tLst fun _ H Q=>Q [] H)
theorem trE_run : ∀ (ks : List Str) {σ : L2.St} {H : Hp} {Q : List (V × V)->Hp->Prop},tKEmps ks σ H Q->tPairs (trE ks) σ H Q
 | [],_,_,_,h=>h
 | k :: ks,_,_,_,h=>⟨Nat.zero_le _,fun p hp=>trE_run ks (h p hp)⟩
theorem merge_new : ∀ (more kvs : List (Key × V)),((kvs ++ more).map (·.1)).Nodup->mergeK kvs more = kvs ++ more
 | [],kvs,_=>(List.append_nil _).symm
 | p :: r,kvs,h=>by
  have hp : putK kvs p.1 p.2 = kvs ++ [p]:=by
   unfold putK
   rw [if_neg]
   rw [Bool.not_eq_true,List.any_eq_false]
   intro q hq hd
   rw [List.map_append,List.nodup_append] at h
   exact h.2.2 q.1 (List.mem_map.mpr ⟨q,hq,rfl⟩) p.1 (by simp) (of_decide_eq_true hd)
  show mergeK (putK kvs p.1 p.2) r = kvs ++ p :: r
  rw [hp,merge_new r (kvs ++ [p]) (by simpa using h),List.append_assoc]
  rfl
theorem ns_newK {i : Nat} {x : Str} {p2 : Pos} {keys : List (Option Expr)} {values : List Expr} {ks : List Str} (ho : S i = true) (hN : X.N.Nodup) (hi : X.N[i]? = some x) (hx : Loc X.env.scope x) (hp : PPs X p2 keys values (trE ks)) (hall : keys.all (·.isSome) = true) (hkl : keys.length = values.length) (h0 : keys ≠ []) (h15 : keys.length<=15) (hk15 : ks.length<=15) (hks : ks.Nodup) (hs : swapsWith (.Dict keys values p2) (some (.Name x pos')) pos.line X.env = pure false:=by rfl) (hf : X.fn x = true\/X.env.scope.names.lookup x = some .local:=by first | exact .inl rfl | exact .inr rfl | assumption) :
  QS X (.Assign [.Name x pos'] (.Dict keys values p2) pos) (tN S (sNew i (empK ks))):=QS.mk fun pins s σ H D I ⟨c,ρ,fl,E,h,q⟩=>by
 cases h
 have hl : i < σ.length:=by
  rw [I.len]
  exact (List.getElem?_eq_some_iff.mp hi).1
 refine ps_set hN hi hx (pe_disp hp hall hkl h0 h15) hs hf pins s σ H D I fun b hb=>trE_run ks (kemps_run ks fun as hln nd hfr=>?_)
 have sm0 : Same H (upd H b (.dK [])):=Same.upd hb
 have sm1:=updE_same as nd hfr
 have hbn : b ∉ as:=fun z=>by have:=hfr b z;rw [upd_same] at this;cases this
 have hfr' : ∀ a ∈ as,H a = none:=fun a ha=>sm0.free (hfr a ha)
 have keys : ((ks.zip as).map fun p=>(Sum.inr p.1,V.ref p.2)).map (·.1) = ks.map (Sum.inr : Str->Key):=by
  rw [List.map_map,show ((fun x : Key × V=>x.1) ∘ fun p : Str × Addr=>((Sum.inr p.1 : Key),V.ref p.2)) = (Sum.inr : Str->Key) ∘ Prod.fst from rfl,<- List.map_map,List.map_fst_zip (by lia)]
 have hnk : (((ks.zip as).map fun p=>((Sum.inr p.1 : Key),V.ref p.2)).map (·.1)).Nodup:=by
  rw [keys]
  exact List.pairwise_map.mpr (hks.imp fun h z=>h (by cases z;rfl))
 refine ⟨sm1 _ _ upd_same,(ks.zip as).map fun p=>(.inr p.1,V.ref p.2),by rw [List.map_map];rfl,by rw [List.length_map,List.length_zip];lia,?_⟩
 rw [merge_new _ [] (by rw [List.nil_append];exact hnk),List.nil_append]
 have e2 : ∀ a ∈ as,upd (updE (upd H b (.dK [])) as) b (.dK ((ks.zip as).map fun p=>(Sum.inr p.1,V.ref p.2))) a = some (.lst []):=fun a ha=>by
  rw [upd_ne (fun z=>hbn (by rw [<- z];exact ha))]
  exact updE_at as nd hfr ha
 have sm : Same H (upd (updE (upd H b (.dK [])) as) b (.dK ((ks.zip as).map fun p=>(Sum.inr p.1,V.ref p.2)))):=fun a o e=>by
  rw [upd_ne (ne_of_none e hb)]
  exact sm1 _ _ (sm0 _ _ e)
 obtain ⟨c',E',k⟩:=E.new (i:=i) (b:=b) (as:=as) (d:=empK ks) ho hl sm (List.nodup_cons.mpr ⟨hbn,nd⟩) (fun a ha=>by
  rcases List.mem_cons.mp ha with rfl | ha
  ·exact hb
  ·exact hfr' a ha) (.dct upd_same (inK_new ks as hln e2) hnk)
 exact q c' _ _ k E'
noncomputable def TgN (S : Nat->Bool) (g : TG) (t : D->List D->Res (List D)) : Prop:=∀ (v : V) (d : D) (ρ ρ' : List D) (σ : L2.St) (H : Hp) (c : Cel) (Q : L2.St->Hp->Prop),NS S c H σ ρ->Rep (fun a=>¬ OwnC c a) H v d->t d ρ = .ok ρ'->(∀ σ',NS S c H σ' ρ'->Q σ' H)->g v σ H Q
theorem NS.sets {c : Cel} {H : Hp} : ∀ {is : List Nat} {vs : List V} {ds : List D} {σ : L2.St} {ρ : List D},(∀ i ∈ is,S i = false)->NS S c H σ ρ->Reps (fun a=>¬ OwnC c a) H vs ds->NS S c H (setsV is vs σ) (setsD is ds ρ)
 | [],_,_,_,_,_,E,_=>by simp only [setsV,setsD];exact E
 | i :: is,_,_,σ,ρ,h,E,.nil=>by simp only [setsV,setsD];exact E
 | i :: is,_,_,σ,ρ,h,E,.cons r t=>NS.sets (is:=is) (fun j hj=>h j (List.mem_cons_of_mem _ hj)) (E.set (h i (List.mem_cons_self ..)) r) t
theorem tgn_tup (K : PySem.W.Frag) {is : List Nat} (ho : ∀ i ∈ is,S i = false) : TgN S (gTup K is.length (gIx is)) (tgN is):=fun v d ρ ρ' σ H c Q E r h q=>by
 cases d <;> simp only [tgN] at h <;> (try (cases h;done))
 split at h
 ·rename_i hl
  cases h
  have hl':=of_decide_eq_true hl
  obtain ⟨a,xs,rfl,e,rr⟩:=r.tupAt
  exact ⟨a,xs,rfl,.of e,by rw [rr.length];exact hl',gIx_run _ _ _ (by rw [rr.length];exact hl') (q _ (E.sets ho rr))⟩
 ·cases h
theorem ItQ.kc {K : PySem.W.Frag} {J : It} {items : List D} {c c' : Cel} {σ : L2.St} {H H' : Hp} {ρ : List D} (h : ItQ K (fun a=>¬ OwnC c a) J H items) (k : KC c H c' H') (E : NS S c H σ ρ) : ItQ K (fun a=>¬ OwnC c' a) J H' items:=by
 cases h with
 | lst a e r=>exact .lst a e (k.rep E r)
 | tup a e r=>exact .tup a e (k.rep E r)
 | rng lo n e r=>exact .rng lo n e r
 | chs x e r=>exact .chs x e r
 | enm a ds e r h=>exact .enm a ds e (k.rep E r) h
 | enf m a ds e r h=>exact .enf m a ds e (k.rep E r) h
 | zip a b ds es e r q n h=>exact .zip a b ds es e (k.rep E r) (k.rep E q) n h
theorem ns_for {tg iter : Expr} {body : List Stmt} {g : TG} {t : D->List D->Res (List D)} {it : FI} {fb : FS} (hp : PassesOwn (model X.prog X.w) X.A X.env X.xe) (hc : X.calm = true) (hi : PI X tg iter (gI X.K it)) (ht : TgN S g t) (hg : PG X tg g) (hb : QSs X body (tN S fb))
  (hs : ∀ x,foldedSetIterable iter X.env x = pure x:=by intro _;rfl) : QS X (.For tg iter body [] pos) (tN S (sFor it t fb)):=QS.mk <| PS.imp (ps_for hp hc hi hg hb.out hs) fun D' σ H ⟨c,ρ,fl,E,h,q⟩=>by
 obtain ⟨⟨items,k⟩,h1,h2⟩:=bindE h
 split at h2
 ·rename_i hk
  refine ⟨ρ,items,k,E.er,h1,fun J H1 s1 _ hJ=>?_⟩
  have hJ0 : ItQ X.K (fun a=>¬ OwnC c a) J H1 items:=(hJ hk).keep (fun _ _ e _=>e) fun a ha ho=>by
   obtain ⟨o,e1,_⟩:=E.live ho
   rw [show H a = none from ha] at e1
   cases e1
  refine ⟨fun i m σ' H'=>m = items.length - i/\i<=items.length/\∃ c' ρ',ItQ X.K (fun a=>¬ OwnC c' a) J H' items/\NS S c' H' σ' ρ'/\forS t fb (items.drop i) ρ' = .ok fl/\kN S D' c' H' fl,⟨items.length,rfl,Nat.zero_le _,c,ρ,hJ0,E.same s1,h2,q.step (.same s1)⟩,?_⟩
  rintro i m σ' H' ⟨rfl,hi,c',ρ',hJ',E',hf',q'⟩
  rcases Nat.lt_or_ge i items.length with hlt | hge
  ·refine .inr ?_
   have e : items[i]? = some items[i]:=List.getElem?_eq_getElem hlt
   obtain ⟨g1,g2⟩:=hJ'.go e
   rw [List.drop_eq_getElem_cons hlt] at hf'
   obtain ⟨ρ1,h1,hf2⟩:=bindE hf'
   obtain ⟨r,h2,hf3⟩:=bindE hf2
   refine ⟨g1,fun σ2 H2=>∃ c' ρ',ItQ X.K (fun a=>¬ OwnC c' a) J H2 items/\NS S c' H2 σ2 ρ'/\forS t fb (items.drop (i + 1)) ρ' = .ok fl/\kN S D' c' H2 fl,fun σ2 H2 n2=>⟨items.length - (i + 1),by lia,rfl,hlt,n2⟩,fun x H2 hy=>?_⟩
   obtain ⟨sH,rx⟩:=g2 x H2 hy
   have hJ2:=hJ'.kc (.same sH) E'
   have q2:=q'.step (.same sH)
   refine ht x items[i] ρ' ρ1 σ' H2 c' _ (E'.same sH) rx h1 fun σ2 E2=>⟨c',ρ1,r,E2,h2,?_⟩
   cases r with
   | nx ρ2=>exact fun c3 σ3 H3 k3 E3=>⟨c3,ρ2,hJ2.kc k3 E2,E3,hf3,q2.step k3⟩
   | ct ρ2=>exact fun c3 σ3 H3 k3 E3=>⟨c3,ρ2,hJ2.kc k3 E2,E3,hf3,q2.step k3⟩
   | bk ρ2=>cases hf3;exact fun c3 σ3 H3 k3 E3=>q2 c3 σ3 H3 k3 E3
   | rt d=>cases hf3;exact q2
  ·refine .inl ⟨hJ'.stop hge,?_⟩
   rw [List.drop_eq_nil_of_le hge] at hf'
   cases hf'
   exact q' c' σ' H' (fun a o e n=>⟨e,n⟩) E'
 ·cases h2
end
theorem fn_bodyN {N ps : List Str} {f : FS} {vs : List V} {H : Hp} {Q : VK} {E : XK} (hown : ∀ i,i < ps.length->S i = false) (h0 : spD (fnS ps.length N.length f) ps.length vs H Q E) : tN S f { nx:=fun _ H'=>Q .non H',rt:=Q } (start N vs) H:=by
 obtain ⟨ds,d,hl,r,h,q⟩:=h0
 obtain ⟨fl,h1,h2⟩:=bindE h
 have hst : start N vs = vs.map some ++ List.replicate (N.length - ps.length) none:=by
  show vs.map some ++ List.replicate (N.length - vs.length) none = _
  rw [r.length,hl]
 have no : ∀ a,¬ OwnC (fun _=>none) a:=fun a ⟨i,b,as,hc,_⟩=>by cases hc
 have old:=es_start (own:=fun _=>false) hst hl r (fun _ _=>rfl) fun a ⟨i,hi,_⟩=>by cases hi
 have hlt : ∀ i,(ds ++ List.replicate (N.length - ps.length) D.undef).getD i .undef ≠ .undef->i < ps.length:=fun i hi=>Nat.lt_of_not_le fun hge=>hi (by
  rw [List.getD_eq_getElem?_getD,List.getElem?_append_right (by lia),List.getElem?_replicate]
  split <;> rfl)
 have E0 : NS S (fun _=>none) H (start N vs) (ds ++ List.replicate (N.length - ps.length) .undef):=by
  refine ⟨old.len,fun i p hc=>(by cases hc),fun i b as hc=>(by cases hc),fun i j b as b' as' _ hc=>(by cases hc),fun i hi=>?_,fun i b as hc=>(by cases hc),fun i hi hd=>?_⟩
  ·obtain ⟨v,g1,g2⟩:=old.at_ i hi
   exact ⟨v,g1,fun _=>(g2 rfl).mono fun a _=>no a⟩
  ·rw [hown i (hlt i hd)] at hi;cases hi
 refine ⟨_,_,fl,E0,h1,?_⟩
 have sm : ∀ {c' : Cel} {H' : Hp},KC (fun _=>none) H c' H'->Same H H':=fun k a o e=>(k a o e (no a)).1
 cases fl with
 | nx ρ'=>cases h2;exact fun c' σ' H' k E'=>q .non H' (sm k) .non fun _=>.non
 | rt d'=>
  cases h2
  refine fun v H' hk rp=>q v H' (fun a o e=>hk a o e (no a)) rp.all fun _=>rp.mono fun a ha=>?_
  rcases ha with ha | ha
  ·exact absurd ha (no a)
  ·exact ha
 | bk ρ'=>cases h2
 | ct ρ'=>cases h2
theorem fn_okN {P : Program} {w : World} {K : PySem.W.Frag} {mg : Str->Option Value} {base : Heap} {x qual : Str} {st : Stmt} {fad : Addr} {fd : FuncData} {N ps : List Str} {k : Nat} {f : FS} (F : Fun K x qual st fad fd) (sc : FnScope N ps (defScope st)) (S : Nat->Bool) (hown : ∀ i,i < ps.length->S i = false) (hNl : ps.length<=N.length)
  (hbody : ∀ (cdv : Value) (A : Around) (outer : List Env) (s : Shared) (H : Hp) (E : XK),Room k (A.deeper (envOfC qual (defScope st) s.heap.objs.size fad cdv))->QSs (cxOf CX0 P w K mg base N qual (defScope st) fad cdv A outer s H E).nox (defBody st) (tN S f)) : FnOk P w K mg base CX0 (k + 1) fad fd ps (spD (fnS ps.length N.length f) ps.length):=
 F.ok sc (fun vs H Q E h=>spD_len h) fun cdv A outer s H vs Q E hr h=>⟨_,(hbody cdv A outer s H E hr).out,fn_bodyN hown h⟩
theorem cal_mkN {P : Program} {w : World} {K : PySem.W.Frag} {mg : Str->Option Value} {base : Heap} {x : Str} {k : Nat} {st : Stmt} {fad : Addr} {fd : FuncData} {N ps : List Str} {fs : FS} (F : Fun K x x st fad fd) (hm : mg x = some (.ref fad)) (hb : Binds K fd ps []) (sc : FnScope N ps (defScope st)) (S : Nat->Bool) (hown : ∀ i,i < ps.length->S i = false) (hNl : ps.length<=N.length)
  (hbody : ∀ (cdv : Value) (A : Around) (outer : List Env) (s : Shared) (H : Hp) (E : XK),Room k (A.deeper (envOfC x (defScope st) s.heap.objs.size fad cdv))->QSs (cxOf CX0 P w K mg base N x (defScope st) fad cdv A outer s H E).nox (defBody st) (tN S fs)) : CalOk P w K mg base (k + 1) x ps.length (fnS ps.length N.length fs):=
 ⟨fad,fd,ps,fn_okN F sc S hown hNl hbody,hm,F.kp,hb⟩
end Mi
end
section
set_option maxRecDepth 100000
namespace Mi
open PySem L2 PySem.SeqAt PySem.Spec PyProof.Rows
noncomputable def isLst : D->Bool
 | .lst _=>true
 | _=>false
noncomputable def sOwn (i : Nat) (f : FE) : FS:=fun ρ=>do
 let d <- f ρ
 match d with
 | .lst ds=>if D.pures ds then .ok (.nx (ρ.set i (.lst ds))) else .bad
 | _=>.bad
noncomputable def sMv (i j : Nat) : FS:=fun ρ=>match ρ.getD i .undef,ρ.getD j .undef with
 | .lst xs,.lst ys=>if decide (xs.length < lim) && xs.all isLst && D.pures ys then .ok (.nx ((ρ.set i (.lst (xs ++ [.lst ys]))).set j .undef)) else .bad
 | _,_=>.bad
variable [KFrag]
variable {S : Nat->Bool}
theorem InL.repP {H : Hp} {vs : List V} {ds : List D} {as : List Addr} {P : Addr->Prop} (h : InL H vs ds as) (hp : ∀ a ∈ as,P a) : Reps P H vs ds:=by
 induction h with
 | nil=>exact .nil
 | cons e r p t ih=>exact .cons (.lst e (hp _ (List.mem_cons_self ..)) (r.ofPure p)) (ih fun a ha=>hp a (List.mem_cons_of_mem _ ha))
theorem InK.repP {H : Hp} {vs : List (Key × V)} {ds : List (D × D)} {as : List Addr} {P : Addr->Prop} (h : InK H vs ds as) (hp : ∀ a ∈ as,P a) : RepK P H vs ds:=by
 induction h with
 | nil=>exact .nil
 | cons e r p t ih=>exact .cons (.lst e (hp _ (List.mem_cons_self ..)) (r.ofPure p)) (ih fun a ha=>hp a (List.mem_cons_of_mem _ ha))
theorem Nest.repP {H : Hp} {b : Addr} {as : List Addr} {d : D} {P : Addr->Prop} (h : Nest H b as d) (hp : ∀ a ∈ b :: as,P a) : Rep P H (.ref b) d:=by
 have hb:=hp b (List.mem_cons_self ..)
 have ha : ∀ a ∈ as,P a:=fun a h=>hp a (List.mem_cons_of_mem _ h)
 cases h with
 | lst e i=>exact .lst e hb (i.repP ha)
 | dct e i n=>exact .dK e hb (i.repP ha) n
 | pln z e r p=>exact .lst e hb (r.ofPure p)
theorem InL.snoc {H : Hp} {vs : List V} {ds : List D} {as : List Addr} {a : Addr} {ws : List V} {ys : List D} (h : InL H vs ds as) (e : H a = some (.lst ws)) (r : Reps All H ws ys) (p : D.pures ys = true) : InL H (vs ++ [.ref a]) (ds ++ [.lst ys]) (as ++ [a]):=by
 induction h with
 | nil=>exact .cons e r p .nil
 | cons e' r' p' t ih=>exact .cons e' r' p' ih
section
variable {X : Cx} {e : Expr} {pos pos' : Pos} {fe : FE} {re : Bool}
theorem ns_own {i : Nat} {x : Str} (ho : S i = true) (hN : X.N.Nodup) (hi : X.N[i]? = some x) (hx : Loc X.env.scope x) (he : PE X e (gE fe true)) (hs : swapsWith e (some (.Name x pos')) pos.line X.env = pure false:=by rfl) (hf : X.fn x = true\/X.env.scope.names.lookup x = some .local:=by first | exact .inl rfl | exact .inr rfl | assumption) :
  QS X (.Assign [.Name x pos'] e pos) (tN S (sOwn i fe)):=QS.mk fun pins s σ H D I ⟨c,ρ,fl,E,h,q⟩=>by
 have hl : i < σ.length:=by
  rw [I.len]
  exact (List.getElem?_eq_some_iff.mp hi).1
 obtain ⟨d,h1,h2⟩:=bindE h
 refine ps_set hN hi hx he hs hf pins s σ H D I ⟨ρ,d,E.er,h1,fun v H' sm r n=>?_⟩
 split at h2
 ·rename_i ds
  split at h2
  ·rename_i hp
   cases h2
   have n':=n rfl
   cases n' with
   | lst ea pa ra=>
    obtain ⟨c',E',k⟩:=E.new (i:=i) (as:=[]) ho hl sm (by simp) (fun a ha=>by rw [List.mem_singleton.mp ha];exact pa) (.pln rfl ea ra.all hp)
    exact q c' _ _ k E'
  ·cases h2
 ·cases h2
theorem ns_retV {i : Nat} {x : Str} (ho : S i = true) (hN : X.N[i]? = some x) (hv : Vis X.env.scope x) (hd : (x == ("__debug__" : Str)) = false:=by decide) (hcd : (x == ("__classdict__" : Str)) = false:=by decide) : QS X (.Return (some (.Name x pos')) pos) (tN S (sRetV i)):=QS.mk <|
 PS.imp (ps_ret (pe_var hN hv hd hcd)) fun D σ H ⟨c,ρ,fl,E,h,q⟩=>by
 obtain ⟨d,h1,h2⟩:=bindE h
 cases h2
 obtain ⟨v,hσ,r,e⟩:=E.er.var h1
 have hne : ρ.getD i .undef ≠ .undef:=fun z=>by rw [z] at e;subst e;exact Rep.undef r
 obtain ⟨⟨b,as⟩,hc⟩:=E.all i ho hne
 obtain ⟨h3,h4⟩:=E.nst i b as hc
 rw [e] at h4
 exact ⟨_,h3,q _ H (fun a o e _=>e) (h4.repP fun a ha=>.inl ⟨i,b,as,hc,ha⟩)⟩
theorem ns_mv {i j : Nat} {x y : Str} {p1 p2 apos cpos : Pos} (hi : S i = true) (hj : S j = true) (hij : i ≠ j) (hN : X.N[i]? = some x) (hv : Vis X.env.scope x) (hNj : X.N[j]? = some y) (hvj : Vis X.env.scope y) (hd : (x == ("__debug__" : Str)) = false:=by decide) (hcd : (x == ("__classdict__" : Str)) = false:=by decide) (hdy : (y == ("__debug__" : Str)) = false:=by decide) (hcdy : (y == ("__classdict__" : Str)) = false:=by decide)
  (hbase : attributeBase (.Name x p1) "append" X.env (eval (.Name x p1) X.env) = eval (.Name x p1) X.env:=by rfl)
  (hs1 : starEach [.Name y p2] X.env = (false,eval (.Name y p2) X.env) :: starEach [] X.env:=by rfl)
  (hfew : ((backTo cpos (starEach [.Name y p2] X.env)).all (fun x=>!x.1) && (backToKw cpos (keywordEach [] X.env)).all (fun x=>x.1.isSome)
   && decide (([.Name y p2] : List Expr).length + ([] : List Keyword).length + (if ([] : List Keyword).isEmpty then 0 else 1) < 30)) = true:=by rfl)
  (hline : (apos.endLine == cpos.line) = true:=by rfl)
  (hs : swapsWith (.Call (.Attribute (.Name x p1) "append" apos) [.Name y p2] [] cpos) none pos.line X.env = pure false:=by rfl) :
  QS X (.Expr (.Call (.Attribute (.Name x p1) "append" apos) [.Name y p2] [] cpos) pos) (tN S (sMv i j)):=QS.mk <|
 PS.imp (ps_expr (pe_bm PySem.F.plainAttrs_list PySem.F.slot_list_append PySem.F.type_list_append mt_append (pe_var hN hv hd hcd) (pa_cons (pe_var hNj hvj hdy hcdy) pa_nil hs1) hbase hfew hline hs1 rfl) hs) fun D' σ H ⟨c,ρ,fl,E,h,q⟩=>by
 unfold sMv at h
 split at h
 ·rename_i xs ys hx hy
  split at h
  ·rename_i hg
   cases h
   simp only [Bool.and_eq_true,decide_eq_true_eq] at hg
   obtain ⟨⟨hg1,hg2⟩,hg3⟩:=hg
   obtain ⟨⟨b,as⟩,hc⟩:=E.all i hi (by rw [hx];intro z;cases z)
   obtain ⟨⟨a,as'⟩,hc'⟩:=E.all j hj (by rw [hy];intro z;cases z)
   obtain ⟨hσ,hNi⟩:=E.nst i b as hc
   obtain ⟨hσj,hNj0⟩:=E.nst j a as' hc'
   rw [hx] at hNi
   rw [hy] at hNj0
   obtain ⟨vs,eb,il⟩ : ∃ vs,H b = some (.lst vs)/\InL H vs xs as:=by
    cases hNi with
    | lst e i=>exact ⟨_,e,i⟩
    | pln z e r p=>
     cases xs with
     | nil=>cases r;subst z;exact ⟨[],e,.nil⟩
     | cons d ds=>
      rw [D.pures,Bool.and_eq_true] at p
      rw [List.all_cons,Bool.and_eq_true] at hg2
      cases d <;> simp [isLst] at hg2
      rw [D.pure] at p
      cases p.1
   obtain ⟨ws,ea,ra⟩ : ∃ ws,H a = some (.lst ws)/\Reps All H ws ys:=by
    cases hNj0 with
    | lst e i=>exact ⟨_,e,i.reps⟩
    | pln z e r p=>exact ⟨_,e,r⟩
   have hdj:=E.dj j i a as' b as (Ne.symm hij) hc' hc
   have hab : a ∉ b :: as:=hdj a (List.mem_cons_self ..)
   have hnab : a ≠ b:=fun z=>hab (by rw [z];exact List.mem_cons_self ..)
   have hnd:=E.nd i b as hc
   rw [List.nodup_cons] at hnd
   refine ⟨.ref b,hσ,.inl ⟨rfl,vs,.of eb⟩,.ref a,hσj,b,vs,.ref a,rfl,rfl,eb,by rw [il.reps.length];exact lim_lt (decide_eq_true hg1),?_⟩
   have lenr : ∀ n v,σ[n]? = some (some v)->n < ρ.length:=fun n v h=>by rw [<- E.len];exact (List.getElem?_eq_some_iff.mp h).1
   have li:=lenr i _ hσ
   have lj:=lenr j _ hσj
   have hob : OwnC c b:=⟨i,b,as,hc,List.mem_cons_self ..⟩
   have own : ∀ z,OwnC (fun k=>if k = i then some (b,as ++ [a]) else if k = j then none else c k) z->OwnC c z:=fun z ⟨k,b',as2,hk,hz⟩=>by
    by_cases e1 : k = i
    ·simp only [e1,if_true,Option.some.injEq,Prod.mk.injEq] at hk
     obtain ⟨rfl,rfl⟩:=hk
     rcases List.mem_cons.mp hz with hz | hz
     ·exact ⟨i,b,as,hc,by rw [hz];exact List.mem_cons_self ..⟩
     ·rcases List.mem_append.mp hz with hz | hz
      ·exact ⟨i,b,as,hc,List.mem_cons_of_mem _ hz⟩
      ·rw [List.mem_singleton.mp hz]
       exact ⟨j,a,as',hc',List.mem_cons_self ..⟩
    ·by_cases e2 : k = j
     ·simp [e2,Ne.symm hij] at hk
     ·simp only [e1,e2,if_false] at hk
      exact ⟨k,b',as2,hk,hz⟩
   have k : KC c H (fun k=>if k = i then some (b,as ++ [a]) else if k = j then none else c k) (upd H b (.lst (vs ++ [.ref a]))):=fun z o e n=>⟨by rw [upd_ne (fun q=>n (by rw [q];exact hob))];exact e,fun w=>n (own z w)⟩
   have hInew : InL (upd H b (.lst (vs ++ [.ref a]))) (vs ++ [.ref a]) (xs ++ [.lst ys]) (as ++ [a]):=(il.upd hnd.1 eb rfl).snoc (by rw [upd_ne hnab];exact ea) (ra.upd hg3 eb rfl) hg3
   refine q (fun k=>if k = i then some (b,as ++ [a]) else if k = j then none else c k) σ _ k ⟨by simp [E.len],fun m p hm=>?_,fun m b' as2 hm=>?_,fun m1 m2 b1 as1 b2 as2 hne h1 h2 z hz=>?_,fun m hm=>?_,fun m b' as2 hm=>?_,fun m hm hdm=>?_⟩
   ·by_cases e1 : m = i
    ·rw [e1];exact hi
    ·by_cases e2 : m = j
     ·rw [e2];exact hj
     ·simp only [e1,e2,if_false] at hm
      exact E.dom m p hm
   ·by_cases e1 : m = i
    ·simp only [e1,if_true,Option.some.injEq,Prod.mk.injEq] at hm
     obtain ⟨rfl,rfl⟩:=hm
     rw [List.nodup_cons,List.mem_append,List.mem_singleton,List.nodup_append]
     refine ⟨fun z=>z.elim hnd.1 (fun z=>hnab z.symm),hnd.2,by simp,fun u hu w hw q=>?_⟩
     rw [List.mem_singleton.mp hw] at q
     exact hab (by rw [<- q];exact List.mem_cons_of_mem _ hu)
    ·by_cases e2 : m = j
     ·simp [e2,Ne.symm hij] at hm
     ·simp only [e1,e2,if_false] at hm
      exact E.nd m b' as2 hm
   ·have cells : ∀ m b' as2,(if m = i then some (b,as ++ [a]) else if m = j then none else c m) = some (b',as2)->z ∈ b' :: as2->∃ m0 b0 as0,c m0 = some (b0,as0)/\z ∈ b0 :: as0/\(m0 = m\/(m = i/\m0 = j)):=fun m b' as2 hm hz=>by
     by_cases e1 : m = i
     ·simp only [e1,if_true,Option.some.injEq,Prod.mk.injEq] at hm
      obtain ⟨rfl,rfl⟩:=hm
      rcases List.mem_cons.mp hz with hz | hz
      ·exact ⟨i,b,as,hc,by rw [hz];exact List.mem_cons_self ..,.inl e1.symm⟩
      ·rcases List.mem_append.mp hz with hz | hz
       ·exact ⟨i,b,as,hc,List.mem_cons_of_mem _ hz,.inl e1.symm⟩
       ·exact ⟨j,a,as',hc',by rw [List.mem_singleton.mp hz];exact List.mem_cons_self ..,.inr ⟨e1,rfl⟩⟩
     ·by_cases e2 : m = j
      ·simp [e2,Ne.symm hij] at hm
      ·simp only [e1,e2,if_false] at hm
       exact ⟨m,b',as2,hm,hz,.inl rfl⟩
    intro hz2
    obtain ⟨n1,d1,es1,g1,g2,g3⟩:=cells m1 b1 as1 h1 hz
    obtain ⟨n2,d2,es2,g4,g5,g6⟩:=cells m2 b2 as2 h2 hz2
    have nn : n1 ≠ n2:=fun q=>by
     subst q
     rcases g3 with g3 | ⟨g3,g3'⟩ <;> rcases g6 with g6 | ⟨g6,g6'⟩
     ·exact hne (g3.symm.trans g6)
     ·have : m1 = j:=g3.symm.trans g6'
      simp [this,Ne.symm hij] at h1
     ·have : m2 = j:=g6.symm.trans g3'
      simp [this,Ne.symm hij] at h2
     ·exact hne (g3.trans g6.symm)
    exact E.dj n1 n2 d1 es1 d2 es2 nn g1 g4 z g2 g5
   ·rw [getD_set] at hm ⊢
    by_cases e2 : j = m/\j < (ρ.set i (.lst (xs ++ [.lst ys]))).length
    ·rw [if_pos e2] at hm;exact absurd rfl hm
    ·rw [if_neg e2] at hm ⊢
     rw [getD_set] at hm ⊢
     by_cases e1 : i = m/\i < ρ.length
     ·obtain ⟨rfl,_⟩:=e1
      exact ⟨_,hσ,fun z=>by rw [hi] at z;cases z⟩
     ·rw [if_neg e1] at hm ⊢
      obtain ⟨w,g1,g2⟩:=E.at_ m hm
      exact ⟨w,g1,fun hs=>k.rep E (g2 hs)⟩
   ·by_cases e1 : m = i
    ·subst e1
     simp only [if_true,Option.some.injEq,Prod.mk.injEq] at hm
     obtain ⟨rfl,rfl⟩:=hm
     rw [getD_set,if_neg (fun z=>hij z.1.symm),getD_set,if_pos ⟨rfl,li⟩]
     exact ⟨hσ,.lst upd_same hInew⟩
    ·by_cases e2 : m = j
     ·simp [e2,Ne.symm hij] at hm
     ·simp only [e1,e2,if_false] at hm
      rw [getD_set,if_neg (fun z=>e2 z.1.symm),getD_set,if_neg (fun z=>e1 z.1.symm)]
      obtain ⟨g1,g2⟩:=E.nst m b' as2 hm
      exact ⟨g1,g2.upd (E.dj i m b as b' as2 (Ne.symm e1) hc hm b (List.mem_cons_self ..)) eb rfl⟩
   ·by_cases e1 : m = i
    ·exact ⟨(b,as ++ [a]),by simp [e1]⟩
    ·by_cases e2 : m = j
     ·subst e2
      rw [getD_set,if_pos ⟨rfl,by rw [List.length_set];exact lj⟩] at hdm
      exact absurd rfl hdm
     ·rw [getD_set,if_neg (fun z=>e2 z.1.symm),getD_set,if_neg (fun z=>e1 z.1.symm)] at hdm
      obtain ⟨p,hp⟩:=E.all m hm hdm
      exact ⟨p,by simp [e1,e2,hp]⟩
  ·cases h
 ·cases h
end
end Mi
end
section
set_option maxRecDepth 100000
namespace Wn
open PySem PySem.Spec
section
variable {prog : Program} {w : World} {A : Around} {E : Value->Shared->Prop} {s : Shared}
theorem both {α : Type} {M : Model} {c : Prop} [Decidable c] {a b : Sem α} {Q : α->Shared->Prop} (h1 : wpAny M A a Q E s) (h2 : wpAny M A b Q E s) : wpAny M A (if c then a else b) Q E s:=by
 by_cases h : c
 ·rw [if_pos h];exact h1
 ·rw [if_neg h];exact h2
theorem new_kw (l : Addr) (items : Array Value) (n : Nat) (dd : Option Addr) (sl : Array (Option Value)) (t : Tok) :
  Meets (Builtin.«enumerate.__new__» ⟨[.type "enumerate",.ref l],[("start",.int 1 t)]⟩) (fun _ R s=>s.heap.get? l = some { cls:=.type "list",dict:=dd,data:=.seq items n,slots:=sl }/\
   ∀ h' e it tk,it = s.heap.objs.size->e = it + 1->IsEnum h' e it 1 .none->h'.IsListIter it l 0->h'.objs.size = it + 2->(∀ b o,s.heap.get? b = some o->h'.get? b = some o)->R (.ok (.ret (.ref e))) { s with heap:=h',toks:=tk }):=.of_wp fun prog w A R s hs=>by
 obtain ⟨hp,g,d,tk,os⟩:=s
 obtain ⟨hl,q⟩:=hs
 have sub:=sub_enumerate
 have p : Heap.IsList (Shared.heap ⟨hp,g,d,tk,os⟩) l items:=⟨_,hl,rfl,n,rfl⟩
 have hz : (hp.push { cls:=.type "list_iterator",data:=.fields #[.ref l,.int 0 0] }).objs.size = hp.objs.size + 1:=Heap.size_push ..
 have fin : ∀ (tk' : Nat),R (.ok (.ret (.ref (hp.push { cls:=.type "list_iterator",data:=.fields #[.ref l,.int 0 0] }).objs.size))) ⟨(hp.push { cls:=.type "list_iterator",data:=.fields #[.ref l,.int 0 0] }).push { cls:=.type "enumerate",data:=.fields #[.none,.bool false,.ref hp.objs.size,rawInt 1,.none,.none] },g,d,tk',os⟩:=fun tk'=>by
  refine q _ _ _ tk' rfl hz (Heap.get?_push_size _ rfl) ⟨_,Heap.get?_push_of_some _ (Heap.get?_push_size _ rfl),rfl,rfl⟩ ?_ fun b o e=>Heap.get?_push_of_some _ (Heap.get?_push_of_some _ e)
  rw [Heap.size_push,hz]
 wp_walk using PySem.AutoSeq1.wpAny_loadPart' hl
 refine wpAny_stack_any fun st=>wpAny_pure ?_
 refine both ?_ ?_
 ·wp_walk using PySem.AutoSeq1.wpAny_loadPart' hl,wpAny_pyIter_list p
  exact ⟨_,rfl,fin tk⟩
 ·wp_walk using PySem.AutoSeq1.wpAny_loadPart' hl,wpAny_pyIter_list p
  exact ⟨_,rfl,fin tk⟩
theorem chk_t (a : Value) (t : Tok) : checkTypeCall "enumerate" ⟨[a],[("start",.int 1 t)]⟩ = pure ():=by kernel_rfl
theorem chk_n (a : Value) (t : Tok) : checkBuiltinCall "enumerate.__new__" ⟨[.type "enumerate",a],[("start",.int 1 t)]⟩ = pure ():=by kernel_rfl
theorem chk_i (a b : Value) (t : Tok) : argsOk "object.__init__" ⟨[a,b],[("start",.int 1 t)]⟩:=by kernel_rfl
theorem init_kw {self b : Value} {t : Tok} {R : PySem.Fin->Shared->Prop} (hT : s.TypeIs self "enumerate") (q : R (.done (.ret .none)) s) : wpAny (model prog w) A (Builtin.«object.__init__» ⟨[self,b],[("start",.int 1 t)]⟩) R E s:=by
 have hl:=F.called_enumerate.init.lookup
 have hm:=F.called_enumerate.made
 repeat (any_goals (first | assumption | wp_step))
theorem call_kw {l : Addr} {items : Array Value} {t : Tok} {Q : Value->Shared->Prop} (hL : s.heap.IsList l items)
  (q : ∀ h' e it tk,it = s.heap.objs.size->e = it + 1->IsEnum h' e it 1 .none->h'.IsListIter it l 0->h'.objs.size = it + 2->(∀ b o,s.heap.get? b = some o->h'.get? b = some o)->Q (.ref e) { s with heap:=h',toks:=tk }) :
  wpAny (model prog w) A (call (.type "enumerate") [.ref l] [("start",.int 1 t)]) Q E s:=by
 have ft:=F.called_enumerate
 obtain ⟨c,tl,m0⟩:=ft.mro
 have m1:=ft.made;have m2:=ft.sub;have m3:=ft.notType;have m4:=ft.canCreate
 have k1:=chk_t (.ref l) t
 obtain ⟨⟨cl,dd,da,sl⟩,e,hc,n,hd⟩:=hL
 simp only at hc hd
 subst hc hd
 refine wpAny_call (codeAny_of_tree (show wpAny _ _ (callAny (.type "enumerate") _) _ _ _ from wpAny_pure ⟨Code.quiet_builtin _ (by decide +kernel),codeAny_builtin F.entry_type_call ?_⟩))
 rw [Around.under_plain (weight_type_call_type "enumerate" _ _) (units_type_call_type "enumerate" _ _)]
 repeat (any_goals (first | assumption | wp_step))
 have step : ∀ c (R : Result->Shared->Prop),c = (Code.call (.builtin "enumerate.__new__") ⟨[.type "enumerate",.ref l],[("start",.int 1 t)]⟩)->(∀ h' e it tk,it = s.heap.objs.size->e = it + 1->IsEnum h' e it 1 .none->h'.IsListIter it l 0->h'.objs.size = it + 2->(∀ b o,s.heap.get? b = some o->h'.get? b = some o)->R (.ok (.ret (.ref e))) { s with heap:=h',toks:=tk })->codeAny (model prog w) A.in1 c R s:=fun c R hc hq=>by
  subst hc
  exact codeAny_call_builtin ft.plain F.entry_enumerate_new (wpAny_of_eq (chk_n (.ref l) t) (new_kw l items n dd sl t prog w A.in1 R s ⟨e,hq⟩))
 refine codeAny_mono (step _ (fun r s1=>∃ h' a it tk,r = .ok (.ret (.ref a))/\s1 = { s with heap:=h',toks:=tk }/\IsEnum h' a it 1 .none/\Q (.ref a) s1) rfl fun h' a it tk x1 x2 x3 x4 x5 x6=>⟨h',a,it,tk,rfl,rfl,x3,q h' a it tk x1 x2 x3 x4 x5 x6⟩) fun r s1 hr=>?_
 obtain ⟨h',a,it,tk,rfl,rfl,x3,hq⟩:=hr
 have hT : ({ s with heap:=h',toks:=tk } : Shared).TypeIs (.ref a) "enumerate":=⟨_,x3,rfl⟩
 have hli:=ft.init.lookup;have hbi:=ft.init.bind (.ref a)
 repeat (any_goals (first | assumption | wp_step))
 have step2 : ∀ c (R : Result->Shared->Prop),c = (Code.call (.builtin "object.__init__") ⟨[.ref a,.ref l],[("start",.int 1 t)]⟩)->R (.ok (.ret .none)) { s with heap:=h',toks:=tk }->codeAny (model prog w) A.in1 c R { s with heap:=h',toks:=tk }:=fun c R hc hq=>by
  subst hc
  exact codeAny_call_builtin ft.init.plain F.entry_object_init (ft.init.check _ _ _ _ _ _ _ _ hT (chk_i _ _ _) (init_kw hT hq))
 refine codeAny_mono (step2 _ (fun r s2=>r = .ok (.ret .none)/\s2 = { s with heap:=h',toks:=tk }) rfl ⟨rfl,rfl⟩) fun r s2 hr=>?_
 obtain ⟨rfl,rfl⟩:=hr
 repeat (any_goals (first | assumption | wp_step))
end
end Wn
namespace Wn
open PySem PySem.Spec
theorem shift {prog : Program} {w : World} {A : Around} {it : Addr} {fp : List Addr} {n : Nat} {P : Nat->Value->Prop} {St : Nat->Heap->Prop} (D : Draws prog w A it fp n P St) (m : Nat) : Draws prog w A it fp (m + n) (fun j v=>P (j - m) v) (fun j h=>∃ i,j = m + i/\St i h) where
 live:=fun j h ⟨i,_,st⟩=>D.live i h st
 frame:=fun j h h' ⟨i,e,st⟩ k=>⟨i,e,D.frame i h h' st k⟩
 item:=fun j s Q E hj ⟨i,e,st⟩ hQ=>D.item i s Q E (by lia) st fun x h' tk px st' sb=>hQ x h' tk (by rw [e,Nat.add_sub_cancel_left];exact px) ⟨i + 1,by lia,st'⟩ sb
 done:=fun s Q E ⟨i,e,st⟩ hE=>by
  obtain rfl : n = i:=by lia
  exact D.done s Q E st hE
theorem over {prog : Program} {w : World} {A : Around} (hh : A.handled = none) (it l : Addr) (items : Array Value) (i : Nat) (hi : items[i]? = none) : Draws prog w A it [it,l] 0 (fun _ _=>True) (fun _ h=>h.IsListIter it l i/\h.IsList l items) where
 live:=fun _ _ st=>let ⟨o,ho,_⟩:=st.1;⟨o,ho⟩
 frame:=fun _ _ _ st k=>⟨st.1.at fun o e=>k it (List.mem_cons_self ..) o e,st.2.at fun o e=>k l (by simp) o e⟩
 item:=fun j s Q E hj=>absurd hj (Nat.not_lt_zero _)
 done:=fun s Q E st hE=>wpAny_nextOf_list_end hh st.1 st.2 hi hE
end Wn
namespace Mi
open PySem L2 PySem.SeqAt PySem.Spec PyProof.Rows
noncomputable def bEnumF (m : Nat) (a : FE) (fr : Bool) : FI:=fun ρ=>do let x <- a ρ;let xs <- enumI x;pure (enumF m xs,fr || x.pure)
variable [KFrag]
theorem cls_ne {h : Heap} {a b : Addr} {o u : Obj} {T U : String} (e : h.get? a = some o) (hc : o.cls = .type T) (e' : h.get? b = some u) (hc' : u.cls = .type U) (ne : (Value.type T == Value.type U) = false) : a ≠ b:=fun q=>by
 subst q
 rw [e] at e'
 cases e'
 rw [hc] at hc'
 rw [hc'] at ne
 simp at ne
theorem turn_enumF {P : Program} {w : World} {K : PySem.W.Frag} {elts : List Expr} {x1} {tp : Pos} (m : Nat) (a e it : Addr) (hne : e ≠ it) : Turn P w K (.Tuple elts x1 tp) (IteF K m a) [e,it] e (fun i h=>(∃ old,IsEnum h e it ((m + i : Nat) : Int) old)/\h.IsListIter it a i) where
 mem:=List.mem_cons_self ..
 obj:=fun i h ⟨⟨old,h1⟩,o,h2,_,h3⟩ b hb=>by
  simp only [List.mem_cons,List.not_mem_nil,or_false] at hb
  rcases hb with rfl | rfl
  ·exact ⟨_,h1,fun v z=>nomatch (show Data.fields _ = Data.cell v from z)⟩
  ·exact ⟨o,h2,fun v z=>by rw [h3] at z;cases z⟩
 keep:=fun i h h' ⟨⟨old,h1⟩,h2⟩ k=>⟨⟨old,k e (List.mem_cons_self ..) _ h1⟩,h2.at fun o q=>k it (by simp) o q⟩
 item:=by
  intro Y hP hw hK hc i pins s σ H E I hf ⟨⟨old,h1⟩,h2⟩ ⟨xs,x,hq,hx⟩
  subst hP hw hK
  obtain ⟨its,rv,p,hz⟩:=I.list hq
  obtain ⟨u,hu,ru⟩:=rv.get hx
  have hlt : e < s.heap.objs.size:=Heap.lt_size h1
  obtain ⟨oi,e2,c2,d2⟩:=id h2
  obtain ⟨ol,e3,c3,_⟩:=id p.isList
  have nai : a ≠ it:=cls_ne e3 c3 e2 c2 (by decide)
  have nea : e ≠ a:=cls_ne h1 rfl e3 c3 (by decide)
  have D:=Wn.shift (Draws.list (prog:=Y.prog) (w:=Y.w) (A:=Y.A.in1) (show Y.A.in1.handled = none from I.ok.hd hc) it a nai its.toArray) m
  have hil : i < its.toArray.size:=by
   have:=(List.getElem?_eq_some_iff.mp hu).1
   simpa using this
  refine wpAny_pyNext_enum_itemD D h1 ⟨i,rfl,h2,p.isList⟩ (by lia) hne (by simp [hne,nea]) fun v h' tk o0 o1 o2 o3 o4 o5=>?_
  rw [Nat.add_sub_cancel_left] at o0
  obtain rfl : u = v:=by
   have : its[i]? = some v:=by simpa using o0
   rw [hu] at this
   exact Option.some.inj this
  obtain ⟨i',ei,st1,st2⟩:=o2
  obtain rfl : i' = i + 1:=by lia
  refine ⟨_,rfl,wpAny_letOwnedTupleGo_enum o1 fun h'' g1 g2=>?_⟩
  have sb : Heap.SameBut e h' h'':=g2
  have kk : ∀ b o,b ∉ [e,it]->s.heap.get? b = some o->h''.get? b = some o:=fun b o hb eb=>by
   simp only [List.mem_cons,List.not_mem_nil,or_false,not_or] at hb
   exact (sb.2 b hb.1).trans (o5 b o hb.1 hb.2 eb)
  have t3 : h''.get? s.heap.objs.size = some { cls:=.type "tuple",data:=.seq #[.int ((m + i : Nat) : Int) tk,u] }:=(sb.2 _ (Nat.ne_of_gt hlt)).trans o3
  refine ⟨.ref s.heap.objs.size,upd H s.heap.objs.size (.tup [.int ((m + i : Nat) : Int),x]),inv_turnNew (s:=s) (h':=h'') (t':=tk + 1) (ch:=[e,it]) I kk (fun b hb=>hf b hb) (Nat.le_refl _) ?_,rfl,⟨_,x,fun ys hy=>by rw [I.list_inj hy hq];exact hx,rfl,I.hok.fresh (Nat.le_refl _),rfl⟩,⟨⟨u,?_⟩,?_⟩,fun b hb=>?_⟩
  ·exact ⟨by show 2<=sizeLine;rw [sizeLine_eq];decide,[.int ((m + i : Nat) : Int) tk,u],.cons ⟨_,rfl⟩ (.cons ru .nil),⟨_,t3,rfl,0,rfl⟩⟩
  ·have : ((m + (i + 1) : Nat) : Int) = ((m + i : Nat) : Int) + 1:=by lia
   rw [this]
   exact g1
  ·obtain ⟨o,ho,r⟩:=st1
   exact ⟨o,(sb.2 it (Ne.symm hne)).trans ho,r⟩
  ·rw [upd_ne]
   ·exact (hf b hb).1
   ·intro z
    simp only [List.mem_cons,List.not_mem_nil,or_false] at hb
    rcases hb with h | h
    ·rw [<- h,z] at hlt;exact Nat.lt_irrefl _ hlt
    ·have:=Heap.lt_size e2
     rw [<- h,z] at this
     exact Nat.lt_irrefl _ this
 done:=by
  intro Y hP hw hK hc i pins s σ H E I hf ⟨⟨old,h1⟩,h2⟩ ⟨xs,hq,hx⟩
  subst hP hw hK
  obtain ⟨its,rv,p,hz⟩:=I.list hq
  obtain ⟨f0,f1,f2,f3,f4,f5⟩:=hf it (by simp)
  have hl:=rv.length
  exact wpAny_pyNext_enum_endD (Wn.over (show Y.A.in1.handled = none from I.ok.hd hc) it a its.toArray i (by simp;lia)) h1 ⟨h2,p.isList⟩ fun h' eb=>⟨rfl,I.turned (t':=s.toks) (fun b o hb e=>eb b o hb e) f0 f1 f3 f4 f5⟩
 self:=fun _ _ _ _ _ ⟨⟨old,h1⟩,_⟩ h=>wpAny_pyIter_enum h1 h
section
variable {X : Cx} {a : Expr} {fa : FE} {ra : Bool} {p pos : Pos}
theorem cw_type {M : Model} {A : Around} {E : Value->Shared->Prop} {s : Shared} {T : String} {args : List (Bool × Sem Value)} {kws : List (Option Str × Sem Value)} {Q : Value->Shared->Prop} (hp : args.any (·.1) = false) (hk : kws.any (·.1.isNone) = false)
  (h : wpAny M A (evalArgs (.type T) true args kws) (fun a s₁=>wpAny M A (call (.type T) a.pos a.kw) Q E s₁) E s) : wpAny M A (callWith pos (.type T) [] args kws) Q E s:=by
 unfold callWith
 refine wpAny_bind (wpAny_holding (wpAny_mono h (fun a s1 h1=>wpAny_bind (wpAny_standAt ?_)) fun _ _ x=>x))
 rw [hp,hk]
 exact wpAny_bind (wpAny_pure (wpAny_bind (wpAny_mono h1 (fun r s2 hr=>wpAny_bind (wpAny_holding (wpAny_point (wpAny_pure hr)))) fun _ _ x=>x)))
theorem mi_enumF {elts : List Expr} {x1} {tp kp cp : Pos} {j : Nat} (hg : Gl X "enumerate") (hm : X.mg "enumerate" = none) (ha : PA X [a] (gA (bCons fa bNil) ra)) (hs : starEach [a] X.env = [(false,eval a X.env)]:=by rfl) :
  PI X (.Tuple elts x1 tp) (.Call (.Name "enumerate" p) [a] [⟨some "start",.Constant (.int 1) j cp,kp⟩] pos) (gI X.K (bEnumF 1 fa ra)):=by
 intro pins s σ H R I ⟨ρ,items,k,E,h,q⟩
 obtain ⟨d,h1,h⟩:=bindE h
 obtain ⟨its,h2,h⟩:=bindE h
 cases h
 have hd : d = .lst its:=by
  unfold enumI at h2
  split at h2
  ·cases h2;rfl
  ·cases h2
 subst hd
 have hb : bCons fa bNil ρ = .ok [D.lst its]:=by
  unfold bCons
  rw [h1]
  rfl
 refine wpAny_Call_Name_kw (ld_blt I hg hm PyProof.Rows.boot_enumerate (cw_type (by rw [hs];rfl) rfl ?_))
 have hA:=ha pos pins s σ H (fun vs H1=>∃ v,vs = [v]/\Same H H1/\Rep All H1 v (.lst its)/\(ra = true->Rep (New H) H1 v (.lst its))) I ⟨ρ,_,E,hb,fun vs H1 s1 r1 n1=>by
  cases r1 with
  | cons r t=>
   cases t
   refine ⟨_,rfl,s1,r,fun z=>?_⟩
   cases n1 z with
   | cons r' _=>exact r'⟩
 rw [hs] at hA ⊢
 refine evalArgs_kwB rfl (thn hA fun us s1 ⟨vs,H1,I1,r1,q1⟩=>kws_cons (wpAny_Constant_int (kws_nil ?_)))
 obtain ⟨v,rfl,s1',r,n⟩:=q1
 cases r1 with
 | cons rv rr=>
  cases rr
  obtain ⟨l,ys,rfl,hl,rr⟩:=r.lstAt (K:=X.K)
  cases rv
  obtain ⟨vs,rvs,pl,hz⟩:=I1.list hl
  refine Wn.call_kw (s:={ s1 with toks:=s1.toks + 1 }) pl.isList fun h' e it tk e1 e2 e3 e4 e5 e6=>wpAny_pyIter_enum e3 ?_
  subst e2 e1
  have hp1 : ∀ b o,s1.heap.get? b = some o->h'.get? b = some o:=e6
  refine ⟨s1.heap.objs.size + 1,[s1.heap.objs.size + 1,s1.heap.objs.size],_,_,H1,rfl,I1.kept (t':=tk) fun b o e=>hp1 b o e,turn_enumF 1 l (s1.heap.objs.size + 1) s1.heap.objs.size (Nat.succ_ne_self _),⟨⟨_,e3⟩,e4⟩,fun b hb=>?_,q _ H1 s1' (.enf 1 l its rfl r rfl) fun hk=>.enf 1 l its rfl ?_ rfl⟩
  ·simp only [List.mem_cons,List.not_mem_nil,or_false] at hb
   rcases hb with rfl | rfl
   ·exact I1.fpOk (Nat.le_succ _) (I1.hok.fresh (Nat.le_succ _))
   ·exact I1.fpOk (Nat.le_refl _) (I1.hok.fresh (Nat.le_refl _))
  ·rw [Bool.or_eq_true] at hk
   rcases hk with hk | hk
   ·exact n hk
   ·cases hk
end
end Mi
end
section
local macro_rules | `(tactic| trivial) => `(tactic| first | exact Or.inl rfl | exact Or.inr rfl | exact Or.inr (Or.inl rfl) | exact Or.inr (Or.inr rfl))
set_option maxRecDepth 100000
namespace Lk42
open PySem L2 Mi PySem.W
noncomputable def top (i : Nat) : Stmt:=PySem.Challenge.pw_hookmill_k42_rows_read.main.body.getD i (.Pass ⟨0,0,0,0⟩)
noncomputable abbrev s__law_name : Stmt:=top 12
noncomputable def o__law_name : Nat->Bool:=fun i=>false
noncomputable def b__law_name : FS:=sSeq (sSet false 1 (bC (.str "abcdefghijklmnopqrstuvwxyz")) true) (sSeq (sIf (bTB (b2 (cmpD .eq) (b2 (binD .mod) (bVar 0) (bC (.int 9))) (bC (.int 8)))) (sRet (b2 getD (bLst (bCons (bC (.str "kind")) (bCons (bC (.str "maker")) (bCons (bC (.str "taker")) (bCons (bC (.str "rule")) (bCons (bC (.str "copy")) (bCons (bC (.str "drop")) (bNil)))))))) (b2 (binD .mod) (b2 (binD .fdiv) (bVar 0) (bC (.int 9))) (bC (.int 6)))) false) (sNil)) (sSeq (sSet false 2 (b2 (binD .add) (bC (.int 1)) (b2 (binD .mod) (b2 (binD .fdiv) (bVar 0) (bC (.int 9))) (bC (.int 8)))) true) (sSeq (sSet false 0 (b2 (binD .fdiv) (bVar 0) (bC (.int 72))) true) (sRet (bM joinM (bC (.str "")) (bCons (bComp 3 (bThen (bCons (bVar 2) (bNil)) rng1D) oneT (bTrue) (b2 getD (bVar 1) (b2 (binD .mod) (b2 (binD .add) (b2 (binD .fdiv) (bVar 0) (b2 (binD .add) (b2 mulX (bC (.int 26)) (bVar 3)) (bC (.int 1)))) (b2 (binD .mod) (bVar 0) (b2 (binD .add) (bVar 3) (bC (.int 2))))) (bC (.int 26)))) false) (bNil))) true))))
noncomputable def v__law_name : List D->Res D:=fnS 1 3 b__law_name
noncomputable abbrev s__law_names : Stmt:=top 13
noncomputable def o__law_names : Nat->Bool:=fun i=>false
noncomputable def b__law_names : FS:=sRet (bComp 2 (bThen (bCons (bVar 1) (bNil)) rng1D) oneT (bTrue) (bCall (argN 1 v__law_name) (bCons (b2 (binD .mod) (b2 (binD .add) (b2 mulX (bVar 0) (b2 (binD .add) (b2 mulX (bC (.int 2)) (bVar 2)) (bC (.int 5)))) (b2 mulX (bVar 2) (bC (.int 1299709)))) (bC (.int 1000000007))) (bNil))) true) true
noncomputable def v__law_names : List D->Res D:=fnS 2 2 b__law_names
noncomputable abbrev s__law_item : Stmt:=top 14
noncomputable def o__law_item : Nat->Bool:=fun i=>false
noncomputable def b__law_item : FS:=sSeq (sSet false 1 (b2 (binD .mod) (bVar 0) (bC (.int 6))) true) (sSeq (sSet false 2 (b2 (binD .fdiv) (bVar 0) (bC (.int 6))) true) (sSeq (sIf (bTB (b2 (cmpD .eq) (bVar 1) (bC (.int 0)))) (sRet (b2 (binD .add) (bLst (bCons (bC (.str "kind")) (bNil))) (bCall (argN 2 v__law_names) (bCons (bVar 2) (bCons (bC (.int 1)) (bNil))))) true) (sNil)) (sSeq (sIf (bTB (b2 (cmpD .eq) (bVar 1) (bC (.int 1)))) (sRet (b2 (binD .add) (bLst (bCons (bC (.str "maker")) (bNil))) (bCall (argN 2 v__law_names) (bCons (bVar 2) (bCons (b2 (binD .add) (bC (.int 2)) (b2 (binD .mod) (bVar 2) (bC (.int 4)))) (bNil))))) true) (sNil)) (sSeq (sIf (bTB (b2 (cmpD .eq) (bVar 1) (bC (.int 2)))) (sRet (b2 (binD .add) (bLst (bCons (bC (.str "taker")) (bNil))) (bCall (argN 2 v__law_names) (bCons (bVar 2) (bCons (b2 (binD .add) (bC (.int 3)) (b2 (binD .mod) (bVar 2) (bC (.int 3)))) (bNil))))) true) (sNil)) (sSeq (sIf (bTB (b2 (cmpD .eq) (bVar 1) (bC (.int 3)))) (sRet (bLst (bNil)) true) (sNil)) (sSeq (sSet false 3 (b2 (binD .add) (bC (.int 2)) (b2 (binD .mod) (bVar 2) (bC (.int 6)))) true) (sSeq (sSet false 4 (b2 (binD .add) (bC (.int 1)) (b2 (binD .mod) (b2 (binD .fdiv) (bVar 2) (bC (.int 6))) (bC (.int 5)))) true) (sSeq (sIf (bTB (b2 (cmpD .eq) (b2 (binD .mod) (b2 (binD .fdiv) (bVar 2) (bC (.int 30))) (bC (.int 5))) (bC (.int 0)))) (sSet false 4 (b2 (binD .add) (bC (.int 1)) (b2 (binD .mod) (b2 (binD .fdiv) (bVar 2) (bC (.int 150))) (bC (.int 40)))) true) (sNil)) (sSeq (sSet false 5 (bCall (argN 2 v__law_names) (bCons (bVar 2) (bCons (b2 (binD .add) (bVar 3) (bVar 4)) (bNil)))) true) (sRet (b2 (binD .add) (b2 (binD .add) (b2 (binD .add) (bLst (bCons (bC (.str "rule")) (bNil))) (bSlX (bVar 5) (bNone) (bSome (bVar 3)))) (bLst (bCons (bC (.str "=")) (bNil)))) (bSlX (bVar 5) (bSome (bVar 3)) (bNone))) true))))))))))
noncomputable def v__law_item : List D->Res D:=fnS 1 6 b__law_item
noncomputable abbrev s__law_mixed : Stmt:=top 11
noncomputable def o__law_mixed : Nat->Bool:=fun i=>false
noncomputable def b__law_mixed : FS:=sSeq (sSet false 2 (b2 (binD .mod) (b2 (binD .add) (b2 (binD .add) (b2 mulX (bVar 0) (bC (.int 40503))) (b2 mulX (b2 mulX (b2 (binD .add) (bVar 1) (bC (.int 5))) (b2 (binD .add) (bVar 1) (bC (.int 2)))) (bC (.int 265443)))) (bC (.int 23))) (bC (.int 999999937))) true) (sRet (b2 (binD .mod) (b2 (binD .add) (b2 mulX (bVar 2) (bVar 2)) (b2 mulX (bC (.int 97)) (bVar 2))) (bC (.int 998244353))) true)
noncomputable def v__law_mixed : List D->Res D:=fnS 2 3 b__law_mixed
noncomputable abbrev s__law_items : Stmt:=top 15
noncomputable def o__law_items : Nat->Bool:=fun i=>i == 1 || i == 5
noncomputable def b__law_items : FS:=sSeq (sNew 1 (empL 0)) (sSeq (sSet false 2 (bC (.int 4000)) true) (sSeq (sFor (bEnum (bSlX (bVar 0) (bNone) (bSome (bC (.int 120)))) true) (tgN [3,4]) (sSeq (sOwn 5 (bCall (argN 1 v__law_item) (bCons (bCall (argN 2 v__law_mixed) (bCons (bVar 4) (bCons (bVar 3) (bNil)))) (bNil)))) (sSeq (sSet false 6 (b2 (binD .add) (bCall lenD (bCons (bM joinM (bC (.str " ")) (bCons (bVar 5) (bNil))) (bNil))) (bC (.int 1))) true) (sIf (bTB (b2 (cmpD (.ord .le)) (bVar 6) (bVar 2))) (sSeq (sMv 1 5) (sSet false 2 (b2 (binD .sub) (bVar 2) (bVar 6)) true)) (sNil))))) (sRetV 1)))
noncomputable def v__law_items : List D->Res D:=fnS 1 7 b__law_items
noncomputable abbrev s__law_same : Stmt:=top 17
noncomputable def o__law_same : Nat->Bool:=fun i=>false
noncomputable def b__law_same (rr : List D->Res D) : FS:=sSeq (sIf (bTr (b1 (isTyD .str) (bVar 1))) (sRet (bAndV (b1 (isTyD .str) (bVar 0)) (b2 (cmpD .eq) (bVar 0) (bVar 1))) true) (sNil)) (sSeq (sIf (bOr (bNot (bTr (b1 (isTyD .tuple) (bVar 0)))) (bTB (b2 (cmpD .ne) (bCall lenD (bCons (bVar 0) (bNil))) (bCall lenD (bCons (bVar 1) (bNil)))))) (sRet (bC (.bl false)) true) (sNil)) (sRet (bCall allD (bCons (bComp 2 (bThen (bCons (bVar 0) (bCons (bVar 1) (bNil))) zipI) (tupT 2) (bTrue) (bCall (argN 2 rr) (bCons (bVar 2) (bCons (bVar 3) (bNil)))) true) (bNil))) true))
noncomputable def v__law_same : Nat->List D->Res D
 | 0=>fnS 2 2 sBad
 | m + 1=>fnS 2 2 (b__law_same (v__law_same m))
noncomputable abbrev s_are_small_letters : Stmt:=top 5
noncomputable def o_are_small_letters : Nat->Bool:=fun i=>false
noncomputable def b_are_small_letters : FS:=sRet (bCall allD (bCons (bComp 1 (bItemsX (bVar 0) false) oneT (bTrue) (bCh (cmpD (.ord .le)) (cmpD (.ord .le)) (bC (.str "a")) (bVar 1) (bC (.str "z"))) true) (bNil))) true
noncomputable def v_are_small_letters : List D->Res D:=fnS 1 1 b_are_small_letters
noncomputable abbrev s_is_name : Stmt:=top 4
noncomputable def o_is_name : Nat->Bool:=fun i=>false
noncomputable def b_is_name : FS:=sRet (bAndV (bCh (cmpD (.ord .le)) (cmpD (.ord .le)) (bC (.int 1)) (bCall lenD (bCons (bVar 0) (bNil))) (bC (.int 8))) (bCall (argN 1 v_are_small_letters) (bCons (bVar 0) (bNil)))) true
noncomputable def v_is_name : List D->Res D:=fnS 1 1 b_is_name
noncomputable abbrev s_are_names : Stmt:=top 6
noncomputable def o_are_names : Nat->Bool:=fun i=>false
noncomputable def b_are_names : FS:=sRet (bCall allD (bCons (bComp 1 (bItemsX (bVar 0) false) oneT (bTrue) (bCall (argN 1 v_is_name) (bCons (bVar 1) (bNil))) true) (bNil))) true
noncomputable def v_are_names : List D->Res D:=fnS 1 1 b_are_names
noncomputable abbrev s_rule_row : Stmt:=top 9
noncomputable def o_rule_row : Nat->Bool:=fun i=>false
noncomputable def b_rule_row : FS:=sSeq (sIf (bTB (b2 (cmpD .notin) (bC (.str "=")) (bVar 0))) (sRet (bC .non) true) (sNil)) (sSeq (sSet false 1 (bM indexT (bVar 0) (bCons (bC (.str "=")) (bNil))) true) (sSeq (sSet false 2 (bSlX (bVar 0) (bNone) (bSome (bVar 1))) true) (sSeq (sSet false 3 (bSlX (bVar 0) (bSome (b2 (binD .add) (bVar 1) (bC (.int 1)))) (bNone)) true) (sSeq (sIf (bNot (bAnd (bTB (bCh (cmpD (.ord .le)) (cmpD (.ord .le)) (bC (.int 2)) (bCall lenD (bCons (bVar 2) (bNil))) (bC (.int 7)))) (bAnd (bTB (bCh (cmpD (.ord .le)) (cmpD (.ord .le)) (bC (.int 1)) (bCall lenD (bCons (bVar 3) (bNil))) (bC (.int 40)))) (bAnd (bTr (bCall (argN 1 v_are_names) (bCons (bVar 2) (bNil)))) (bTr (bCall (argN 1 v_are_names) (bCons (bVar 3) (bNil)))))))) (sRet (bC .non) true) (sNil)) (sRet (bTup (bCons (b2 getD (bVar 2) (bC (.int 0))) (bCons (b2 getD (bVar 2) (bC (.int 1))) (bCons (bSlX (bVar 2) (bSome (bC (.int 2))) (bNone)) (bCons (bVar 3) (bNil)))))) false)))))
noncomputable def v_rule_row : List D->Res D:=fnS 1 4 b_rule_row
noncomputable abbrev s_row_of : Stmt:=top 8
noncomputable def o_row_of : Nat->Bool:=fun i=>false
noncomputable def b_row_of : FS:=sSeq (sSet false 1 (bCall tupleD (bCons (bSlX (bVar 0) (bSome (bC (.int 1))) (bNone)) (bNil))) false) (sSeq (sIf (bTB (b2 (cmpD .eq) (b2 getD (bVar 0) (bC (.int 0))) (bC (.str "rule")))) (sRet (bCall (argN 1 v_rule_row) (bCons (bVar 1) (bNil))) true) (sNil)) (sSeq (sIf (bNot (bTr (bCall (argN 1 v_are_names) (bCons (bVar 1) (bNil))))) (sRet (bC .non) true) (sNil)) (sSeq (sIf (bAnd (bTB (b2 (cmpD .eq) (b2 getD (bVar 0) (bC (.int 0))) (bC (.str "kind")))) (bTB (b2 (cmpD .eq) (bCall lenD (bCons (bVar 1) (bNil))) (bC (.int 1))))) (sRet (b2 getD (bVar 1) (bC (.int 0))) false) (sNil)) (sSeq (sIf (bAnd (bTB (b2 (cmpD .eq) (b2 getD (bVar 0) (bC (.int 0))) (bC (.str "maker")))) (bTB (bCh (cmpD (.ord .le)) (cmpD (.ord .le)) (bC (.int 2)) (bCall lenD (bCons (bVar 1) (bNil))) (bC (.int 5))))) (sRet (bTup (bCons (b2 getD (bVar 1) (bC (.int 0))) (bCons (b2 getD (bVar 1) (bC (.int 1))) (bCons (bSlX (bVar 1) (bSome (bC (.int 2))) (bNone)) (bNil))))) false) (sNil)) (sSeq (sIf (bAnd (bTB (b2 (cmpD .eq) (b2 getD (bVar 0) (bC (.int 0))) (bC (.str "taker")))) (bTB (bCh (cmpD (.ord .le)) (cmpD (.ord .le)) (bC (.int 3)) (bCall lenD (bCons (bVar 1) (bNil))) (bC (.int 5))))) (sRet (bTup (bCons (b2 getD (bVar 1) (bC (.int 0))) (bCons (b2 getD (bVar 1) (bC (.int 1))) (bCons (b2 getD (bVar 1) (bC (.int 2))) (bCons (bSlX (bVar 1) (bSome (bC (.int 3))) (bNone)) (bNil)))))) false) (sNil)) (sRet (bC .non) true))))))
noncomputable def v_row_of : List D->Res D:=fnS 1 2 b_row_of
noncomputable abbrev s_read : Stmt:=top 7
noncomputable def o_read : Nat->Bool:=fun i=>i == 1
noncomputable def b_read : FS:=sSeq (sNew 1 (empK ["kind", "maker", "taker", "rule"])) (sSeq (sFor (bEnumF 1 (bM splitM (bVar 0) (bCons (bC (.str "\n")) (bNil))) true) (tgN [2,3]) (sIf (bTB (b2 (cmpD .ne) (bVar 3) (bC (.str "")))) (sSeq (sSet false 4 (bM splitM (bVar 3) (bCons (bC (.str " ")) (bNil))) true) (sSeq (sSet false 5 (bCall (argN 1 v_row_of) (bCons (bVar 4) (bNil))) true) (sSeq (sIf (bTB (b2 (cmpD .isN) (bVar 5) (bC .non))) (sBad) (sNil)) (sApp2 1 (b2 getD (bVar 4) (bC (.int 0))) (bVar 5))))) (sNil))) (sRet (bTup (bCons (bCall tupleD (bCons (b2 getD (bVar 1) (bC (.str "kind"))) (bNil))) (bCons (bCall tupleD (bCons (b2 getD (bVar 1) (bC (.str "maker"))) (bNil))) (bCons (bCall tupleD (bCons (b2 getD (bVar 1) (bC (.str "taker"))) (bNil))) (bCons (bCall tupleD (bCons (b2 getD (bVar 1) (bC (.str "rule"))) (bNil))) (bNil)))))) false))
noncomputable def v_read : List D->Res D:=fnS 1 6 b_read
noncomputable abbrev s__law_program : Stmt:=top 16
noncomputable def o__law_program : Nat->Bool:=fun i=>i == 4
noncomputable def b__law_program : FS:=sSeq (sSet false 1 (bComp 7 (bItemsX (bVar 0) false) oneT (bTB (b2 (cmpD .eq) (bSlX (bVar 7) (bNone) (bSome (bC (.int 1)))) (bLst (bCons (bC (.str "kind")) (bNil))))) (b2 getD (bVar 7) (bC (.int 1))) false) true) (sSeq (sSet false 2 (bComp 7 (bItemsX (bVar 0) false) oneT (bTB (b2 (cmpD .eq) (bSlX (bVar 7) (bNone) (bSome (bC (.int 1)))) (bLst (bCons (bC (.str "maker")) (bNil))))) (bTup (bCons (b2 getD (bVar 7) (bC (.int 1))) (bCons (b2 getD (bVar 7) (bC (.int 2))) (bCons (bCall tupleD (bCons (bSlX (bVar 7) (bSome (bC (.int 3))) (bNone)) (bNil))) (bNil))))) false) true) (sSeq (sSet false 3 (bComp 7 (bItemsX (bVar 0) false) oneT (bTB (b2 (cmpD .eq) (bSlX (bVar 7) (bNone) (bSome (bC (.int 1)))) (bLst (bCons (bC (.str "taker")) (bNil))))) (bTup (bCons (b2 getD (bVar 7) (bC (.int 1))) (bCons (b2 getD (bVar 7) (bC (.int 2))) (bCons (b2 getD (bVar 7) (bC (.int 3))) (bCons (bCall tupleD (bCons (bSlX (bVar 7) (bSome (bC (.int 4))) (bNone)) (bNil))) (bNil)))))) false) true) (sSeq (sSet true 4 (bLst (bNil)) true) (sSeq (sForV 0 (tg1 5) (sIf (bTB (b2 (cmpD .eq) (bSlX (bVar 5) (bNone) (bSome (bC (.int 1)))) (bLst (bCons (bC (.str "rule")) (bNil))))) (sSeq (sSet false 6 (bM indexL (bVar 5) (bCons (bC (.str "=")) (bNil))) true) (sApp 4 (bTup (bCons (b2 getD (bVar 5) (bC (.int 1))) (bCons (b2 getD (bVar 5) (bC (.int 2))) (bCons (bCall tupleD (bCons (bSlX (bVar 5) (bSome (bC (.int 3))) (bSome (bVar 6))) (bNil))) (bCons (bCall tupleD (bCons (bSlX (bVar 5) (bSome (b2 (binD .add) (bVar 6) (bC (.int 1)))) (bNone)) (bNil))) (bNil)))))))) (sNil))) (sRet (bTup (bCons (bCall tupleD (bCons (bVar 1) (bNil))) (bCons (bCall tupleD (bCons (bVar 2) (bNil))) (bCons (bCall tupleD (bCons (bVar 3) (bNil))) (bCons (bCall tupleD (bCons (bVar 4) (bNil))) (bNil)))))) false)))))
noncomputable def v__law_program : List D->Res D:=fnS 1 7 b__law_program
noncomputable abbrev s_law : Stmt:=top 18
noncomputable def o_law : Nat->Bool:=fun i=>false
noncomputable def b_law : FS:=sSeq (sSet false 1 (bCall (argN 1 v__law_items) (bCons (bVar 0) (bNil))) true) (sSeq (sSet false 2 (bM joinM (bC (.str "\n")) (bCons (bComp 3 (bItemsX (bVar 1) false) oneT (bTrue) (bM joinM (bC (.str " ")) (bCons (bVar 3) (bNil))) true) (bNil))) true) (sRet (bCall (argN 2 (v__law_same 6)) (bCons (bCall (argN 1 v_read) (bCons (bVar 2) (bNil))) (bCons (bCall (argN 1 v__law_program) (bCons (bVar 1) (bNil))) (bNil)))) true))
noncomputable def v_law : List D->Res D:=fnS 1 3 b_law
theorem sc__law_name : FnScope (["number", "letters", "size"] : List Str) ["number"] (defScope s__law_name):=⟨rfl,rfl,rfl,by decide +kernel,rfl,by decide +kernel,by decide +kernel⟩
set_option maxHeartbeats 4000000 in
theorem cal__law_name [KFrag] {P : Program} {w : World} {K : Frag} {mg : Str->Option Value} {base : Heap} {fad : Addr} {fd : FuncData} (hK : KFrag.K = K) (B : Bt mg)  (F : Fun K "_law_name" "_law_name" s__law_name fad fd) (hm : mg "_law_name" = some (.ref fad)) : CalOk P w K mg base 1 "_law_name" 1 v__law_name:=by
 have sc:=sc__law_name
 refine cal_mk (ps:=["number"]) (N:=(["number", "letters", "size"] : List Str)) (k:=0) F hm (F.binds fun _ _ _ _ _ _ us hl=>match us,hl with | [_],_=>rfl) sc o__law_name (by decide) (by decide) fun cdv A outer s H E hr=>?_
 have hu:=hu20 hr
 exact mss_cons (ms_set (i:=1) (o:=false) rfl sc.nd rfl (by trivial) (me_str)) (mss_cons (ms_if (mt_cmp (om_eq hu) (me_op om_mod (me_var (i:=0) rfl (by trivial)) (me_int)) (me_int) (nomark _)) (mss_one (ms_ret (me_ix (om_ix hK hu) (me_lst (ma_cons (me_str) (ma_cons (me_str) (ma_cons (me_str) (ma_cons (me_str) (ma_cons (me_str) (ma_cons (me_str) (ma_nil)))))))) (me_op om_mod (me_op om_fdiv (me_var (i:=0) rfl (by trivial)) (me_int)) (me_int)) (fun _ _=>rfl)))) (mss_nil)) (mss_cons (ms_set (i:=2) (o:=false) rfl sc.nd rfl (by trivial) (me_op om_add (me_int) (me_op om_mod (me_op om_fdiv (me_var (i:=0) rfl (by trivial)) (me_int)) (me_int)))) (mss_cons (ms_set (i:=0) (o:=false) rfl sc.nd rfl (by trivial) (me_op om_fdiv (me_var (i:=0) rfl (by trivial)) (me_int))) (mss_one (ms_ret (me_bm PySem.F.plainAttrs_str PySem.F.slot_str_join PySem.F.type_str_join mt_join (me_str) (ma_cons (me_comp' (ownN:=(["k"] : List Str)) (show CompSc (["number", "letters", "size"] : List Str) (defScope s__law_name) _ (["k"] : List Str) from ⟨rfl,by decide +kernel,by decide +kernel,by decide +kernel,by decide +kernel,by decide +kernel,by decide +kernel⟩) (n:=3) (m:=1) rfl rfl rfl (mi_rng1 (by rfl) B.range (ma_cons (me_var (i:=2) rfl (by trivial)) (ma_nil))) (tgc_one 3) (fun _=>pg_name (i:=3) (show ((List.map (hideN (["k"] : List Str)) (["number", "letters", "size"] : List Str) ++ (["k"] : List Str)) : List Str).Nodup from by decide +kernel) rfl (by trivial)) (fun _=>me_ix (om_ix hK hu) (me_var (i:=1) rfl (by trivial)) (me_op om_mod (me_op om_add (me_op om_fdiv (me_var (i:=0) rfl (by trivial)) (me_op om_add (me_op om_mulX (me_int) (me_var (i:=3) rfl (by trivial))) (me_int))) (me_op om_mod (me_var (i:=0) rfl (by trivial)) (me_op om_add (me_var (i:=3) rfl (by trivial)) (me_int)))) (me_int)) (fun _ _=>rfl)) (fun _=>rfl)) (ma_nil)) (fun _ _ _ _ _ h r=>joinM_ty h r)))))))
theorem sc__law_names : FnScope (["number", "many"] : List Str) ["number", "many"] (defScope s__law_names):=⟨rfl,rfl,rfl,by decide +kernel,rfl,by decide +kernel,by decide +kernel⟩
set_option maxHeartbeats 4000000 in
theorem cal__law_names [KFrag] {P : Program} {w : World} {K : Frag} {mg : Str->Option Value} {base : Heap} {fad : Addr} {fd : FuncData} (hK : KFrag.K = K) (B : Bt mg) (c__law_name : CalOk P w K mg base 1 "_law_name" 1 v__law_name) (F : Fun K "_law_names" "_law_names" s__law_names fad fd) (hm : mg "_law_names" = some (.ref fad)) : CalOk P w K mg base 2 "_law_names" 2 v__law_names:=by
 have sc:=sc__law_names
 refine cal_mk (ps:=["number", "many"]) (N:=(["number", "many"] : List Str)) (k:=1) F hm (F.binds fun _ _ _ _ _ _ us hl=>match us,hl with | [_,_],_=>rfl) sc o__law_names (by decide) (by decide) fun cdv A outer s H E hr=>?_
 have hu:=hu20 hr
 exact mss_one (ms_ret (me_comp' (ownN:=(["k"] : List Str)) (show CompSc (["number", "many"] : List Str) (defScope s__law_names) _ (["k"] : List Str) from ⟨rfl,by decide +kernel,by decide +kernel,by decide +kernel,by decide +kernel,by decide +kernel,by decide +kernel⟩) (n:=2) (m:=1) rfl rfl rfl (mi_rng1 (by rfl) B.range (ma_cons (me_var (i:=1) rfl (by trivial)) (ma_nil))) (tgc_one 2) (fun _=>pg_name (i:=2) (show ((List.map (hideN (["k"] : List Str)) (["number", "many"] : List Str) ++ (["k"] : List Str)) : List Str).Nodup from by decide +kernel) rfl (by trivial)) (fun _=>me_callC c__law_name hr (by decide) (by rfl) (ma_cons (me_op om_mod (me_op om_add (me_op om_mulX (me_var (i:=0) rfl (by trivial)) (me_op om_add (me_op om_mulX (me_int) (me_var (i:=2) rfl (by trivial))) (me_int))) (me_op om_mulX (me_var (i:=2) rfl (by trivial)) (me_int))) (me_int)) (ma_nil))) (fun _=>rfl)))
theorem sc__law_item : FnScope (["number", "form", "more", "ahead", "behind", "some"] : List Str) ["number"] (defScope s__law_item):=⟨rfl,rfl,rfl,by decide +kernel,rfl,by decide +kernel,by decide +kernel⟩
set_option maxHeartbeats 4000000 in
theorem cal__law_item [KFrag] {P : Program} {w : World} {K : Frag} {mg : Str->Option Value} {base : Heap} {fad : Addr} {fd : FuncData} (hK : KFrag.K = K) (B : Bt mg) (c__law_names : CalOk P w K mg base 2 "_law_names" 2 v__law_names) (F : Fun K "_law_item" "_law_item" s__law_item fad fd) (hm : mg "_law_item" = some (.ref fad)) : CalOk P w K mg base 3 "_law_item" 1 v__law_item:=by
 have sc:=sc__law_item
 refine cal_mk (ps:=["number"]) (N:=(["number", "form", "more", "ahead", "behind", "some"] : List Str)) (k:=2) F hm (F.binds fun _ _ _ _ _ _ us hl=>match us,hl with | [_],_=>rfl) sc o__law_item (by decide) (by decide) fun cdv A outer s H E hr=>?_
 have hu:=hu20 hr
 exact mss_cons (ms_set (i:=1) (o:=false) rfl sc.nd rfl (by trivial) (me_op om_mod (me_var (i:=0) rfl (by trivial)) (me_int))) (mss_cons (ms_set (i:=2) (o:=false) rfl sc.nd rfl (by trivial) (me_op om_fdiv (me_var (i:=0) rfl (by trivial)) (me_int))) (mss_cons (ms_if (mt_cmp (om_eq hu) (me_var (i:=1) rfl (by trivial)) (me_int) (nomark _)) (mss_one (ms_ret (me_op om_add (me_lst (ma_cons (me_str) (ma_nil))) (me_callC c__law_names hr (by decide) (by rfl) (ma_cons (me_var (i:=2) rfl (by trivial)) (ma_cons (me_int) (ma_nil))))))) (mss_nil)) (mss_cons (ms_if (mt_cmp (om_eq hu) (me_var (i:=1) rfl (by trivial)) (me_int) (nomark _)) (mss_one (ms_ret (me_op om_add (me_lst (ma_cons (me_str) (ma_nil))) (me_callC c__law_names hr (by decide) (by rfl) (ma_cons (me_var (i:=2) rfl (by trivial)) (ma_cons (me_op om_add (me_int) (me_op om_mod (me_var (i:=2) rfl (by trivial)) (me_int))) (ma_nil))))))) (mss_nil)) (mss_cons (ms_if (mt_cmp (om_eq hu) (me_var (i:=1) rfl (by trivial)) (me_int) (nomark _)) (mss_one (ms_ret (me_op om_add (me_lst (ma_cons (me_str) (ma_nil))) (me_callC c__law_names hr (by decide) (by rfl) (ma_cons (me_var (i:=2) rfl (by trivial)) (ma_cons (me_op om_add (me_int) (me_op om_mod (me_var (i:=2) rfl (by trivial)) (me_int))) (ma_nil))))))) (mss_nil)) (mss_cons (ms_if (mt_cmp (om_eq hu) (me_var (i:=1) rfl (by trivial)) (me_int) (nomark _)) (mss_one (ms_ret (me_lst (ma_nil)))) (mss_nil)) (mss_cons (ms_set (i:=3) (o:=false) rfl sc.nd rfl (by trivial) (me_op om_add (me_int) (me_op om_mod (me_var (i:=2) rfl (by trivial)) (me_int)))) (mss_cons (ms_set (i:=4) (o:=false) rfl sc.nd rfl (by trivial) (me_op om_add (me_int) (me_op om_mod (me_op om_fdiv (me_var (i:=2) rfl (by trivial)) (me_int)) (me_int)))) (mss_cons (ms_if (mt_cmp (om_eq hu) (me_op om_mod (me_op om_fdiv (me_var (i:=2) rfl (by trivial)) (me_int)) (me_int)) (me_int) (nomark _)) (mss_one (ms_set (i:=4) (o:=false) rfl sc.nd rfl (by trivial) (me_op om_add (me_int) (me_op om_mod (me_op om_fdiv (me_var (i:=2) rfl (by trivial)) (me_int)) (me_int))))) (mss_nil)) (mss_cons (ms_set (i:=5) (o:=false) rfl sc.nd rfl (by trivial) (me_callC c__law_names hr (by decide) (by rfl) (ma_cons (me_var (i:=2) rfl (by trivial)) (ma_cons (me_op om_add (me_var (i:=3) rfl (by trivial)) (me_var (i:=4) rfl (by trivial))) (ma_nil))))) (mss_one (ms_ret (me_op om_add (me_op om_add (me_op om_add (me_lst (ma_cons (me_str) (ma_nil))) (me_slX hK (me_var (i:=5) rfl (by trivial)) (mo_none) (mo_some (me_var (i:=3) rfl (by trivial))))) (me_lst (ma_cons (me_str) (ma_nil)))) (me_slX hK (me_var (i:=5) rfl (by trivial)) (mo_some (me_var (i:=3) rfl (by trivial))) (mo_none))))))))))))))
theorem sc__law_mixed : FnScope (["cell", "k", "number"] : List Str) ["cell", "k"] (defScope s__law_mixed):=⟨rfl,rfl,rfl,by decide +kernel,rfl,by decide +kernel,by decide +kernel⟩
set_option maxHeartbeats 4000000 in
theorem cal__law_mixed [KFrag] {P : Program} {w : World} {K : Frag} {mg : Str->Option Value} {base : Heap} {fad : Addr} {fd : FuncData} (hK : KFrag.K = K) (B : Bt mg)  (F : Fun K "_law_mixed" "_law_mixed" s__law_mixed fad fd) (hm : mg "_law_mixed" = some (.ref fad)) : CalOk P w K mg base 1 "_law_mixed" 2 v__law_mixed:=by
 have sc:=sc__law_mixed
 refine cal_mk (ps:=["cell", "k"]) (N:=(["cell", "k", "number"] : List Str)) (k:=0) F hm (F.binds fun _ _ _ _ _ _ us hl=>match us,hl with | [_,_],_=>rfl) sc o__law_mixed (by decide) (by decide) fun cdv A outer s H E hr=>?_
 have hu:=hu20 hr
 exact mss_cons (ms_set (i:=2) (o:=false) rfl sc.nd rfl (by trivial) (me_op om_mod (me_op om_add (me_op om_add (me_op om_mulX (me_var (i:=0) rfl (by trivial)) (me_int)) (me_op om_mulX (me_op om_mulX (me_op om_add (me_var (i:=1) rfl (by trivial)) (me_int)) (me_op om_add (me_var (i:=1) rfl (by trivial)) (me_int))) (me_int))) (me_int)) (me_int))) (mss_one (ms_ret (me_op om_mod (me_op om_add (me_op om_mulX (me_var (i:=2) rfl (by trivial)) (me_var (i:=2) rfl (by trivial))) (me_op om_mulX (me_int) (me_var (i:=2) rfl (by trivial)))) (me_int))))
theorem sc__law_items : FnScope (["script", "items", "room", "k", "cell", "item", "size"] : List Str) ["script"] (defScope s__law_items):=⟨rfl,rfl,rfl,by decide +kernel,rfl,by decide +kernel,by decide +kernel⟩
set_option maxHeartbeats 4000000 in
theorem cal__law_items [KFrag] {P : Program} {w : World} {K : Frag} {mg : Str->Option Value} {base : Heap} {fad : Addr} {fd : FuncData} (hK : KFrag.K = K) (B : Bt mg) (c__law_mixed : CalOk P w K mg base 1 "_law_mixed" 2 v__law_mixed) (c__law_item : CalOk P w K mg base 3 "_law_item" 1 v__law_item) (F : Fun K "_law_items" "_law_items" s__law_items fad fd) (hm : mg "_law_items" = some (.ref fad)) : CalOk P w K mg base 4 "_law_items" 1 v__law_items:=by
 have sc:=sc__law_items
 refine cal_mkN (ps:=["script"]) (N:=(["script", "items", "room", "k", "cell", "item", "size"] : List Str)) (k:=3) F hm (F.binds fun _ _ _ _ _ _ us hl=>match us,hl with | [_],_=>rfl) sc o__law_items (by decide) (by decide) fun cdv A outer s H E hr=>?_
 have hu:=hu20 hr
 exact nss_cons (ns_newL (i:=1) (n:=0) rfl sc.nd rfl (by trivial) (pa_e0) (by decide)) (nss_cons (ns_set (i:=2) rfl sc.nd rfl (by trivial) (me_int)) (nss_cons (ns_for PassesOwn.never rfl (mi_enum (by rfl) B.enum (ma_cons (me_slX hK (me_var (i:=0) rfl (by trivial)) (mo_none) (mo_some (me_int))) (ma_nil))) (tgn_tup _ (is:=[3,4]) (by decide)) (pg_tup rfl (pgs_cons (pg_name (i:=3) sc.nd rfl (by trivial)) (pgs_cons (pg_name (i:=4) sc.nd rfl (by trivial)) (pgs_nil)))) (nss_cons (ns_own (i:=5) rfl sc.nd rfl (by trivial) (me_callC c__law_item hr (by decide) (by rfl) (ma_cons (me_callC c__law_mixed hr (by decide) (by rfl) (ma_cons (me_var (i:=4) rfl (by trivial)) (ma_cons (me_var (i:=3) rfl (by trivial)) (ma_nil)))) (ma_nil)))) (nss_cons (ns_set (i:=6) rfl sc.nd rfl (by trivial) (me_op om_add (me_callB (cl_len hK) (by rfl) B.len vb_len (ma_cons (me_bm PySem.F.plainAttrs_str PySem.F.slot_str_join PySem.F.type_str_join mt_join (me_str) (ma_cons (me_var (i:=5) rfl (by trivial)) (ma_nil)) (fun _ _ _ _ _ h r=>joinM_ty h r)) (ma_nil))) (me_int))) (nss_one (ns_if (mt_cmp (om_le hu) (me_var (i:=6) rfl (by trivial)) (me_var (i:=2) rfl (by trivial)) (nomark _)) (nss_cons (ns_mv (i:=1) (j:=5) rfl rfl (by decide) rfl (by trivial) rfl (by trivial)) (nss_one (ns_set (i:=2) rfl sc.nd rfl (by trivial) (me_op om_sub (me_var (i:=2) rfl (by trivial)) (me_var (i:=6) rfl (by trivial)))))) (nss_nil)))))) (nss_one (ns_retV (i:=1) rfl rfl (by trivial)))))
theorem sc__law_same : FnScope (["found", "due"] : List Str) ["found", "due"] (defScope s__law_same):=⟨rfl,rfl,rfl,by decide +kernel,rfl,by decide +kernel,by decide +kernel⟩
set_option maxHeartbeats 4000000 in
theorem cal__law_same [KFrag] {P : Program} {w : World} {K : Frag} {mg : Str->Option Value} {base : Heap} {fad : Addr} {fd : FuncData} (hK : KFrag.K = K) (B : Bt mg)  (F : Fun K "_law_same" "_law_same" s__law_same fad fd) (hm : mg "_law_same" = some (.ref fad)) : ∀ m : Nat,CalOk P w K mg base (m + 1) "_law_same" 2 (v__law_same m):=by
 have sc:=sc__law_same
 intro m
 induction m with
 | zero=>
  refine cal_mk (ps:=["found", "due"]) (N:=(["found", "due"] : List Str)) (k:=0) F hm (F.binds fun _ _ _ _ _ _ us hl=>match us,hl with | [_,_],_=>rfl) sc o__law_same (by decide) (by decide) fun cdv A outer s H E hr=>?_
  exact mss_bad
 | succ m ih=>
  have c__law_same:=ih
  refine cal_mk (ps:=["found", "due"]) (N:=(["found", "due"] : List Str)) (k:=m + 1) F hm (F.binds fun _ _ _ _ _ _ us hl=>match us,hl with | [_,_],_=>rfl) sc o__law_same (by decide) (by decide) fun cdv A outer s H E hr=>?_
  have hu:=hu20 hr
  exact mss_cons (ms_if (mt_val (me_isi .str (me_var (i:=1) rfl (by trivial)) (by rfl) B.isi vb_isinstance (by rfl) B.str vb_str)) (mss_one (ms_ret (me_and (me_isi .str (me_var (i:=0) rfl (by trivial)) (by rfl) B.isi vb_isinstance (by rfl) B.str vb_str) (me_one (me_cmp (om_eq hu) (me_var (i:=0) rfl (by trivial)) (me_var (i:=1) rfl (by trivial)) (nomark _)))))) (mss_nil)) (mss_cons (ms_if (PW.pt (mw_or (mt_not (mt_val (me_isi .tuple (me_var (i:=0) rfl (by trivial)) (by rfl) B.isi vb_isinstance (by rfl) B.tuple vb_tuple))) (mw_or1 (mt_cmp (om_ne hu) (me_callB (cl_len hK) (by rfl) B.len vb_len (ma_cons (me_var (i:=0) rfl (by trivial)) (ma_nil))) (me_callB (cl_len hK) (by rfl) B.len vb_len (ma_cons (me_var (i:=1) rfl (by trivial)) (ma_nil))) (nomark _))))) (mss_one (ms_ret (me_bl))) (mss_nil)) (mss_one (ms_ret (me_callB (cl_all (by rfl)) (by rfl) B.all vb_all (ma_cons (me_comp' (ownN:=(["one", "other"] : List Str)) (show CompSc (["found", "due"] : List Str) (defScope s__law_same) _ (["one", "other"] : List Str) from ⟨rfl,by decide +kernel,by decide +kernel,by decide +kernel,by decide +kernel,by decide +kernel,by decide +kernel⟩) (n:=2) (m:=2) rfl rfl rfl (mi_zip (by rfl) B.zip (ma_cons (me_var (i:=0) rfl (by trivial)) (ma_cons (me_var (i:=1) rfl (by trivial)) (ma_nil)))) (tgc_tup _ 2 2) (fun _=>pg_tup rfl (pgs_cons (pg_name (i:=2) (show ((List.map (hideN (["one", "other"] : List Str)) (["found", "due"] : List Str) ++ (["one", "other"] : List Str)) : List Str).Nodup from by decide +kernel) rfl (by trivial)) (pgs_cons (pg_name (i:=3) (show ((List.map (hideN (["one", "other"] : List Str)) (["found", "due"] : List Str) ++ (["one", "other"] : List Str)) : List Str).Nodup from by decide +kernel) rfl (by trivial)) (pgs_nil)))) (fun _=>me_callC c__law_same hr (Nat.le_refl _) (by rfl) (ma_cons (me_var (i:=2) rfl (by trivial)) (ma_cons (me_var (i:=3) rfl (by trivial)) (ma_nil)))) (fun _=>rfl)) (ma_nil))))))
theorem sc_are_small_letters : FnScope (["word"] : List Str) ["word"] (defScope s_are_small_letters):=⟨rfl,rfl,rfl,by decide +kernel,rfl,by decide +kernel,by decide +kernel⟩
set_option maxHeartbeats 4000000 in
theorem cal_are_small_letters [KFrag] {P : Program} {w : World} {K : Frag} {mg : Str->Option Value} {base : Heap} {fad : Addr} {fd : FuncData} (hK : KFrag.K = K) (B : Bt mg)  (F : Fun K "are_small_letters" "are_small_letters" s_are_small_letters fad fd) (hm : mg "are_small_letters" = some (.ref fad)) : CalOk P w K mg base 1 "are_small_letters" 1 v_are_small_letters:=by
 have sc:=sc_are_small_letters
 refine cal_mk (ps:=["word"]) (N:=(["word"] : List Str)) (k:=0) F hm (F.binds fun _ _ _ _ _ _ us hl=>match us,hl with | [_],_=>rfl) sc o_are_small_letters (by decide) (by decide) fun cdv A outer s H E hr=>?_
 have hu:=hu20 hr
 exact mss_one (ms_ret (me_callB (cl_all (by rfl)) (by rfl) B.all vb_all (ma_cons (me_comp' (ownN:=(["sign"] : List Str)) (show CompSc (["word"] : List Str) (defScope s_are_small_letters) _ (["sign"] : List Str) from ⟨rfl,by decide +kernel,by decide +kernel,by decide +kernel,by decide +kernel,by decide +kernel,by decide +kernel⟩) (n:=1) (m:=1) rfl rfl rfl (mi_valX (me_var (i:=0) rfl (by trivial))) (tgc_one 1) (fun _=>pg_name (i:=1) (show ((List.map (hideN (["sign"] : List Str)) (["word"] : List Str) ++ (["sign"] : List Str)) : List Str).Nodup from by decide +kernel) rfl (by trivial)) (fun _=>me_chain (om_le hu) (om_le hu) (me_str) (me_var (i:=1) rfl (by trivial)) (me_str)) (fun _=>rfl)) (ma_nil))))
theorem sc_is_name : FnScope (["word"] : List Str) ["word"] (defScope s_is_name):=⟨rfl,rfl,rfl,by decide +kernel,rfl,by decide +kernel,by decide +kernel⟩
set_option maxHeartbeats 4000000 in
theorem cal_is_name [KFrag] {P : Program} {w : World} {K : Frag} {mg : Str->Option Value} {base : Heap} {fad : Addr} {fd : FuncData} (hK : KFrag.K = K) (B : Bt mg) (c_are_small_letters : CalOk P w K mg base 1 "are_small_letters" 1 v_are_small_letters) (F : Fun K "is_name" "is_name" s_is_name fad fd) (hm : mg "is_name" = some (.ref fad)) : CalOk P w K mg base 2 "is_name" 1 v_is_name:=by
 have sc:=sc_is_name
 refine cal_mk (ps:=["word"]) (N:=(["word"] : List Str)) (k:=1) F hm (F.binds fun _ _ _ _ _ _ us hl=>match us,hl with | [_],_=>rfl) sc o_is_name (by decide) (by decide) fun cdv A outer s H E hr=>?_
 have hu:=hu20 hr
 exact mss_one (ms_ret (me_and (me_chain (om_le hu) (om_le hu) (me_int) (me_callB (cl_len hK) (by rfl) B.len vb_len (ma_cons (me_var (i:=0) rfl (by trivial)) (ma_nil))) (me_int)) (me_one (me_callC c_are_small_letters hr (by decide) (by rfl) (ma_cons (me_var (i:=0) rfl (by trivial)) (ma_nil))))))
theorem sc_are_names : FnScope (["words"] : List Str) ["words"] (defScope s_are_names):=⟨rfl,rfl,rfl,by decide +kernel,rfl,by decide +kernel,by decide +kernel⟩
set_option maxHeartbeats 4000000 in
theorem cal_are_names [KFrag] {P : Program} {w : World} {K : Frag} {mg : Str->Option Value} {base : Heap} {fad : Addr} {fd : FuncData} (hK : KFrag.K = K) (B : Bt mg) (c_is_name : CalOk P w K mg base 2 "is_name" 1 v_is_name) (F : Fun K "are_names" "are_names" s_are_names fad fd) (hm : mg "are_names" = some (.ref fad)) : CalOk P w K mg base 3 "are_names" 1 v_are_names:=by
 have sc:=sc_are_names
 refine cal_mk (ps:=["words"]) (N:=(["words"] : List Str)) (k:=2) F hm (F.binds fun _ _ _ _ _ _ us hl=>match us,hl with | [_],_=>rfl) sc o_are_names (by decide) (by decide) fun cdv A outer s H E hr=>?_
 have hu:=hu20 hr
 exact mss_one (ms_ret (me_callB (cl_all (by rfl)) (by rfl) B.all vb_all (ma_cons (me_comp' (ownN:=(["word"] : List Str)) (show CompSc (["words"] : List Str) (defScope s_are_names) _ (["word"] : List Str) from ⟨rfl,by decide +kernel,by decide +kernel,by decide +kernel,by decide +kernel,by decide +kernel,by decide +kernel⟩) (n:=1) (m:=1) rfl rfl rfl (mi_valX (me_var (i:=0) rfl (by trivial))) (tgc_one 1) (fun _=>pg_name (i:=1) (show ((List.map (hideN (["word"] : List Str)) (["words"] : List Str) ++ (["word"] : List Str)) : List Str).Nodup from by decide +kernel) rfl (by trivial)) (fun _=>me_callC c_is_name hr (by decide) (by rfl) (ma_cons (me_var (i:=1) rfl (by trivial)) (ma_nil))) (fun _=>rfl)) (ma_nil))))
theorem sc_rule_row : FnScope (["rest", "place", "heads", "words"] : List Str) ["rest"] (defScope s_rule_row):=⟨rfl,rfl,rfl,by decide +kernel,rfl,by decide +kernel,by decide +kernel⟩
set_option maxHeartbeats 4000000 in
theorem cal_rule_row [KFrag] {P : Program} {w : World} {K : Frag} {mg : Str->Option Value} {base : Heap} {fad : Addr} {fd : FuncData} (hK : KFrag.K = K) (B : Bt mg) (c_are_names : CalOk P w K mg base 3 "are_names" 1 v_are_names) (F : Fun K "rule_row" "rule_row" s_rule_row fad fd) (hm : mg "rule_row" = some (.ref fad)) : CalOk P w K mg base 4 "rule_row" 1 v_rule_row:=by
 have sc:=sc_rule_row
 refine cal_mk (ps:=["rest"]) (N:=(["rest", "place", "heads", "words"] : List Str)) (k:=3) F hm (F.binds fun _ _ _ _ _ _ us hl=>match us,hl with | [_],_=>rfl) sc o_rule_row (by decide) (by decide) fun cdv A outer s H E hr=>?_
 have hu:=hu20 hr
 exact mss_cons (ms_if (mt_cmp (om_notin hu) (me_str) (me_var (i:=0) rfl (by trivial)) (by with_unfolding_all rfl)) (mss_one (ms_ret (me_non))) (mss_nil)) (mss_cons (ms_set (i:=1) (o:=false) rfl sc.nd rfl (by trivial) (me_bm PySem.F.plainAttrs_tuple PySem.F.slot_tuple_index PySem.F.type_tuple_index (mt_indexT hu) (me_var (i:=0) rfl (by trivial)) (ma_cons (me_str) (ma_nil)) (fun _ _ _ _ _ h r=>indexT_ty h r))) (mss_cons (ms_set (i:=2) (o:=false) rfl sc.nd rfl (by trivial) (me_slX hK (me_var (i:=0) rfl (by trivial)) (mo_none) (mo_some (me_var (i:=1) rfl (by trivial))))) (mss_cons (ms_set (i:=3) (o:=false) rfl sc.nd rfl (by trivial) (me_slX hK (me_var (i:=0) rfl (by trivial)) (mo_some (me_op om_add (me_var (i:=1) rfl (by trivial)) (me_int))) (mo_none))) (mss_cons (ms_if (mt_not (PW.pt (mw_and (mt_chain (om_le hu) (om_le hu) (me_int) (me_callB (cl_len hK) (by rfl) B.len vb_len (ma_cons (me_var (i:=2) rfl (by trivial)) (ma_nil))) (me_int)) (mw_and (mt_chain (om_le hu) (om_le hu) (me_int) (me_callB (cl_len hK) (by rfl) B.len vb_len (ma_cons (me_var (i:=3) rfl (by trivial)) (ma_nil))) (me_int)) (mw_and (mt_val (me_callC c_are_names hr (by decide) (by rfl) (ma_cons (me_var (i:=2) rfl (by trivial)) (ma_nil)))) (mw_and1 (mt_val (me_callC c_are_names hr (by decide) (by rfl) (ma_cons (me_var (i:=3) rfl (by trivial)) (ma_nil)))))))))) (mss_one (ms_ret (me_non))) (mss_nil)) (mss_one (ms_ret (me_tup (ma_cons (me_ix (om_ix hK hu) (me_var (i:=2) rfl (by trivial)) (me_int) (fun _ _=>rfl)) (ma_cons (me_ix (om_ix hK hu) (me_var (i:=2) rfl (by trivial)) (me_int) (fun _ _=>rfl)) (ma_cons (me_slX hK (me_var (i:=2) rfl (by trivial)) (mo_some (me_int)) (mo_none)) (ma_cons (me_var (i:=3) rfl (by trivial)) (ma_nil))))))))))))
theorem sc_row_of : FnScope (["words", "rest"] : List Str) ["words"] (defScope s_row_of):=⟨rfl,rfl,rfl,by decide +kernel,rfl,by decide +kernel,by decide +kernel⟩
set_option maxHeartbeats 4000000 in
theorem cal_row_of [KFrag] {P : Program} {w : World} {K : Frag} {mg : Str->Option Value} {base : Heap} {fad : Addr} {fd : FuncData} (hK : KFrag.K = K) (B : Bt mg) (c_rule_row : CalOk P w K mg base 4 "rule_row" 1 v_rule_row) (c_are_names : CalOk P w K mg base 3 "are_names" 1 v_are_names) (F : Fun K "row_of" "row_of" s_row_of fad fd) (hm : mg "row_of" = some (.ref fad)) : CalOk P w K mg base 5 "row_of" 1 v_row_of:=by
 have sc:=sc_row_of
 refine cal_mk (ps:=["words"]) (N:=(["words", "rest"] : List Str)) (k:=4) F hm (F.binds fun _ _ _ _ _ _ us hl=>match us,hl with | [_],_=>rfl) sc o_row_of (by decide) (by decide) fun cdv A outer s H E hr=>?_
 have hu:=hu20 hr
 exact mss_cons (ms_set (i:=1) (o:=false) rfl sc.nd rfl (by trivial) (me_callTy cl_tuple (by rfl) B.tuple vb_tuple (ma_cons (me_slX hK (me_var (i:=0) rfl (by trivial)) (mo_some (me_int)) (mo_none)) (ma_nil)))) (mss_cons (ms_if (mt_cmp (om_eq hu) (me_ix (om_ix hK hu) (me_var (i:=0) rfl (by trivial)) (me_int) (fun _ _=>rfl)) (me_str) (nomark _)) (mss_one (ms_ret (me_callC c_rule_row hr (by decide) (by rfl) (ma_cons (me_var (i:=1) rfl (by trivial)) (ma_nil))))) (mss_nil)) (mss_cons (ms_if (mt_not (mt_val (me_callC c_are_names hr (by decide) (by rfl) (ma_cons (me_var (i:=1) rfl (by trivial)) (ma_nil))))) (mss_one (ms_ret (me_non))) (mss_nil)) (mss_cons (ms_if (PW.pt (mw_and (mt_cmp (om_eq hu) (me_ix (om_ix hK hu) (me_var (i:=0) rfl (by trivial)) (me_int) (fun _ _=>rfl)) (me_str) (nomark _)) (mw_and1 (mt_cmp (om_eq hu) (me_callB (cl_len hK) (by rfl) B.len vb_len (ma_cons (me_var (i:=1) rfl (by trivial)) (ma_nil))) (me_int) (nomark _))))) (mss_one (ms_ret (me_ix (om_ix hK hu) (me_var (i:=1) rfl (by trivial)) (me_int) (fun _ _=>rfl)))) (mss_nil)) (mss_cons (ms_if (PW.pt (mw_and (mt_cmp (om_eq hu) (me_ix (om_ix hK hu) (me_var (i:=0) rfl (by trivial)) (me_int) (fun _ _=>rfl)) (me_str) (nomark _)) (mw_and1 (mt_chain (om_le hu) (om_le hu) (me_int) (me_callB (cl_len hK) (by rfl) B.len vb_len (ma_cons (me_var (i:=1) rfl (by trivial)) (ma_nil))) (me_int))))) (mss_one (ms_ret (me_tup (ma_cons (me_ix (om_ix hK hu) (me_var (i:=1) rfl (by trivial)) (me_int) (fun _ _=>rfl)) (ma_cons (me_ix (om_ix hK hu) (me_var (i:=1) rfl (by trivial)) (me_int) (fun _ _=>rfl)) (ma_cons (me_slX hK (me_var (i:=1) rfl (by trivial)) (mo_some (me_int)) (mo_none)) (ma_nil))))))) (mss_nil)) (mss_cons (ms_if (PW.pt (mw_and (mt_cmp (om_eq hu) (me_ix (om_ix hK hu) (me_var (i:=0) rfl (by trivial)) (me_int) (fun _ _=>rfl)) (me_str) (nomark _)) (mw_and1 (mt_chain (om_le hu) (om_le hu) (me_int) (me_callB (cl_len hK) (by rfl) B.len vb_len (ma_cons (me_var (i:=1) rfl (by trivial)) (ma_nil))) (me_int))))) (mss_one (ms_ret (me_tup (ma_cons (me_ix (om_ix hK hu) (me_var (i:=1) rfl (by trivial)) (me_int) (fun _ _=>rfl)) (ma_cons (me_ix (om_ix hK hu) (me_var (i:=1) rfl (by trivial)) (me_int) (fun _ _=>rfl)) (ma_cons (me_ix (om_ix hK hu) (me_var (i:=1) rfl (by trivial)) (me_int) (fun _ _=>rfl)) (ma_cons (me_slX hK (me_var (i:=1) rfl (by trivial)) (mo_some (me_int)) (mo_none)) (ma_nil)))))))) (mss_nil)) (mss_one (ms_ret (me_non))))))))
theorem sc_read : FnScope (["text", "rows", "count", "line", "words", "row"] : List Str) ["text"] (defScope s_read):=⟨rfl,rfl,rfl,by decide +kernel,rfl,by decide +kernel,by decide +kernel⟩
set_option maxHeartbeats 4000000 in
theorem cal_read [KFrag] {P : Program} {w : World} {K : Frag} {mg : Str->Option Value} {base : Heap} {fad : Addr} {fd : FuncData} (hK : KFrag.K = K) (B : Bt mg) (c_row_of : CalOk P w K mg base 5 "row_of" 1 v_row_of) (F : Fun K "read" "read" s_read fad fd) (hm : mg "read" = some (.ref fad)) : CalOk P w K mg base 6 "read" 1 v_read:=by
 have sc:=sc_read
 refine cal_mkN (ps:=["text"]) (N:=(["text", "rows", "count", "line", "words", "row"] : List Str)) (k:=5) F hm (F.binds fun _ _ _ _ _ _ us hl=>match us,hl with | [_],_=>rfl) sc o_read (by decide) (by decide) fun cdv A outer s H E hr=>?_
 have hu:=hu20 hr
 exact nss_cons (ns_newK (i:=1) (ks:=["kind", "maker", "taker", "rule"]) rfl sc.nd rfl (by trivial) (pps_cons pe_str (pe_lst pa_nil) (pps_cons pe_str (pe_lst pa_nil) (pps_cons pe_str (pe_lst pa_nil) (pps_cons pe_str (pe_lst pa_nil) (pps_nil))))) rfl rfl (by simp) (by decide) (by decide) (by decide +kernel)) (nss_cons (ns_for PassesOwn.never rfl (mi_enumF (by rfl) B.enum (ma_cons (me_bm PySem.F.plainAttrs_str PySem.F.slot_str_split PySem.F.type_str_split mt_split (me_var (i:=0) rfl (by trivial)) (ma_cons (me_str) (ma_nil)) (fun _ _ _ _ _ h r=>splitM_ty h r)) (ma_nil))) (tgn_tup _ (is:=[2,3]) (by decide)) (pg_tup rfl (pgs_cons (pg_name (i:=2) sc.nd rfl (by trivial)) (pgs_cons (pg_name (i:=3) sc.nd rfl (by trivial)) (pgs_nil)))) (nss_one (ns_if (mt_cmp (om_ne hu) (me_var (i:=3) rfl (by trivial)) (me_str) (nomark _)) (nss_cons (ns_set (i:=4) rfl sc.nd rfl (by trivial) (me_bm PySem.F.plainAttrs_str PySem.F.slot_str_split PySem.F.type_str_split mt_split (me_var (i:=3) rfl (by trivial)) (ma_cons (me_str) (ma_nil)) (fun _ _ _ _ _ h r=>splitM_ty h r))) (nss_cons (ns_set (i:=5) rfl sc.nd rfl (by trivial) (me_callC c_row_of hr (by decide) (by rfl) (ma_cons (me_var (i:=4) rfl (by trivial)) (ma_nil)))) (nss_cons (ns_if (mt_cmp om_isN (me_var (i:=5) rfl (by trivial)) (me_non) (nomark _)) (nss_one (ns_bad)) (nss_nil)) (nss_one (ns_app2 (i:=1) hu rfl rfl (by trivial) (me_ix (om_ix hK hu) (me_var (i:=4) rfl (by trivial)) (me_int) (fun _ _=>rfl)) (me_var (i:=5) rfl (by trivial))))))) (nss_nil)))) (nss_one (ns_ret (me_tup (ma_cons (me_callTy cl_tuple (by rfl) B.tuple vb_tuple (ma_cons (me_ix (om_ix hK hu) (me_var (i:=1) rfl (by trivial)) (me_str) (fun _ _=>rfl)) (ma_nil))) (ma_cons (me_callTy cl_tuple (by rfl) B.tuple vb_tuple (ma_cons (me_ix (om_ix hK hu) (me_var (i:=1) rfl (by trivial)) (me_str) (fun _ _=>rfl)) (ma_nil))) (ma_cons (me_callTy cl_tuple (by rfl) B.tuple vb_tuple (ma_cons (me_ix (om_ix hK hu) (me_var (i:=1) rfl (by trivial)) (me_str) (fun _ _=>rfl)) (ma_nil))) (ma_cons (me_callTy cl_tuple (by rfl) B.tuple vb_tuple (ma_cons (me_ix (om_ix hK hu) (me_var (i:=1) rfl (by trivial)) (me_str) (fun _ _=>rfl)) (ma_nil))) (ma_nil)))))))))
theorem sc__law_program : FnScope (["items", "kinds", "makers", "takers", "rules", "item", "cut"] : List Str) ["items"] (defScope s__law_program):=⟨rfl,rfl,rfl,by decide +kernel,rfl,by decide +kernel,by decide +kernel⟩
set_option maxHeartbeats 4000000 in
theorem cal__law_program [KFrag] {P : Program} {w : World} {K : Frag} {mg : Str->Option Value} {base : Heap} {fad : Addr} {fd : FuncData} (hK : KFrag.K = K) (B : Bt mg)  (F : Fun K "_law_program" "_law_program" s__law_program fad fd) (hm : mg "_law_program" = some (.ref fad)) : CalOk P w K mg base 1 "_law_program" 1 v__law_program:=by
 have sc:=sc__law_program
 refine cal_mk (ps:=["items"]) (N:=(["items", "kinds", "makers", "takers", "rules", "item", "cut"] : List Str)) (k:=0) F hm (F.binds fun _ _ _ _ _ _ us hl=>match us,hl with | [_],_=>rfl) sc o__law_program (by decide) (by decide) fun cdv A outer s H E hr=>?_
 have hu:=hu20 hr
 exact mss_cons (ms_compif' (ownN:=(["item"] : List Str)) (show CompSc (["items", "kinds", "makers", "takers", "rules", "item", "cut"] : List Str) (defScope s__law_program) _ (["item"] : List Str) from ⟨rfl,by decide +kernel,by decide +kernel,by decide +kernel,by decide +kernel,by decide +kernel,by decide +kernel⟩) (n:=7) (m:=1) rfl rfl rfl (mi_valX (me_var (i:=0) rfl (by trivial))) (tgc_one 7) (fun _=>pg_name (i:=7) (show ((List.map (hideN (["item"] : List Str)) (["items", "kinds", "makers", "takers", "rules", "item", "cut"] : List Str) ++ (["item"] : List Str)) : List Str).Nodup from by decide +kernel) rfl (by trivial)) (fun _=>mt_cmp (om_eq hu) (me_slX hK (me_var (i:=7) rfl (by trivial)) (mo_none) (mo_some (me_int))) (me_lst (ma_cons (me_str) (ma_nil))) (nomark _)) (fun _=>me_ix (om_ix hK hu) (me_var (i:=7) rfl (by trivial)) (me_int) (fun _ _=>rfl)) (fun _=>rfl) (iy:=1) (o:=false) rfl sc.nd rfl (by trivial) (Or.inl rfl) (by with_unfolding_all rfl)) (mss_cons (ms_compif' (ownN:=(["item"] : List Str)) (show CompSc (["items", "kinds", "makers", "takers", "rules", "item", "cut"] : List Str) (defScope s__law_program) _ (["item"] : List Str) from ⟨rfl,by decide +kernel,by decide +kernel,by decide +kernel,by decide +kernel,by decide +kernel,by decide +kernel⟩) (n:=7) (m:=1) rfl rfl rfl (mi_valX (me_var (i:=0) rfl (by trivial))) (tgc_one 7) (fun _=>pg_name (i:=7) (show ((List.map (hideN (["item"] : List Str)) (["items", "kinds", "makers", "takers", "rules", "item", "cut"] : List Str) ++ (["item"] : List Str)) : List Str).Nodup from by decide +kernel) rfl (by trivial)) (fun _=>mt_cmp (om_eq hu) (me_slX hK (me_var (i:=7) rfl (by trivial)) (mo_none) (mo_some (me_int))) (me_lst (ma_cons (me_str) (ma_nil))) (nomark _)) (fun _=>me_tup (ma_cons (me_ix (om_ix hK hu) (me_var (i:=7) rfl (by trivial)) (me_int) (fun _ _=>rfl)) (ma_cons (me_ix (om_ix hK hu) (me_var (i:=7) rfl (by trivial)) (me_int) (fun _ _=>rfl)) (ma_cons (me_callTy cl_tuple (by rfl) B.tuple vb_tuple (ma_cons (me_slX hK (me_var (i:=7) rfl (by trivial)) (mo_some (me_int)) (mo_none)) (ma_nil))) (ma_nil))))) (fun _=>rfl) (iy:=2) (o:=false) rfl sc.nd rfl (by trivial) (Or.inl rfl) (by with_unfolding_all rfl)) (mss_cons (ms_compif' (ownN:=(["item"] : List Str)) (show CompSc (["items", "kinds", "makers", "takers", "rules", "item", "cut"] : List Str) (defScope s__law_program) _ (["item"] : List Str) from ⟨rfl,by decide +kernel,by decide +kernel,by decide +kernel,by decide +kernel,by decide +kernel,by decide +kernel⟩) (n:=7) (m:=1) rfl rfl rfl (mi_valX (me_var (i:=0) rfl (by trivial))) (tgc_one 7) (fun _=>pg_name (i:=7) (show ((List.map (hideN (["item"] : List Str)) (["items", "kinds", "makers", "takers", "rules", "item", "cut"] : List Str) ++ (["item"] : List Str)) : List Str).Nodup from by decide +kernel) rfl (by trivial)) (fun _=>mt_cmp (om_eq hu) (me_slX hK (me_var (i:=7) rfl (by trivial)) (mo_none) (mo_some (me_int))) (me_lst (ma_cons (me_str) (ma_nil))) (nomark _)) (fun _=>me_tup (ma_cons (me_ix (om_ix hK hu) (me_var (i:=7) rfl (by trivial)) (me_int) (fun _ _=>rfl)) (ma_cons (me_ix (om_ix hK hu) (me_var (i:=7) rfl (by trivial)) (me_int) (fun _ _=>rfl)) (ma_cons (me_ix (om_ix hK hu) (me_var (i:=7) rfl (by trivial)) (me_int) (fun _ _=>rfl)) (ma_cons (me_callTy cl_tuple (by rfl) B.tuple vb_tuple (ma_cons (me_slX hK (me_var (i:=7) rfl (by trivial)) (mo_some (me_int)) (mo_none)) (ma_nil))) (ma_nil)))))) (fun _=>rfl) (iy:=3) (o:=false) rfl sc.nd rfl (by trivial) (Or.inl rfl) (by with_unfolding_all rfl)) (mss_cons (ms_set (i:=4) (o:=true) rfl sc.nd rfl (by trivial) (me_lst (ma_nil))) (mss_cons (ms_forV (i:=0) rfl PassesOwn.never rfl rfl (by trivial) (tgs_one (i:=5) rfl) (pg_name (i:=5) sc.nd rfl (by trivial)) (mss_one (ms_if (mt_cmp (om_eq hu) (me_slX hK (me_var (i:=5) rfl (by trivial)) (mo_none) (mo_some (me_int))) (me_lst (ma_cons (me_str) (ma_nil))) (nomark _)) (mss_cons (ms_set (i:=6) (o:=false) rfl sc.nd rfl (by trivial) (me_bm PySem.F.plainAttrs_list PySem.F.slot_list_index PySem.F.type_list_index (mt_indexL hu) (me_var (i:=5) rfl (by trivial)) (ma_cons (me_str) (ma_nil)) (fun _ _ _ _ _ h r=>indexL_ty h r))) (mss_one (ms_app (i:=4) rfl rfl (by trivial) (me_tup (ma_cons (me_ix (om_ix hK hu) (me_var (i:=5) rfl (by trivial)) (me_int) (fun _ _=>rfl)) (ma_cons (me_ix (om_ix hK hu) (me_var (i:=5) rfl (by trivial)) (me_int) (fun _ _=>rfl)) (ma_cons (me_callTy cl_tuple (by rfl) B.tuple vb_tuple (ma_cons (me_slX hK (me_var (i:=5) rfl (by trivial)) (mo_some (me_int)) (mo_some (me_var (i:=6) rfl (by trivial)))) (ma_nil))) (ma_cons (me_callTy cl_tuple (by rfl) B.tuple vb_tuple (ma_cons (me_slX hK (me_var (i:=5) rfl (by trivial)) (mo_some (me_op om_add (me_var (i:=6) rfl (by trivial)) (me_int))) (mo_none)) (ma_nil))) (ma_nil))))))))) (mss_nil)))) (mss_one (ms_ret (me_tup (ma_cons (me_callTy cl_tuple (by rfl) B.tuple vb_tuple (ma_cons (me_var (i:=1) rfl (by trivial)) (ma_nil))) (ma_cons (me_callTy cl_tuple (by rfl) B.tuple vb_tuple (ma_cons (me_var (i:=2) rfl (by trivial)) (ma_nil))) (ma_cons (me_callTy cl_tuple (by rfl) B.tuple vb_tuple (ma_cons (me_var (i:=3) rfl (by trivial)) (ma_nil))) (ma_cons (me_callTy cl_tuple (by rfl) B.tuple vb_tuple (ma_cons (me_var (i:=4) rfl (by trivial)) (ma_nil))) (ma_nil))))))))))))
theorem sc_law : FnScope (["script", "items", "text"] : List Str) ["script"] (defScope s_law):=⟨rfl,rfl,rfl,by decide +kernel,rfl,by decide +kernel,by decide +kernel⟩
set_option maxHeartbeats 4000000 in
theorem ok_law [KFrag] {P : Program} {w : World} {K : Frag} {mg : Str->Option Value} {base : Heap} {fad : Addr} {fd : FuncData} (hK : KFrag.K = K) (B : Bt mg) (c__law_items : CalOk P w K mg base 4 "_law_items" 1 v__law_items) (c__law_program : CalOk P w K mg base 1 "_law_program" 1 v__law_program) (c_read : CalOk P w K mg base 6 "read" 1 v_read) (c__law_same : CalOk P w K mg base 7 "_law_same" 2 (v__law_same 6)) (F : Fun K "law" "law" s_law fad fd) : FnOk P w K mg base CX0 8 fad fd ["script"] (spD v_law 1):=by
 have sc:=sc_law
 refine fn_ok (ps:=["script"]) (N:=(["script", "items", "text"] : List Str)) (k:=7) F sc o_law (by decide) (by decide) fun cdv A outer s H E hr=>?_
 have hu:=hu20 hr
 exact mss_cons (ms_set (i:=1) (o:=false) rfl sc.nd rfl (by trivial) (me_callC c__law_items hr (by decide) (by rfl) (ma_cons (me_var (i:=0) rfl (by trivial)) (ma_nil)))) (mss_cons (ms_set (i:=2) (o:=false) rfl sc.nd rfl (by trivial) (me_bm PySem.F.plainAttrs_str PySem.F.slot_str_join PySem.F.type_str_join mt_join (me_str) (ma_cons (me_comp' (ownN:=(["item"] : List Str)) (show CompSc (["script", "items", "text"] : List Str) (defScope s_law) _ (["item"] : List Str) from ⟨rfl,by decide +kernel,by decide +kernel,by decide +kernel,by decide +kernel,by decide +kernel,by decide +kernel⟩) (n:=3) (m:=1) rfl rfl rfl (mi_valX (me_var (i:=1) rfl (by trivial))) (tgc_one 3) (fun _=>pg_name (i:=3) (show ((List.map (hideN (["item"] : List Str)) (["script", "items", "text"] : List Str) ++ (["item"] : List Str)) : List Str).Nodup from by decide +kernel) rfl (by trivial)) (fun _=>me_bm PySem.F.plainAttrs_str PySem.F.slot_str_join PySem.F.type_str_join mt_join (me_str) (ma_cons (me_var (i:=3) rfl (by trivial)) (ma_nil)) (fun _ _ _ _ _ h r=>joinM_ty h r)) (fun _=>rfl)) (ma_nil)) (fun _ _ _ _ _ h r=>joinM_ty h r))) (mss_one (ms_ret (me_callC c__law_same hr (by decide) (by rfl) (ma_cons (me_callC c_read hr (by decide) (by rfl) (ma_cons (me_var (i:=2) rfl (by trivial)) (ma_nil))) (ma_cons (me_callC c__law_program hr (by decide) (by rfl) (ma_cons (me_var (i:=1) rfl (by trivial)) (ma_nil))) (ma_nil)))))))
theorem all_mk {l : OpenLaw} {w : World} {K : Frag} {h : Heap} {mg : Str->Option Value} {fa : Addr} (X : K.In h) (G : h.Ns mainGlobals mg) (hfa : mg "law" = some (.ref fa))
  {f0 : Addr} {oc0 kV0 dc0 pm0 cd0 ct0 : Value} {od0 an0 : Option Addr} {sl0 : Array (Option Value)} (a0 : nsIn K mainGlobals "_law_name" = some (some (.ref f0))) (l0 : K.lookup f0 = some ⟨oc0,od0,.func (fnOf "_law_name" "_law_name" (defArgs s__law_name) (defBody s__law_name) (defScope s__law_name) .none kV0 dc0 pm0 an0 cd0 ct0),sl0⟩) (c0 : codeIn K cd0 "_law_name" = true) (k0 : keepIn K (.ref f0) = true)
  {f1 : Addr} {oc1 kV1 dc1 pm1 cd1 ct1 : Value} {od1 an1 : Option Addr} {sl1 : Array (Option Value)} (a1 : nsIn K mainGlobals "_law_names" = some (some (.ref f1))) (l1 : K.lookup f1 = some ⟨oc1,od1,.func (fnOf "_law_names" "_law_names" (defArgs s__law_names) (defBody s__law_names) (defScope s__law_names) .none kV1 dc1 pm1 an1 cd1 ct1),sl1⟩) (c1 : codeIn K cd1 "_law_names" = true) (k1 : keepIn K (.ref f1) = true)
  {f2 : Addr} {oc2 kV2 dc2 pm2 cd2 ct2 : Value} {od2 an2 : Option Addr} {sl2 : Array (Option Value)} (a2 : nsIn K mainGlobals "_law_item" = some (some (.ref f2))) (l2 : K.lookup f2 = some ⟨oc2,od2,.func (fnOf "_law_item" "_law_item" (defArgs s__law_item) (defBody s__law_item) (defScope s__law_item) .none kV2 dc2 pm2 an2 cd2 ct2),sl2⟩) (c2 : codeIn K cd2 "_law_item" = true) (k2 : keepIn K (.ref f2) = true)
  {f3 : Addr} {oc3 kV3 dc3 pm3 cd3 ct3 : Value} {od3 an3 : Option Addr} {sl3 : Array (Option Value)} (a3 : nsIn K mainGlobals "_law_mixed" = some (some (.ref f3))) (l3 : K.lookup f3 = some ⟨oc3,od3,.func (fnOf "_law_mixed" "_law_mixed" (defArgs s__law_mixed) (defBody s__law_mixed) (defScope s__law_mixed) .none kV3 dc3 pm3 an3 cd3 ct3),sl3⟩) (c3 : codeIn K cd3 "_law_mixed" = true) (k3 : keepIn K (.ref f3) = true)
  {f4 : Addr} {oc4 kV4 dc4 pm4 cd4 ct4 : Value} {od4 an4 : Option Addr} {sl4 : Array (Option Value)} (a4 : nsIn K mainGlobals "_law_items" = some (some (.ref f4))) (l4 : K.lookup f4 = some ⟨oc4,od4,.func (fnOf "_law_items" "_law_items" (defArgs s__law_items) (defBody s__law_items) (defScope s__law_items) .none kV4 dc4 pm4 an4 cd4 ct4),sl4⟩) (c4 : codeIn K cd4 "_law_items" = true) (k4 : keepIn K (.ref f4) = true)
  {f5 : Addr} {oc5 kV5 dc5 pm5 cd5 ct5 : Value} {od5 an5 : Option Addr} {sl5 : Array (Option Value)} (a5 : nsIn K mainGlobals "_law_same" = some (some (.ref f5))) (l5 : K.lookup f5 = some ⟨oc5,od5,.func (fnOf "_law_same" "_law_same" (defArgs s__law_same) (defBody s__law_same) (defScope s__law_same) .none kV5 dc5 pm5 an5 cd5 ct5),sl5⟩) (c5 : codeIn K cd5 "_law_same" = true) (k5 : keepIn K (.ref f5) = true)
  {f6 : Addr} {oc6 kV6 dc6 pm6 cd6 ct6 : Value} {od6 an6 : Option Addr} {sl6 : Array (Option Value)} (a6 : nsIn K mainGlobals "are_small_letters" = some (some (.ref f6))) (l6 : K.lookup f6 = some ⟨oc6,od6,.func (fnOf "are_small_letters" "are_small_letters" (defArgs s_are_small_letters) (defBody s_are_small_letters) (defScope s_are_small_letters) .none kV6 dc6 pm6 an6 cd6 ct6),sl6⟩) (c6 : codeIn K cd6 "are_small_letters" = true) (k6 : keepIn K (.ref f6) = true)
  {f7 : Addr} {oc7 kV7 dc7 pm7 cd7 ct7 : Value} {od7 an7 : Option Addr} {sl7 : Array (Option Value)} (a7 : nsIn K mainGlobals "is_name" = some (some (.ref f7))) (l7 : K.lookup f7 = some ⟨oc7,od7,.func (fnOf "is_name" "is_name" (defArgs s_is_name) (defBody s_is_name) (defScope s_is_name) .none kV7 dc7 pm7 an7 cd7 ct7),sl7⟩) (c7 : codeIn K cd7 "is_name" = true) (k7 : keepIn K (.ref f7) = true)
  {f8 : Addr} {oc8 kV8 dc8 pm8 cd8 ct8 : Value} {od8 an8 : Option Addr} {sl8 : Array (Option Value)} (a8 : nsIn K mainGlobals "are_names" = some (some (.ref f8))) (l8 : K.lookup f8 = some ⟨oc8,od8,.func (fnOf "are_names" "are_names" (defArgs s_are_names) (defBody s_are_names) (defScope s_are_names) .none kV8 dc8 pm8 an8 cd8 ct8),sl8⟩) (c8 : codeIn K cd8 "are_names" = true) (k8 : keepIn K (.ref f8) = true)
  {f9 : Addr} {oc9 kV9 dc9 pm9 cd9 ct9 : Value} {od9 an9 : Option Addr} {sl9 : Array (Option Value)} (a9 : nsIn K mainGlobals "rule_row" = some (some (.ref f9))) (l9 : K.lookup f9 = some ⟨oc9,od9,.func (fnOf "rule_row" "rule_row" (defArgs s_rule_row) (defBody s_rule_row) (defScope s_rule_row) .none kV9 dc9 pm9 an9 cd9 ct9),sl9⟩) (c9 : codeIn K cd9 "rule_row" = true) (k9 : keepIn K (.ref f9) = true)
  {f10 : Addr} {oc10 kV10 dc10 pm10 cd10 ct10 : Value} {od10 an10 : Option Addr} {sl10 : Array (Option Value)} (a10 : nsIn K mainGlobals "row_of" = some (some (.ref f10))) (l10 : K.lookup f10 = some ⟨oc10,od10,.func (fnOf "row_of" "row_of" (defArgs s_row_of) (defBody s_row_of) (defScope s_row_of) .none kV10 dc10 pm10 an10 cd10 ct10),sl10⟩) (c10 : codeIn K cd10 "row_of" = true) (k10 : keepIn K (.ref f10) = true)
  {f11 : Addr} {oc11 kV11 dc11 pm11 cd11 ct11 : Value} {od11 an11 : Option Addr} {sl11 : Array (Option Value)} (a11 : nsIn K mainGlobals "read" = some (some (.ref f11))) (l11 : K.lookup f11 = some ⟨oc11,od11,.func (fnOf "read" "read" (defArgs s_read) (defBody s_read) (defScope s_read) .none kV11 dc11 pm11 an11 cd11 ct11),sl11⟩) (c11 : codeIn K cd11 "read" = true) (k11 : keepIn K (.ref f11) = true)
  {f12 : Addr} {oc12 kV12 dc12 pm12 cd12 ct12 : Value} {od12 an12 : Option Addr} {sl12 : Array (Option Value)} (a12 : nsIn K mainGlobals "_law_program" = some (some (.ref f12))) (l12 : K.lookup f12 = some ⟨oc12,od12,.func (fnOf "_law_program" "_law_program" (defArgs s__law_program) (defBody s__law_program) (defScope s__law_program) .none kV12 dc12 pm12 an12 cd12 ct12),sl12⟩) (c12 : codeIn K cd12 "_law_program" = true) (k12 : keepIn K (.ref f12) = true)
  {f13 : Addr} {oc13 kV13 dc13 pm13 cd13 ct13 : Value} {od13 an13 : Option Addr} {sl13 : Array (Option Value)} (a13 : nsIn K mainGlobals "law" = some (some (.ref f13))) (l13 : K.lookup f13 = some ⟨oc13,od13,.func (fnOf "law" "law" (defArgs s_law) (defBody s_law) (defScope s_law) .none kV13 dc13 pm13 an13 cd13 ct13),sl13⟩) (c13 : codeIn K cd13 "law" = true) (k13 : keepIn K (.ref f13) = true) (z_len : nsIn K mainGlobals "len" = some none) (z_min : nsIn K mainGlobals "min" = some none) (z_max : nsIn K mainGlobals "max" = some none) (z_list : nsIn K mainGlobals "list" = some none) (z_tuple : nsIn K mainGlobals "tuple" = some none) (z_sorted : nsIn K mainGlobals "sorted" = some none) (z_range : nsIn K mainGlobals "range" = some none) (z_isinstance : nsIn K mainGlobals "isinstance" = some none) (z_int : nsIn K mainGlobals "int" = some none) (z_bool : nsIn K mainGlobals "bool" = some none) (z_str : nsIn K mainGlobals "str" = some none) (z_dict : nsIn K mainGlobals "dict" = some none) (z_all : nsIn K mainGlobals "all" = some none) (z_enumerate : nsIn K mainGlobals "enumerate" = some none) (z_sum : nsIn K mainGlobals "sum" = some none) (z_zip : nsIn K mainGlobals "zip" = some none) (z_abs : nsIn K mainGlobals "abs" = some none) (z_reversed : nsIn K mainGlobals "reversed" = some none) :
  ∃ fd : FuncData,(∀ (s : Shared) (v : Value),BindsTo s fd ⟨[v],[]⟩ [("script",v)])/\∀ base : Heap,K.In base->base.Ns mainGlobals mg->FnOk l.prog w K mg base CX0 8 fa fd ["script"] (@spD ⟨K⟩ v_law 1):=by
 have e:=hfa.symm.trans (mg_of X G a13)
 cases e
 letI : KFrag:=⟨K⟩
 have B : Bt mg:=⟨mg_none_of X G z_len,mg_none_of X G z_min,mg_none_of X G z_max,mg_none_of X G z_list,mg_none_of X G z_tuple,mg_none_of X G z_sorted,mg_none_of X G z_range,mg_none_of X G z_isinstance,mg_none_of X G z_int,mg_none_of X G z_bool,mg_none_of X G z_str,mg_none_of X G z_dict,mg_none_of X G z_all,mg_none_of X G z_enumerate,mg_none_of X G z_sum,mg_none_of X G z_zip,mg_none_of X G z_abs,mg_none_of X G z_reversed⟩
 refine ⟨fnOf "law" "law" (defArgs s_law) (defBody s_law) (defScope s_law) .none kV13 dc13 pm13 an13 cd13 ct13,fun s v=>.of_eq rfl,fun base _ _=>?_⟩
 have h__law_name:=cal__law_name (P:=l.prog) (w:=w) (base:=base) rfl B  (fun_mk (st:=s__law_name) l0 c0 k0) (mg_of X G a0)
 have h__law_names:=cal__law_names (P:=l.prog) (w:=w) (base:=base) rfl B h__law_name (fun_mk (st:=s__law_names) l1 c1 k1) (mg_of X G a1)
 have h__law_item:=cal__law_item (P:=l.prog) (w:=w) (base:=base) rfl B h__law_names (fun_mk (st:=s__law_item) l2 c2 k2) (mg_of X G a2)
 have h__law_mixed:=cal__law_mixed (P:=l.prog) (w:=w) (base:=base) rfl B  (fun_mk (st:=s__law_mixed) l3 c3 k3) (mg_of X G a3)
 have h__law_items:=cal__law_items (P:=l.prog) (w:=w) (base:=base) rfl B h__law_mixed h__law_item (fun_mk (st:=s__law_items) l4 c4 k4) (mg_of X G a4)
 have h__law_same:=cal__law_same (P:=l.prog) (w:=w) (base:=base) rfl B  (fun_mk (st:=s__law_same) l5 c5 k5) (mg_of X G a5) 6
 have h_are_small_letters:=cal_are_small_letters (P:=l.prog) (w:=w) (base:=base) rfl B  (fun_mk (st:=s_are_small_letters) l6 c6 k6) (mg_of X G a6)
 have h_is_name:=cal_is_name (P:=l.prog) (w:=w) (base:=base) rfl B h_are_small_letters (fun_mk (st:=s_is_name) l7 c7 k7) (mg_of X G a7)
 have h_are_names:=cal_are_names (P:=l.prog) (w:=w) (base:=base) rfl B h_is_name (fun_mk (st:=s_are_names) l8 c8 k8) (mg_of X G a8)
 have h_rule_row:=cal_rule_row (P:=l.prog) (w:=w) (base:=base) rfl B h_are_names (fun_mk (st:=s_rule_row) l9 c9 k9) (mg_of X G a9)
 have h_row_of:=cal_row_of (P:=l.prog) (w:=w) (base:=base) rfl B h_rule_row h_are_names (fun_mk (st:=s_row_of) l10 c10 k10) (mg_of X G a10)
 have h_read:=cal_read (P:=l.prog) (w:=w) (base:=base) rfl B h_row_of (fun_mk (st:=s_read) l11 c11 k11) (mg_of X G a11)
 have h__law_program:=cal__law_program (P:=l.prog) (w:=w) (base:=base) rfl B  (fun_mk (st:=s__law_program) l12 c12 k12) (mg_of X G a12)
 exact ok_law rfl B h__law_items h__law_program h_read h__law_same (fun_mk (st:=s_law) l13 c13 k13)
theorem walk {l : OpenLaw} {q : Program} {loose : List Str} {XP : (Str->Option Value)->Heap->Prop} {YP : World->Heap->Prop} {d : DefRec} {K : Params->Frag} (main : ∀ ns : List Int,ns.length<=63->v_law [.scr (ns.map D.int)] = .ok (.bl true)) (hn : l.most = some 63) (hdf : d.params.defaults = [])
  (hY : ∀ (w : World) (h : Heap),YP w h->(K w.params).In h)
  (F : ∀ (w : World) (mg : Str->Option Value) (fa : Addr) (h : Heap),(K w.params).In h->h.Ns mainGlobals mg->mg d.name = some (.ref fa)->
   ∃ fd : FuncData,(∀ (s : Shared) (u : Value),BindsTo s fd ⟨[u],[]⟩ [("script",u)])/\∀ base : Heap,(K w.params).In base->base.Ns mainGlobals mg->FnOk l.prog w (K w.params) mg base CX0 8 fa fd ["script"] (@spD ⟨K w.params⟩ v_law 1)) :
  WalkO q loose XP YP l.row.toRowW d [] (fun f vs=>PySem.call f vs):=
 L2.walk_of (n:=63) (k:=8) (x := "script") (CX:=fun _=>CX0) (sp:=fun w=>@spD ⟨K w.params⟩ v_law 1) hn (by decide) hdf ⟨rfl,by decide,by decide⟩ hY F (fun w H a ns hl hO hS=>script_sp main hl hO hS) fun _ _ _ _ _ z=>z
end Lk42
end
section
set_option maxRecDepth 100000
namespace Lk42
open PySem L2 Mi
theorem free_cut {c : Nat} : ∀ {a b r s : List Nat},c ∉ a->c ∉ b->a ++ c :: r = b ++ c :: s->a = b/\r = s
 | [],[],r,s,_,_,h=>by simpa using h
 | [],y :: b,r,s,_,hb,h=>by
  injection h with h1 h2
  exact absurd (by rw [h1];exact List.mem_cons_self ..) hb
 | x :: a,[],r,s,ha,_,h=>by
  injection h with h1 h2
  exact absurd (by rw [<- h1];exact List.mem_cons_self ..) ha
 | x :: a,y :: b,r,s,ha,hb,h=>by
  injection h with h1 h2
  obtain ⟨h3,h4⟩:=free_cut (fun z=>ha (List.mem_cons_of_mem _ z)) (fun z=>hb (List.mem_cons_of_mem _ z)) h2
  exact ⟨by rw [h1,h3],h4⟩
theorem join_codes (c : Nat) (x y : Str) (r : List Str) : (Str.join ⟨#[c]⟩ (x :: y :: r)).cps.toList = x.cps.toList ++ c :: (Str.join ⟨#[c]⟩ (y :: r)).cps.toList:=by
 show ((x.cps ++ #[c]) ++ (Str.join ⟨#[c]⟩ (y :: r)).cps).toList = _
 simp
theorem str_ext {x y : Str} (h : x.cps.toList = y.cps.toList) : x = y:=Str.ext' (Array.toList_inj.mp h)
theorem join_inj {c : Nat} : ∀ {ps qs : List Str},(∀ p ∈ ps,c ∉ p.cps.toList)->(∀ q ∈ qs,c ∉ q.cps.toList)->ps ≠ []->qs ≠ []->(Str.join ⟨#[c]⟩ ps).cps.toList = (Str.join ⟨#[c]⟩ qs).cps.toList->ps = qs
 | [],_,_,_,h,_,_=>absurd rfl h
 | _,[],_,_,_,h,_=>absurd rfl h
 | [p],[q],_,_,_,_,h=>by rw [str_ext (x:=p) (y:=q) h]
 | [p],q :: q2 :: qs,hp,_,_,_,h=>by
  rw [join_codes] at h
  have : c ∈ p.cps.toList:=by
   rw [show p.cps.toList = _ from h]
   exact List.mem_append_right _ (List.mem_cons_self ..)
  exact absurd this (hp p (List.mem_cons_self ..))
 | p :: p2 :: ps,[q],_,hq,_,_,h=>by
  rw [join_codes] at h
  have : c ∈ q.cps.toList:=by
   rw [show q.cps.toList = _ from h.symm]
   exact List.mem_append_right _ (List.mem_cons_self ..)
  exact absurd this (hq q (List.mem_cons_self ..))
 | p :: p2 :: ps,q :: q2 :: qs,hp,hq,_,_,h=>by
  rw [join_codes,join_codes] at h
  obtain ⟨h1,h2⟩:=free_cut (hp p (List.mem_cons_self ..)) (hq q (List.mem_cons_self ..)) h
  have:=join_inj (ps:=p2 :: ps) (qs:=q2 :: qs) (fun z hz=>hp z (List.mem_cons_of_mem _ hz)) (fun z hz=>hq z (List.mem_cons_of_mem _ hz)) (by simp) (by simp) h2
  rw [str_ext h1,this]
theorem split_ne (x : Str) (c : Nat) : Txt.split x ⟨#[c]⟩ ≠ []:=fun h=>by
 have h1:=StrLaws.join_split x ⟨#[c]⟩
 rw [h] at h1
 have hx : x.length = 0:=by rw [<- h1];rfl
 unfold Txt.split at h
 rw [if_pos (by rw [Bool.or_eq_true,decide_eq_true_eq];left;rw [hx];exact Nat.zero_lt_one)] at h
 cases h
theorem split_join {c : Nat} {ts : List Str} (hn : ts ≠ []) (hf : ∀ t ∈ ts,c ∉ t.cps.toList) : Txt.split (Txt.join ⟨#[c]⟩ ts) ⟨#[c]⟩ = ts:=by
 have e : Txt.join ⟨#[c]⟩ ts = Str.join ⟨#[c]⟩ ts:=StrLaws.glued_eq_join _ _
 rw [e]
 exact join_inj (StrLaws.split_free _ c) hf (split_ne _ c) hn (by rw [StrLaws.join_split])
theorem join_len (c : Nat) (B : Nat) : ∀ ts : List Str,(∀ t ∈ ts,t.length<=B)->(Txt.join ⟨#[c]⟩ ts).length<=ts.length * (B + 1):=by
 intro ts h
 have e : Txt.join ⟨#[c]⟩ ts = Str.join ⟨#[c]⟩ ts:=StrLaws.glued_eq_join _ _
 rw [e]
 have h1:=StrLaws.join_length_le ⟨#[c]⟩ ts
 have h2 : (ts.map (·.length)).sum<=ts.length * B:=by
  clear h1 e
  induction ts with
  | nil=>simp
  | cons t ts ih=>
   have a:=h t (List.mem_cons_self ..)
   have b:=ih fun x hx=>h x (List.mem_cons_of_mem _ hx)
   simp only [List.map_cons,List.sum_cons,List.length_cons,Nat.succ_mul]
   lia
 have h3 : (⟨#[c]⟩ : Str).length = 1:=rfl
 rw [h3] at h1
 have : ts.length * (B + 1) = ts.length * B + ts.length * 1:=by rw [Nat.mul_add]
 lia
theorem join_mem {c d : Nat} : ∀ {ts : List Str},d ∈ (Txt.join ⟨#[c]⟩ ts).cps.toList->d = c\/∃ t ∈ ts,d ∈ t.cps.toList:=by
 intro ts
 have e : Txt.join ⟨#[c]⟩ ts = Str.join ⟨#[c]⟩ ts:=StrLaws.glued_eq_join _ _
 rw [e]
 clear e
 induction ts with
 | nil=>intro h;cases h
 | cons t ts ih=>
  intro h
  cases ts with
  | nil=>exact .inr ⟨t,List.mem_cons_self ..,h⟩
  | cons u ts=>
   rw [join_codes] at h
   rcases List.mem_append.mp h with h | h
   ·exact .inr ⟨t,List.mem_cons_self ..,h⟩
   ·rcases List.mem_cons.mp h with h | h
    ·exact .inl h
    ·rcases ih h with h | ⟨v,hv,h⟩
     ·exact .inl h
     ·exact .inr ⟨v,List.mem_cons_of_mem _ hv,h⟩
theorem join_fits {c B : Nat} {ts : List Str} (h : ∀ t ∈ ts,t.length<=B) (hb : ts.length * B + ts.length<=1000000) : JoinOk ⟨#[c]⟩ ts = true:=by
 unfold JoinOk
 rw [Bool.not_eq_true']
 exact StrLaws.joinFits h (by rw [show (⟨#[c]⟩ : Str).length = 1 from rfl,Nat.mul_one];lia)
theorem texts_map : ∀ ts : List Str,textsD (ts.map D.str) = some ts
 | []=>rfl
 | t :: ts=>by
  show (textsD (ts.map D.str)).map (t :: ·) = _
  rw [texts_map ts]
  rfl
end Lk42
end
section
set_option maxRecDepth 100000
namespace Lk42
open PySem L2 Mi
noncomputable def codeOk (c : Nat) : Bool:=decide (97<=c) && decide (c<=122)
noncomputable def nameOk (x : Str) : Bool:=decide (1<=x.length) && decide (x.length<=8) && x.cps.toList.all codeOk
noncomputable def one (c : Nat) : Str:=⟨#[c]⟩
theorem lt_one (a b : Nat) : ([a] < [b]) ↔ a < b:=by
 rw [List.cons_lt_cons_iff]
 simp
theorem le_a (c : Nat) : cmpD (.ord .le) (.str "a") (.str (one c)) = .ok (.bl (decide (97<=c))):=by
 refine cmp_ord rfl rfl ?_
 show some (!decide ((one c).cps.toList < ("a" : Str).cps.toList)) = _
 rw [show ("a" : Str).cps.toList = [97] from rfl,show (one c).cps.toList = [c] from rfl]
 congr 1
 by_cases h : c < 97
 ·rw [decide_eq_true ((lt_one c 97).mpr h),decide_eq_false (by lia)]
  rfl
 ·rw [decide_eq_false (fun z=>h ((lt_one c 97).mp z)),decide_eq_true (by lia)]
  rfl
theorem le_z (c : Nat) : cmpD (.ord .le) (.str (one c)) (.str "z") = .ok (.bl (decide (c<=122))):=by
 refine cmp_ord rfl rfl ?_
 show some (!decide (("z" : Str).cps.toList < (one c).cps.toList)) = _
 rw [show ("z" : Str).cps.toList = [122] from rfl,show (one c).cps.toList = [c] from rfl]
 congr 1
 by_cases h : 122 < c
 ·rw [decide_eq_true ((lt_one 122 c).mpr h),decide_eq_false (by lia)]
  rfl
 ·rw [decide_eq_false (fun z=>h ((lt_one 122 c).mp z)),decide_eq_true (by lia)]
  rfl
theorem bools_map {α : Type} (f : α->Bool) : ∀ xs : List α,boolsD (xs.map fun x=>D.bl (f x)) = some (xs.map f)
 | []=>rfl
 | x :: xs=>by
  show (boolsD (xs.map fun x=>D.bl (f x))).map (f x :: ·) = _
  rw [bools_map f xs]
  rfl
theorem call_v {n m : Nat} {f : FS} {ds : List D} {d : D} (h : f (ds ++ List.replicate (m - n) D.undef) = .ok (.rt d)) : fnS n m f ds = .ok d:=by
 show (do let r <- f (ds ++ List.replicate (m - n) D.undef);endD r) = _
 rw [h]
 rfl
theorem small_eq (x : Str) (hx : x.length<=lim) : argN 1 v_are_small_letters [.str x] = .ok (.bl (x.cps.toList.all codeOk)):=by
 refine (argN_ok rfl).trans (call_v ?_)
 have hi : bItemsX (bVar 0) false [D.str x] = .ok (charsD x,true):=by
  show (do let d <- bVar 0 [D.str x];let xs <- itemsX d;pure (xs,false || d.pure)) = _
  show (do let xs <- (if decide (x.length<=lim) then Res.ok (charsD x) else .bad);(pure (xs,true) : Res (List D × Bool))) = _
  rw [if_pos (decide_eq_true hx)]
  rfl
 have hl : (charsD x).length<=lim:=by
  unfold charsD
  rw [List.length_map]
  exact hx
 have hf : cfold (cstep 1 oneT bTrue (bCh (cmpD (.ord .le)) (cmpD (.ord .le)) (bC (.str "a")) (bVar 1) (bC (.str "z"))) true [D.str x]) [] (charsD x) = .ok (x.cps.toList.map fun c=>D.bl (codeOk c)):=by
  show cfold _ [] (x.cps.toList.map fun c=>D.str (one c)) = _
  rw [cfold_map _ (fun c=>D.str (one c)) (fun _=>true) (fun c=>D.bl (codeOk c))]
  ·rw [List.filter_eq_self.mpr (fun _ _=>rfl)]
   rfl
  ·intro acc c
   refine (cstep_one (b:=true) (y:=.bl (codeOk c)) rfl rfl fun _=>⟨?_,rfl⟩)
   show bCh (cmpD (.ord .le)) (cmpD (.ord .le)) (bC (.str "a")) (bVar 1) (bC (.str "z")) [D.str x,.str (one c)] = _
   by_cases h : 97<=c
   ·refine ch_t (x:=.str "a") (y:=.str (one c)) (z:=.str "z") rfl rfl ((le_a c).trans (by rw [decide_eq_true h])) rfl ((le_z c).trans ?_)
    unfold codeOk
    rw [decide_eq_true h,Bool.true_and]
   ·refine (ch_f (x:=.str "a") (y:=.str (one c)) rfl rfl ((le_a c).trans (by rw [decide_eq_false h]))).trans ?_
    unfold codeOk
    rw [decide_eq_false h,Bool.false_and]
 refine ret_ok (d:=.bl (x.cps.toList.all codeOk)) (call_ok (xs:=[.lst (x.cps.toList.map fun c=>D.bl (codeOk c))]) (cons_ok (comp_ok hi hl hf) rfl) ?_) rfl
 show (match boolsD (x.cps.toList.map fun c=>D.bl (codeOk c)) with | some bs=>Res.ok (D.bl (bs.all id)) | none=>.bad) = _
 rw [bools_map]
 show Res.ok (D.bl ((x.cps.toList.map codeOk).all id)) = _
 rw [List.all_map]
 rfl
theorem andV_t {a b : FE} {ρ : List D} {r : Res D} (h1 : a ρ = .ok (.bl true)) (h2 : b ρ = r) : bAndV a b ρ = r:=by
 unfold bAndV
 rw [h1]
 exact h2
theorem andV_f {a b : FE} {ρ : List D} (h1 : a ρ = .ok (.bl false)) : bAndV a b ρ = .ok (.bl false):=by
 unfold bAndV
 rw [h1]
 rfl
theorem len_str (x : Str) (hx : x.length<=lim) : lenD [.str x] = .ok (.int x.length):=by
 show (if decide (x.length<=lim) then Res.ok (D.int x.length) else .bad) = _
 rw [if_pos (decide_eq_true hx)]
theorem cmp_int (o : Ordr) (a b : Int) : cmpD (.ord o) (.int a) (.int b) = .ok (.bl (o.int a b)):=cmp_ord rfl rfl rfl
theorem name_eq (x : Str) (hx : x.length<=lim) : argN 1 v_is_name [.str x] = .ok (.bl (nameOk x)):=by
 refine (argN_ok rfl).trans (call_v ?_)
 have hlen : bCall lenD (bCons (bVar 0) (bNil)) [D.str x] = .ok (.int x.length):=call_ok (cons_ok rfl rfl) (len_str x hx)
 refine ret_ok (d:=.bl (nameOk x)) ?_ rfl
 unfold nameOk
 by_cases h1 : 1<=x.length
 ·by_cases h2 : x.length<=8
  ·refine andV_t (ch_t (x:=.int 1) (z:=.int 8) rfl hlen ((cmp_int .le 1 x.length).trans ?_) rfl ((cmp_int .le x.length 8).trans ?_)) (call_ok (cons_ok rfl rfl) ((small_eq x hx).trans ?_))
   ·rw [show Ordr.le.int 1 x.length = true from decide_eq_true (by lia)]
   ·rw [show Ordr.le.int x.length 8 = true from decide_eq_true (by lia)]
   ·rw [decide_eq_true h1,decide_eq_true h2]
    rfl
  ·refine (andV_f (ch_t (x:=.int 1) (z:=.int 8) rfl hlen ((cmp_int .le 1 x.length).trans ?_) rfl ((cmp_int .le x.length 8).trans ?_))).trans ?_
   ·rw [show Ordr.le.int 1 x.length = true from decide_eq_true (by lia)]
   ·rw [show Ordr.le.int x.length 8 = false from decide_eq_false (by lia)]
   ·rw [decide_eq_false h2,Bool.and_false,Bool.false_and]
 ·refine (andV_f (ch_f (x:=.int 1) rfl hlen ((cmp_int .le 1 x.length).trans ?_))).trans ?_
  ·rw [show Ordr.le.int 1 x.length = false from decide_eq_false (by lia)]
  ·rw [decide_eq_false h1,Bool.false_and,Bool.false_and]
theorem mul_i (a b : Int) : mulX (.int a) (.int b) = binD .mul (.int a) (.int b):=rfl
theorem mixed_eq (c k : Int) (h0 : 0<=k) (h1 : k<=1000) : ∃ n : Int,0<=n/\n < 998244353/\argN 2 v__law_mixed [.int c,.int k] = .ok (.int n):=by
 have hm1:=(mul_i c 40503).trans (mul_ok c 40503 (small_ok _ (by lia) (by lia)))
 have hm2:=(mul_i (k + 5) (k + 2)).trans (mul_ok (k + 5) (k + 2) (small_ok _ (by lia) (by lia)))
 have hm3:=(mul_i ((k + 5) * (k + 2)) 265443).trans (mul_ok ((k + 5) * (k + 2)) 265443 (small_ok _ (by lia) (by lia)))
 have hd1:=mod_ok (c * 40503 + (k + 5) * (k + 2) * 265443 + 23) 999999937 (by lia)
 have b0:=Int.emod_nonneg (c * 40503 + (k + 5) * (k + 2) * 265443 + 23) (show (999999937 : Int) ≠ 0 by lia)
 have b1:=Int.emod_lt_of_pos (c * 40503 + (k + 5) * (k + 2) * 265443 + 23) (show (0 : Int) < 999999937 by lia)
 generalize (c * 40503 + (k + 5) * (k + 2) * 265443 + 23) % 999999937 = m at hd1 b0 b1
 have sm : smallB m = true:=by
  simp only [smallB,Bool.and_eq_true,decide_eq_true_eq]
  lia
 have hm4:=(mul_i m m).trans (mul_ok m m sm)
 have hm5:=(mul_i 97 m).trans (mul_ok 97 m sm)
 have hd2:=mod_ok (m * m + 97 * m) 998244353 (by lia)
 refine ⟨(m * m + 97 * m) % 998244353,Int.emod_nonneg _ (by lia),Int.emod_lt_of_pos _ (by lia),(argN_ok rfl).trans (call_v ?_)⟩
 refine seq_ok (ρ':=[.int c,.int k,.int m]) (set_ok (i:=2) (b2_ok (b2_ok (b2_ok (b2_ok rfl rfl hm1) (b2_ok (b2_ok (b2_ok rfl rfl (add_ok k 5)) (b2_ok rfl rfl (add_ok k 2)) hm2) rfl hm3) (add_ok _ _)) rfl (add_ok _ _)) rfl hd1)) ?_
 exact ret_ok (d:=.int ((m * m + 97 * m) % 998244353)) (b2_ok (b2_ok (b2_ok rfl rfl hm4) (b2_ok rfl rfl hm5) (add_ok _ _)) rfl hd2) rfl
noncomputable def Nm (w : Str) : Prop:=1<=w.length/\w.length<=8/\∀ c ∈ w.cps.toList,97<=c/\c<=122
theorem nm_ok {w : Str} (h : Nm w) : nameOk w = true:=by
 obtain ⟨h1,h2,h3⟩:=h
 unfold nameOk
 rw [decide_eq_true h1,decide_eq_true h2,Bool.true_and,Bool.true_and,List.all_eq_true]
 intro c hc
 obtain ⟨a,b⟩:=h3 c hc
 unfold codeOk
 rw [decide_eq_true a,decide_eq_true b]
 rfl
theorem nm_lim {w : Str} (h : Nm w) : w.length<=lim:=by
 rw [lim_eq]
 have:=h.2.1
 lia
theorem itemsX_tup {a : FE} {ρ : List D} {xs : List D} (h1 : a ρ = .ok (.tup xs)) : bItemsX a false ρ = .ok (xs,D.pures xs):=by
 unfold bItemsX
 rw [h1]
 show Res.ok (xs,false || (D.tup xs).pure) = _
 rw [D.pure,Bool.false_or]
theorem cfold_pt {α : Type} (g : List D->D->Res (List D)) (d y : α->D) : ∀ (xs : List α) (acc : List D),(∀ a ∈ xs,∀ acc,g acc (d a) = .ok (acc ++ [y a]))->cfold g acc (xs.map d) = .ok (acc ++ xs.map y)
 | [],acc,_=>by simp [cfold]
 | x :: xs,acc,h=>by
  rw [List.map_cons,cfold,h x (List.mem_cons_self ..)]
  show cfold g _ _ = _
  rw [cfold_pt g d y xs _ fun a ha=>h a (List.mem_cons_of_mem _ ha)]
  simp
theorem cstep_t {n : Nat} {t : D->Res (List D)} {f : FE} {k : Bool} {ρ acc bs : List D} {x y : D} (hρ : ρ.length = n) (ht : t x = .ok bs) (h2 : f (ρ ++ bs) = .ok y) (h3 : (k || y.pure) = true) : cstep n t bTrue f k ρ acc x = .ok (acc ++ [y]):=by
 unfold cstep
 rw [ht,Res.ok_bind,padD_self hρ,show bTrue (ρ ++ bs) = .ok true from rfl,Res.ok_bind,if_pos rfl,h2,Res.ok_bind,if_pos h3]
 rfl
theorem names_are {ws : List Str} (h : ∀ w ∈ ws,Nm w) (hl : ws.length<=100) : argN 1 v_are_names [.tup (ws.map D.str)] = .ok (.bl true):=by
 refine (argN_ok rfl).trans (call_v ?_)
 have hf : cfold (cstep 1 oneT bTrue (bCall (argN 1 v_is_name) (bCons (bVar 1) (bNil))) true [D.tup (ws.map D.str)]) [] (ws.map D.str) = .ok (ws.map fun _=>D.bl true):=
  cfold_pt _ D.str (fun _=>D.bl true) ws [] fun w hw acc=>cstep_t (n:=1) (bs:=[.str w]) rfl rfl (call_ok (xs:=[.str w]) (cons_ok rfl rfl) ((name_eq w (nm_lim (h w hw))).trans (by rw [nm_ok (h w hw)]))) rfl
 refine ret_ok (d:=.bl true) (call_ok (xs:=[.lst (ws.map fun _=>D.bl true)]) (cons_ok (comp_ok (itemsX_tup rfl) (by rw [List.length_map,lim_eq];lia) hf) rfl) ?_) rfl
 show (match boolsD (ws.map fun _=>D.bl true) with | some bs=>Res.ok (D.bl (bs.all id)) | none=>.bad) = _
 rw [bools_map (fun _=>true)]
 show Res.ok (D.bl ((ws.map fun _=>true).all id)) = _
 rw [List.all_map]
 congr 2
 rw [List.all_eq_true]
 intro x _
 rfl
theorem pures_strs : ∀ L : List Str,D.pures (L.map D.str) = true
 | []=>rfl
 | x :: L=>by
  show ((D.str x).pure && D.pures (L.map D.str)) = true
  rw [pures_strs L]
  rfl
theorem seq_rt {f g : FS} {ρ : List D} {d : D} (h : f ρ = .ok (.rt d)) : sSeq f g ρ = .ok (.rt d):=by
 unfold sSeq
 rw [h]
 rfl
theorem bM_ok {f : D->List D->Res D} {o : FE} {a : FA} {ρ xs : List D} {x d : D} (h1 : o ρ = .ok x) (h2 : a ρ = .ok xs) (h3 : f x xs = .ok d) : bM f o a ρ = .ok d:=by
 unfold bM
 rw [h1,Res.ok_bind,h2,Res.ok_bind,h3]
theorem joinM_ok {sep : Str} {ts : List Str} (h : JoinOk sep ts = true) : joinM (.str sep) [.lst (ts.map D.str)] = .ok (.str (Txt.join sep ts)):=by
 show (match textsD (ts.map D.str) with | some ts=>if JoinOk sep ts then Res.ok (D.str (Txt.join sep ts)) else .bad | none=>.bad) = _
 rw [texts_map]
 show (if JoinOk sep ts = true then _ else _) = _
 rw [if_pos h]
end Lk42
end
section
set_option maxRecDepth 100000
namespace Lk42
open PySem L2 Mi
noncomputable def abc : Str := "abcdefghijklmnopqrstuvwxyz"
theorem abc_codes : abc.cps.toList = (List.range 26).map (· + 97):=by decide +kernel
theorem abc_get (i : Int) (h0 : 0<=i) (h1 : i < 26) : ∃ c : Nat,97<=c/\c<=122/\getD (.str abc) (.int i) = .ok (.str (one c)):=by
 refine ⟨i.toNat + 97,by lia,by lia,?_⟩
 show (if decide (abc.length<=lim) then Res.ofOpt (((ixD abc.cps.toList.length i).bind fun j=>abc.cps.toList[j]?).map fun c=>D.str ⟨#[c]⟩) else .bad) = _
 rw [if_pos (decide_eq_true (by rw [lim_eq];exact Nat.le_trans (by decide : abc.length<=26) (by decide))),abc_codes]
 unfold ixD
 rw [if_pos h0,if_pos (by rw [List.length_map,List.length_range];exact h1)]
 simp only [Option.bind_some]
 rw [List.getElem?_map,List.getElem?_range (by lia)]
 rfl
theorem six_ok (i : Int) (h0 : 0<=i) (h1 : i < 6) : ∃ w : Str,Nm w/\getD (.lst [.str "kind",.str "maker",.str "taker",.str "rule",.str "copy",.str "drop"]) (.int i) = .ok (.str w):=by
 have nm : ∀ w : Str,(nameOk w) = true->Nm w:=fun w h=>by
  unfold nameOk at h
  simp only [Bool.and_eq_true,decide_eq_true_eq,List.all_eq_true] at h
  refine ⟨h.1.1,h.1.2,fun c hc=>?_⟩
  have:=h.2 c hc
  unfold codeOk at this
  simpa only [Bool.and_eq_true,decide_eq_true_eq] using this
 have : i = 0\/i = 1\/i = 2\/i = 3\/i = 4\/i = 5:=by lia
 rcases this with rfl | rfl | rfl | rfl | rfl | rfl
 ·exact ⟨"kind",nm _ (by decide +kernel),rfl⟩
 ·exact ⟨"maker",nm _ (by decide +kernel),rfl⟩
 ·exact ⟨"taker",nm _ (by decide +kernel),rfl⟩
 ·exact ⟨"rule",nm _ (by decide +kernel),rfl⟩
 ·exact ⟨"copy",nm _ (by decide +kernel),rfl⟩
 ·exact ⟨"drop",nm _ (by decide +kernel),rfl⟩
theorem eq_int (a b : Int) : cmpD .eq (.int a) (.int b) = .ok (.bl (a == b)):=rfl
theorem cfold_ex {α : Type} (g : List D->D->Res (List D)) (d : α->D) (P : α->Prop) : ∀ (xs : List D) (acc : List D),(∀ x ∈ xs,∀ acc,∃ y,P y/\g acc x = .ok (acc ++ [d y]))->∃ ys : List α,ys.length = xs.length/\(∀ y ∈ ys,P y)/\cfold g acc xs = .ok (acc ++ ys.map d)
 | [],acc,_=>⟨[],rfl,fun _ h=>(by cases h),(by simp [cfold])⟩
 | x :: xs,acc,h=>by
  obtain ⟨y,h1,h2⟩:=h x (List.mem_cons_self ..) acc
  obtain ⟨ys,i1,i2,i3⟩:=cfold_ex g d P xs (acc ++ [d y]) fun z hz=>h z (List.mem_cons_of_mem _ hz)
  refine ⟨y :: ys,by simp [i1],fun z hz=>?_,?_⟩
  ·rcases List.mem_cons.mp hz with rfl | hz
   ·exact h1
   ·exact i2 z hz
  ·rw [cfold,h2]
   show cfold g _ _ = _
   rw [i3]
   simp
theorem join_one : ∀ cs : List Nat,(Txt.join "" (cs.map one)).cps.toList = cs:=by
 intro cs
 have e : Txt.join "" (cs.map one) = Str.join "" (cs.map one):=StrLaws.glued_eq_join _ _
 rw [e]
 clear e
 induction cs with
 | nil=>rfl
 | cons c cs ih=>
  cases cs with
  | nil=>rfl
  | cons d cs=>
   show (((one c).cps ++ ("" : Str).cps) ++ (Str.join "" ((d :: cs).map one)).cps).toList = _
   rw [Array.toList_append,ih]
   rfl
theorem name_ex (n : Int) (h0 : 0<=n) : ∃ w : Str,Nm w/\argN 1 v__law_name [.int n] = .ok (.str w):=by
 have d9:=fdiv_ok n 9 (by decide) (by decide)
 by_cases h8 : n % 9 = 8
 ·obtain ⟨w,hw,hg⟩:=six_ok (n / 9 % 6) (Int.emod_nonneg _ (by decide)) (Int.emod_lt_of_pos _ (by decide))
  refine ⟨w,hw,(argN_ok rfl).trans (call_v ?_)⟩
  refine seq_ok (ρ':=[.int n,.str abc,.undef]) (set_ok (i:=1) rfl) (seq_rt ?_)
  exact if_t (tb_ok (b2_ok (x:=.int (n % 9)) (b2_ok rfl rfl (mod_ok n 9 (by decide))) rfl ((eq_int _ _).trans (by rw [h8];rfl)))) (ret_ok (d:=.str w) (b2_ok (y:=.int (n / 9 % 6)) rfl (b2_ok (b2_ok rfl rfl d9) rfl (mod_ok _ 6 (by decide))) hg) rfl)
 ·have s0 : 0<=n / 9 % 8:=Int.emod_nonneg _ (by decide)
  have s1 : n / 9 % 8 < 8:=Int.emod_lt_of_pos _ (by decide)
  have m8:=mod_ok (n / 9) 8 (by decide)
  generalize n / 9 % 8 = sz at s0 s1 m8
  have d72:=fdiv_ok n 72 (by decide) (by decide)
  generalize n / 72 = m at d72
  obtain ⟨cs,c1,c2,c3⟩:=cfold_ex (cstep 3 oneT bTrue (b2 getD (bVar 1) (b2 (binD .mod) (b2 (binD .add) (b2 (binD .fdiv) (bVar 0) (b2 (binD .add) (b2 mulX (bC (.int 26)) (bVar 3)) (bC (.int 1)))) (b2 (binD .mod) (bVar 0) (b2 (binD .add) (bVar 3) (bC (.int 2))))) (bC (.int 26)))) false [D.int m,.str abc,.int (1 + sz)]) (fun c=>D.str (one c)) (fun c=>97<=c/\c<=122) ((List.range (1 + sz).toNat).map fun (k : Nat)=>D.int (0 + (k : Int))) [] (fun x hx acc=>by
   obtain ⟨k,hk,rfl⟩:=List.mem_map.mp hx
   have hk:=List.mem_range.mp hk
   have hk8 : k<=8:=by lia
   have k1:=(mul_i 26 (0 + k)).trans (mul_okL 26 (0 + k) (by decide))
   have k2:=fdiv_ok m (26 * (0 + k) + 1) (by lia) (by lia)
   have k3:=mod_ok m (0 + k + 2) (by lia)
   have k4:=mod_ok (m / (26 * (0 + k) + 1) + m % (0 + k + 2)) 26 (by decide)
   obtain ⟨c,g1,g2,g3⟩:=abc_get ((m / (26 * (0 + k) + 1) + m % (0 + k + 2)) % 26) (Int.emod_nonneg _ (by decide)) (Int.emod_lt_of_pos _ (by decide))
   refine ⟨c,⟨g1,g2⟩,cstep_t (n:=3) (bs:=[.int (0 + k)]) rfl rfl ?_ rfl⟩
   exact b2_ok (x:=.str abc) rfl (b2_ok (b2_ok (b2_ok (x:=.int m) rfl (b2_ok (b2_ok (x:=.int 26) (y:=.int (0 + k)) rfl rfl k1) rfl (add_ok _ _)) k2) (b2_ok (x:=.int m) rfl (b2_ok (x:=.int (0 + k)) rfl rfl (add_ok _ _)) k3) (add_ok _ _)) rfl k4) g3)
  rw [List.length_map,List.length_range] at c1
  have hj : (Txt.join "" (cs.map one)).cps.toList = cs:=join_one cs
  have hlen : (Txt.join "" (cs.map one)).length = cs.length:=by
   show (Txt.join "" (cs.map one)).cps.size = _
   rw [<- Array.length_toList,hj]
  refine ⟨Txt.join "" (cs.map one),⟨by lia,by lia,by rw [hj];exact c2⟩,(argN_ok rfl).trans (call_v ?_)⟩
  refine seq_ok (ρ':=[.int n,.str abc,.undef]) (set_ok (i:=1) rfl) (seq_ok (ρ':=[.int n,.str abc,.undef]) (if_f (tb_ok (b2_ok (x:=.int (n % 9)) (b2_ok rfl rfl (mod_ok n 9 (by decide))) rfl ((eq_int _ _).trans (by rw [beq_eq_false_iff_ne.mpr h8])))) rfl) ?_)
  refine seq_ok (ρ':=[.int n,.str abc,.int (1 + sz)]) (set_ok (i:=2) (b2_ok (x:=.int 1) rfl (b2_ok (b2_ok rfl rfl d9) rfl m8) (add_ok _ _))) ?_
  refine seq_ok (ρ':=[.int m,.str abc,.int (1 + sz)]) (set_ok (i:=0) (b2_ok (x:=.int n) rfl rfl d72)) ?_
  refine ret_ok (d:=.str (Txt.join "" (cs.map one))) ?_ rfl
  have hc:=comp_ok (n:=3) (rng_ok (f:=bCons (bVar 2) bNil) (ρ:=[D.int m,.str abc,.int (1 + sz)]) (n:=1 + sz) rfl (by lia) (by lia)) (by rw [List.length_map,List.length_range,lim_eq];lia) c3
  have e : ([] : List D) ++ cs.map (fun c=>D.str (one c)) = (cs.map one).map D.str:=by rw [List.nil_append,List.map_map];rfl
  rw [e] at hc
  have hfit : JoinOk "" (cs.map one) = true:=by
   unfold JoinOk
   rw [Bool.not_eq_true']
   refine StrLaws.joinFits (B:=1) (fun y hy=>?_) ?_
   ·obtain ⟨c,_,rfl⟩:=List.mem_map.mp hy
    exact Nat.le_refl 1
   ·rw [List.length_map,show ("" : Str).length = 0 from rfl]
    lia
  exact bM_ok rfl (cons_ok hc rfl) (joinM_ok hfit)
theorem names_ex (n many : Int) (h0 : 0<=many) (h1 : many<=100) : ∃ ws : List Str,ws.length = many.toNat/\(∀ w ∈ ws,Nm w)/\argN 2 v__law_names [.int n,.int many] = .ok (.lst (ws.map D.str)):=by
 obtain ⟨ws,c1,c2,c3⟩:=cfold_ex (cstep 2 oneT bTrue (bCall (argN 1 v__law_name) (bCons (b2 (binD .mod) (b2 (binD .add) (b2 mulX (bVar 0) (b2 (binD .add) (b2 mulX (bC (.int 2)) (bVar 2)) (bC (.int 5)))) (b2 mulX (bVar 2) (bC (.int 1299709)))) (bC (.int 1000000007))) (bNil))) true [D.int n,.int many]) D.str Nm ((List.range many.toNat).map fun (k : Nat)=>D.int (0 + (k : Int))) [] (fun x hx acc=>by
  obtain ⟨k,hk,rfl⟩:=List.mem_map.mp hx
  have hk:=List.mem_range.mp hk
  have hk8 : k<=100:=by lia
  have k1:=(mul_i 2 (0 + k)).trans (mul_okL 2 (0 + k) (by decide))
  have k2:=(mul_i n (2 * (0 + k) + 5)).trans (mul_ok n (2 * (0 + k) + 5) (small_ok _ (by lia) (by lia)))
  have k3:=(mul_i (0 + k) 1299709).trans (mul_ok (0 + k) 1299709 (by decide))
  have k4:=mod_ok (n * (2 * (0 + k) + 5) + (0 + k) * 1299709) 1000000007 (by decide)
  obtain ⟨w,hw,hn⟩:=name_ex ((n * (2 * (0 + k) + 5) + (0 + k) * 1299709) % 1000000007) (Int.emod_nonneg _ (by decide))
  refine ⟨w,hw,cstep_t (n:=2) (bs:=[.int (0 + k)]) rfl rfl ?_ rfl⟩
  exact call_ok (cons_ok (b2_ok (b2_ok (b2_ok (x:=.int n) rfl (b2_ok (b2_ok (x:=.int 2) (y:=.int (0 + k)) rfl rfl k1) rfl (add_ok _ _)) k2) (b2_ok (x:=.int (0 + k)) rfl rfl k3) (add_ok _ _)) rfl k4) rfl) hn)
 rw [List.length_map,List.length_range] at c1
 refine ⟨ws,c1,c2,(argN_ok rfl).trans (call_v ?_)⟩
 refine ret_ok (d:=.lst (ws.map D.str)) ?_ rfl
 exact comp_ok (n:=2) (rng_ok (f:=bCons (bVar 1) bNil) (ρ:=[D.int n,.int many]) (n:=many) rfl h0 (by lia)) (by rw [List.length_map,List.length_range,lim_eq];lia) c3
end Lk42
end
section
set_option maxRecDepth 100000
namespace Lk42
open PySem L2 Mi
inductive Row where
 | kind (w : Str) | maker (a b : Str) (r : List Str) | taker (a b c : Str) (r : List Str) | rule (a b : Str) (r ws : List Str)
noncomputable def Row.words : Row->List Str
 | .kind w=>["kind",w]
 | .maker a b r => "maker" :: a :: b :: r
 | .taker a b c r => "taker" :: a :: b :: c :: r
 | .rule a b r ws => "rule" :: a :: b :: (r ++ ("=" : Str) :: ws)
noncomputable def Row.told : Row->D
 | .kind w=>.str w
 | .maker a b r=>.tup [.str a,.str b,.tup (r.map D.str)]
 | .taker a b c r=>.tup [.str a,.str b,.str c,.tup (r.map D.str)]
 | .rule a b r ws=>.tup [.str a,.str b,.tup (r.map D.str),.tup (ws.map D.str)]
noncomputable def Row.idx : Row->Nat
 | .kind _=>0
 | .maker _ _ _=>1
 | .taker _ _ _ _=>2
 | .rule _ _ _ _=>3
noncomputable def Row.ok : Row->Prop
 | .kind w=>Nm w
 | .maker a b r=>Nm a/\Nm b/\(∀ w ∈ r,Nm w)/\r.length<=3
 | .taker a b c r=>Nm a/\Nm b/\Nm c/\(∀ w ∈ r,Nm w)/\r.length<=2
 | .rule a b r ws=>Nm a/\Nm b/\(∀ w ∈ r,Nm w)/\r.length<=5/\(∀ w ∈ ws,Nm w)/\1<=ws.length/\ws.length<=40
theorem six_nat (n d a : Nat) : sIxD n d (some (a : Int)) = min a n:=by
 show (if (a : Int) < 0 then (max ((a : Int) + (n : Int)) 0).toNat else (min (a : Int) (n : Int)).toNat) = _
 rw [if_neg (by lia)]
 lia
theorem six_none (n d : Nat) : sIxD n d none = d:=rfl
theorem cut_to {α : Type} (xs : List α) (a : Nat) : cutD xs none (some (a : Int)) = xs.take a:=by
 unfold cutD
 rw [six_nat,six_none,List.drop_zero,Nat.sub_zero]
 by_cases h : a<=xs.length
 ·rw [Nat.min_eq_left h]
 ·rw [Nat.min_eq_right (by lia),List.take_of_length_le (Nat.le_refl _),List.take_of_length_le (by lia)]
theorem cut_from {α : Type} (xs : List α) (a : Nat) : cutD xs (some (a : Int)) none = xs.drop a:=by
 unfold cutD
 rw [six_nat,six_none]
 by_cases h : a<=xs.length
 ·rw [Nat.min_eq_left h,List.take_of_length_le (by rw [List.length_drop];exact Nat.le_refl _)]
 ·rw [Nat.min_eq_right (by lia),List.drop_eq_nil_of_le (Nat.le_refl _),List.drop_eq_nil_of_le (by lia),List.take_nil]
theorem cut_mid {α : Type} (xs : List α) (a b : Nat) (h1 : a<=b) (h2 : b<=xs.length) : cutD xs (some (a : Int)) (some (b : Int)) = (xs.drop a).take (b - a):=by
 unfold cutD
 rw [six_nat,six_nat,Nat.min_eq_left h2,Nat.min_eq_left (by lia)]
theorem slX_ok {a : FE} {lo hi : List D->Res (Option Int)} {ρ : List D} {x d : D} {l h : Option Int} (h1 : a ρ = .ok x) (h2 : lo ρ = .ok l) (h3 : hi ρ = .ok h) (h4 : slcX x l h = .ok d) : bSlX a lo hi ρ = .ok d:=by
 unfold bSlX
 rw [h1,Res.ok_bind,h2,Res.ok_bind,h3,Res.ok_bind,h4]
theorem slc_lst (ws : List Str) (lo hi : Option Int) : slcX (.lst (ws.map D.str)) lo hi = .ok (.lst ((cutD ws lo hi).map D.str)):=by
 show (if D.pures (ws.map D.str) = true then Res.ok (D.lst (cutD (ws.map D.str) lo hi)) else .bad) = _
 rw [if_pos (pures_strs ws)]
 unfold cutD
 rw [List.length_map,List.map_take,List.map_drop]
theorem slc_tup (ws : List Str) (lo hi : Option Int) (h : ¬ (sIxD ws.length 0 lo = 0/\sIxD ws.length ws.length hi = ws.length)) : slcX (.tup (ws.map D.str)) lo hi = .ok (.tup ((cutD ws lo hi).map D.str)):=by
 show (if !D.pures (ws.map D.str) || decide (sIxD (ws.map D.str).length 0 lo = 0/\sIxD (ws.map D.str).length (ws.map D.str).length hi = (ws.map D.str).length) then Res.bad else Res.ok (D.tup (cutD (ws.map D.str) lo hi))) = _
 rw [pures_strs,List.length_map,decide_eq_false h]
 unfold cutD
 rw [List.length_map,List.map_take,List.map_drop]
 rfl
theorem some_ok {a : FE} {ρ : List D} {i : Int} (h : a ρ = .ok (.int i)) : bSome a ρ = .ok (some i):=by
 unfold bSome
 rw [h]
 rfl
theorem lst_ok {a : FA} {ρ xs : List D} (h : a ρ = .ok xs) (hl : xs.length<=lim) : bLst a ρ = .ok (.lst xs):=by
 unfold bLst
 rw [h,Res.ok_bind,if_pos (decide_eq_true hl)]
 rfl
theorem add_strs (a b : List Str) (h : a.length + b.length<=1000) : binD .add (.lst (a.map D.str)) (.lst (b.map D.str)) = .ok (.lst ((a ++ b).map D.str)):=by
 rw [List.map_append]
 exact add_lst _ _ (by rw [List.length_map,List.length_map,lim_eq];lia) (pures_strs a) (pures_strs b)
theorem lst1 {ρ : List D} (k : Str) : bLst (bCons (bC (.str k)) (bNil)) ρ = .ok (.lst (([k] : List Str).map D.str)):=lst_ok (cons_ok rfl rfl) (by rw [lim_eq];show 1<=1000000;decide)
theorem eq_t (a : Int) : cmpD .eq (.int a) (.int a) = .ok (.bl true):=(eq_int a a).trans (by rw [beq_self_eq_true])
theorem eq_f {a b : Int} (h : a ≠ b) : cmpD .eq (.int a) (.int b) = .ok (.bl false):=(eq_int a b).trans (by rw [beq_eq_false_iff_ne.mpr h])
noncomputable def owords : Option Row->List Str
 | some R=>R.words
 | none=>[]
theorem item_ex (nn : Int) (hn : 0<=nn) : ∃ O : Option Row,(∀ R,O = some R->R.ok)/\argN 1 v__law_item [.int nn] = .ok (.lst ((owords O).map D.str)):=by
 have hf0 : 0<=nn % 6:=Int.emod_nonneg _ (by decide)
 have hf : nn % 6 < 6:=Int.emod_lt_of_pos _ (by decide)
 have hm : 0<=nn / 6:=Int.ediv_nonneg hn (by decide)
 have e6:=mod_ok nn 6 (by decide)
 have g6:=fdiv_ok nn 6 (by decide) (by decide)
 generalize nn % 6 = f at hf0 hf e6
 generalize nn / 6 = m at hm g6
 have some1 : ∀ {R : Row} {P : Prop},R.ok->P->(∀ Q,some R = some Q->Q.ok)/\P:=fun h p=>⟨fun Q e=>by cases e;exact h,p⟩
 have begin_ : ∀ {r : Res Fl} (g : FS),g [.int nn,.int f,.int m,.undef,.undef,.undef] = r->sSeq (sSet false 1 (b2 (binD .mod) (bVar 0) (bC (.int 6))) true) (sSeq (sSet false 2 (b2 (binD .fdiv) (bVar 0) (bC (.int 6))) true) g) [.int nn,.undef,.undef,.undef,.undef,.undef] = r:=fun g h=>
  seq_ok (ρ':=[.int nn,.int f,.undef,.undef,.undef,.undef]) (set_ok (i:=1) (b2_ok (x:=.int nn) rfl rfl e6)) (seq_ok (ρ':=[.int nn,.int f,.int m,.undef,.undef,.undef]) (set_ok (i:=2) (b2_ok (x:=.int nn) rfl rfl g6)) h)
 have no : ∀ (k : Int) (a : FS),f ≠ k->sIf (bTB (b2 (cmpD .eq) (bVar 1) (bC (.int k)))) a sNil [.int nn,.int f,.int m,.undef,.undef,.undef] = .ok (.nx [.int nn,.int f,.int m,.undef,.undef,.undef]):=fun k a h=>if_f (tb_ok (b2_ok (x:=.int f) rfl rfl (eq_f h))) rfl
 have yes : ∀ (k : Int) (a : FS) (r : Res Fl),f = k->a [.int nn,.int f,.int m,.undef,.undef,.undef] = r->sIf (bTB (b2 (cmpD .eq) (bVar 1) (bC (.int k)))) a sNil [.int nn,.int f,.int m,.undef,.undef,.undef] = r:=fun k a r h h2=>if_t (tb_ok (b2_ok (x:=.int f) rfl rfl (by rw [h];exact eq_t k))) h2
 by_cases f0 : f = 0
 ·obtain ⟨ws,l,hw,e⟩:=names_ex m 1 (by decide) (by decide)
  match ws,l with
  | [w],_=>
   refine ⟨some (.kind w),some1 (hw w (by simp)) ((argN_ok rfl).trans (call_v (begin_ _ (seq_rt (yes 0 _ _ f0 (ret_ok (d:=.lst (([("kind" : Str)] ++ [w]).map D.str)) ?_ rfl))))))⟩
   exact b2_ok (lst1 "kind") (call_ok (xs:=[.int m,.int 1]) (cons_ok rfl (cons_ok rfl rfl)) e) (add_strs _ _ (by show 1 + 1<=1000;decide))
 by_cases f1 : f = 1
 ·have r0 : 0<=m % 4:=Int.emod_nonneg _ (by decide)
  have r1 : m % 4 < 4:=Int.emod_lt_of_pos _ (by decide)
  have hmm:=mod_ok m 4 (by decide)
  generalize m % 4 = q at r0 r1 hmm
  obtain ⟨ws,l,hw,e⟩:=names_ex m (2 + q) (by lia) (by lia)
  match ws,l with
  | [],l=>simp at l;lia
  | [_],l=>simp at l;lia
  | a :: b :: r,l=>
   simp at l
   refine ⟨some (.maker a b r),some1 ⟨hw a (by simp),hw b (by simp),fun w h=>hw w (by simp [h]),by lia⟩ ((argN_ok rfl).trans (call_v (begin_ _ (seq_ok (no 0 _ f0) (seq_rt (yes 1 _ _ f1 (ret_ok (d:=.lst (([("maker" : Str)] ++ (a :: b :: r)).map D.str)) ?_ rfl)))))))⟩
   exact b2_ok (lst1 "maker") (call_ok (xs:=[.int m,.int (2 + q)]) (cons_ok rfl (cons_ok (b2_ok (x:=.int 2) rfl (b2_ok (x:=.int m) rfl rfl hmm) (add_ok _ _)) rfl)) e) (add_strs _ _ (by simp;lia))
 by_cases f2 : f = 2
 ·have r0 : 0<=m % 3:=Int.emod_nonneg _ (by decide)
  have r1 : m % 3 < 3:=Int.emod_lt_of_pos _ (by decide)
  have hmm:=mod_ok m 3 (by decide)
  generalize m % 3 = q at r0 r1 hmm
  obtain ⟨ws,l,hw,e⟩:=names_ex m (3 + q) (by lia) (by lia)
  match ws,l with
  | [],l=>simp at l;lia
  | [_],l=>simp at l;lia
  | [_,_],l=>simp at l;lia
  | a :: b :: c :: r,l=>
   simp at l
   refine ⟨some (.taker a b c r),some1 ⟨hw a (by simp),hw b (by simp),hw c (by simp),fun w h=>hw w (by simp [h]),by lia⟩ ((argN_ok rfl).trans (call_v (begin_ _ (seq_ok (no 0 _ f0) (seq_ok (no 1 _ f1) (seq_rt (yes 2 _ _ f2 (ret_ok (d:=.lst (([("taker" : Str)] ++ (a :: b :: c :: r)).map D.str)) ?_ rfl))))))))⟩
   exact b2_ok (lst1 "taker") (call_ok (xs:=[.int m,.int (3 + q)]) (cons_ok rfl (cons_ok (b2_ok (x:=.int 3) rfl (b2_ok (x:=.int m) rfl rfl hmm) (add_ok _ _)) rfl)) e) (add_strs _ _ (by simp;lia))
 by_cases f3 : f = 3
 ·exact ⟨none,fun R e=>(by cases e),(argN_ok rfl).trans (call_v (begin_ _ (seq_ok (no 0 _ f0) (seq_ok (no 1 _ f1) (seq_ok (no 2 _ f2) (seq_rt (yes 3 _ _ f3 (ret_ok (d:=.lst []) (lst_ok (xs:=[]) rfl (by rw [lim_eq];show 0<=1000000;decide)) rfl))))))))⟩
 have r0 : 0<=m % 6:=Int.emod_nonneg _ (by decide)
 have r1 : m % 6 < 6:=Int.emod_lt_of_pos _ (by decide)
 have hmm:=mod_ok m 6 (by decide)
 generalize m % 6 = q at r0 r1 hmm
 have main : ∀ p : Int,1<=p->p<=40->∃ R : Row,R.ok/\sSeq (sSet false 5 (bCall (argN 2 v__law_names) (bCons (bVar 2) (bCons (b2 (binD .add) (bVar 3) (bVar 4)) (bNil)))) true) (sRet (b2 (binD .add) (b2 (binD .add) (b2 (binD .add) (bLst (bCons (bC (.str "rule")) (bNil))) (bSlX (bVar 5) (bNone) (bSome (bVar 3)))) (bLst (bCons (bC (.str "=")) (bNil)))) (bSlX (bVar 5) (bSome (bVar 3)) (bNone))) true) [.int nn,.int f,.int m,.int (2 + q),.int p,.undef] = .ok (.rt (.lst (R.words.map D.str))):=by
  intro p p0 p1
  obtain ⟨ws,l,hw,e⟩:=names_ex m (2 + q + p) (by lia) (by lia)
  obtain ⟨n,rfl⟩ : ∃ n : Nat,q = n:=⟨q.toNat,by lia⟩
  have ec : (2 : Int) + n = ((2 + n : Nat) : Int):=by lia
  match ws,l with
  | [],l=>simp at l;lia
  | [_],l=>simp at l;lia
  | a :: b :: r,l=>
   simp at l
   refine ⟨.rule a b (r.take n) (r.drop n),⟨hw a (by simp),hw b (by simp),fun w h=>hw w (by simp [List.mem_of_mem_take h]),by rw [List.length_take];lia,fun w h=>hw w (by simp [List.mem_of_mem_drop h]),by rw [List.length_drop];lia,by rw [List.length_drop];lia⟩,?_⟩
   refine seq_ok (ρ':=[.int nn,.int f,.int m,.int (2 + n),.int p,.lst ((a :: b :: r).map D.str)]) (set_ok (i:=5) (call_ok (xs:=[.int m,.int (2 + n + p)]) (cons_ok rfl (cons_ok (b2_ok (x:=.int (2 + n)) rfl rfl (add_ok _ _)) rfl)) e)) ?_
   have c1 : bSlX (bVar 5) (bNone) (bSome (bVar 3)) [D.int nn,.int f,.int m,.int (2 + n),.int p,.lst ((a :: b :: r).map D.str)] = .ok (.lst ((a :: b :: r.take n).map D.str)):=by
    refine slX_ok (h:=some ((2 + n : Nat) : Int)) rfl rfl (some_ok (by rw [<- ec];rfl)) ((slc_lst _ _ _).trans ?_)
    rw [cut_to,Nat.add_comm]
    rfl
   have c2 : bSlX (bVar 5) (bSome (bVar 3)) (bNone) [D.int nn,.int f,.int m,.int (2 + n),.int p,.lst ((a :: b :: r).map D.str)] = .ok (.lst ((r.drop n).map D.str)):=by
    refine slX_ok (l:=some ((2 + n : Nat) : Int)) rfl (some_ok (by rw [<- ec];rfl)) rfl ((slc_lst _ _ _).trans ?_)
    rw [cut_from,Nat.add_comm]
    rfl
   have e2 : (Row.rule a b (r.take n) (r.drop n)).words = (([("rule" : Str)] ++ (a :: b :: r.take n)) ++ [("=" : Str)]) ++ r.drop n:=by simp [Row.words]
   rw [e2]
   have t1 : (r.take n).length<=100:=by rw [List.length_take];lia
   have t2 : (r.drop n).length<=100:=by rw [List.length_drop];lia
   exact ret_ok (b2_ok (b2_ok (b2_ok (lst1 "rule") c1 (add_strs _ _ (by simp only [List.length_cons,List.length_nil];lia))) (lst1 "=") (add_strs _ _ (by simp only [List.length_append,List.length_cons,List.length_nil];lia))) c2 (add_strs _ _ (by simp only [List.length_append,List.length_cons,List.length_nil];lia))) rfl
 have d6:=fdiv_ok m 6 (by decide) (by decide)
 have p0 : 0<=m / 6 % 5:=Int.emod_nonneg _ (by decide)
 have p1 : m / 6 % 5 < 5:=Int.emod_lt_of_pos _ (by decide)
 have m5:=mod_ok (m / 6) 5 (by decide)
 generalize m / 6 % 5 = u at p0 p1 m5
 have q0 : 0<=m / 150 % 40:=Int.emod_nonneg _ (by decide)
 have q1 : m / 150 % 40 < 40:=Int.emod_lt_of_pos _ (by decide)
 have d150:=fdiv_ok m 150 (by decide) (by decide)
 have m40:=mod_ok (m / 150) 40 (by decide)
 generalize m / 150 % 40 = v at q0 q1 m40
 have d30:=fdiv_ok m 30 (by decide) (by decide)
 have m30:=mod_ok (m / 30) 5 (by decide)
 have fin : ∀ p : Int,1<=p->p<=40->sIf (bTB (b2 (cmpD .eq) (b2 (binD .mod) (b2 (binD .fdiv) (bVar 2) (bC (.int 30))) (bC (.int 5))) (bC (.int 0)))) (sSet false 4 (b2 (binD .add) (bC (.int 1)) (b2 (binD .mod) (b2 (binD .fdiv) (bVar 2) (bC (.int 150))) (bC (.int 40)))) true) (sNil) [.int nn,.int f,.int m,.int (2 + q),.int (1 + u),.undef] = .ok (.nx [.int nn,.int f,.int m,.int (2 + q),.int p,.undef])->∃ O : Option Row,(∀ R,O = some R->R.ok)/\argN 1 v__law_item [.int nn] = .ok (.lst ((owords O).map D.str)):=fun p h1 h2 h=>by
  obtain ⟨R,g1,g3⟩:=main p h1 h2
  refine ⟨some R,some1 g1 ((argN_ok rfl).trans (call_v (begin_ _ (seq_ok (no 0 _ f0) (seq_ok (no 1 _ f1) (seq_ok (no 2 _ f2) (seq_ok (no 3 _ f3) ?_)))))))⟩
  refine seq_ok (ρ':=[.int nn,.int f,.int m,.int (2 + q),.undef,.undef]) (set_ok (i:=3) (b2_ok (x:=.int 2) rfl (b2_ok (x:=.int m) rfl rfl hmm) (add_ok _ _))) ?_
  refine seq_ok (ρ':=[.int nn,.int f,.int m,.int (2 + q),.int (1 + u),.undef]) (set_ok (i:=4) (b2_ok (x:=.int 1) rfl (b2_ok (b2_ok (x:=.int m) rfl rfl d6) rfl m5) (add_ok _ _))) ?_
  exact seq_ok h g3
 by_cases hz : m / 30 % 5 = 0
 ·exact fin (1 + v) (by lia) (by lia) (if_t (tb_ok (b2_ok (b2_ok (b2_ok (x:=.int m) rfl rfl d30) rfl m30) rfl (by rw [hz];rfl))) (set_ok (i:=4) (b2_ok (x:=.int 1) rfl (b2_ok (b2_ok (x:=.int m) rfl rfl d150) rfl m40) (add_ok _ _))))
 ·exact fin (1 + u) (by lia) (by lia) (if_f (tb_ok (b2_ok (b2_ok (b2_ok (x:=.int m) rfl rfl d30) rfl m30) rfl (eq_f hz))) rfl)
end Lk42
end
section
set_option maxRecDepth 100000
namespace Lk42
open PySem L2 Mi
theorem ix_nat {n : Nat} {m : Nat} (h : n < m) : ixD m (n : Int) = some n:=by
 unfold ixD
 rw [if_pos (by lia),if_pos (by lia)]
 simp
theorem get_at {ws : List Str} {n : Nat} {w : Str} (h : ws[n]? = some w) : getD (.lst (ws.map D.str)) (.int (n : Int)) = .ok (.str w):=by
 have hl : n < ws.length:=(List.getElem?_eq_some_iff.mp h).1
 show Res.ofOpt ((ixD (ws.map D.str).length n).bind fun j=>(ws.map D.str)[j]?) = _
 rw [ix_nat (by rw [List.length_map];exact hl),Option.bind_some,List.getElem?_map,h]
 rfl
theorem get_tat {ws : List Str} {n : Nat} {w : Str} (h : ws[n]? = some w) : getD (.tup (ws.map D.str)) (.int (n : Int)) = .ok (.str w):=by
 have hl : n < ws.length:=(List.getElem?_eq_some_iff.mp h).1
 show Res.ofOpt ((ixD (ws.map D.str).length n).bind fun j=>(ws.map D.str)[j]?) = _
 rw [ix_nat (by rw [List.length_map];exact hl),Option.bind_some,List.getElem?_map,h]
 rfl
theorem eq_str (a b : Str) : cmpD .eq (.str a) (.str b) = .ok (.bl (a == b)):=rfl
theorem notEq {w : Str} (h : Nm w) : (w == ("=" : Str)) = false:=by
 rw [beq_eq_false_iff_ne]
 intro e
 subst e
 have:=h.2.2 61 (by decide)
 lia
theorem eqoks_strs (n : Nat) : ∀ ws : List Str,D.eqoks n (ws.map D.str) = true
 | []=>by rw [List.map_nil,D.eqoks]
 | w :: ws=>by
  rw [List.map_cons,D.eqoks,eqoks_strs n ws]
  cases n <;> rfl
theorem idx_ok {e : Str} : ∀ {ps qs : List Str},(∀ p ∈ ps,(p == e) = false)->idxD (.str e) ((ps ++ e :: qs).map D.str) = some ps.length
 | [],qs,_=>by
  show (if eqD (.str e) (.str e) = true then some 0 else _) = _
  rw [show eqD (.str e) (.str e) = (e == e) from rfl,beq_self_eq_true,if_pos rfl]
  rfl
 | p :: ps,qs,h=>by
  show (if eqD (.str p) (.str e) = true then some 0 else (idxD (.str e) ((ps ++ e :: qs).map D.str)).map (· + 1)) = _
  rw [if_neg (by rw [show eqD (.str p) (.str e) = (p == e) from rfl,h p (List.mem_cons_self ..)];simp),idx_ok fun q hq=>h q (List.mem_cons_of_mem _ hq)]
  rfl
theorem indexL_ok {e : Str} {ps qs : List Str} (h : ∀ p ∈ ps,(p == e) = false) : indexL (.lst ((ps ++ e :: qs).map D.str)) [.str e] = .ok (.int ps.length):=by
 show (if (D.str e).eqok eqdepth && D.eqoks eqdepth ((ps ++ e :: qs).map D.str) then (match idxD (.str e) ((ps ++ e :: qs).map D.str) with | some j=>Res.ok (D.int j) | none=>.bad) else .bad) = _
 rw [eqoks_strs,idx_ok h]
 rfl
theorem indexT_ok {e : Str} {ps qs : List Str} (h : ∀ p ∈ ps,(p == e) = false) : indexT (.tup ((ps ++ e :: qs).map D.str)) [.str e] = .ok (.int ps.length):=by
 show (if (D.str e).eqok eqdepth && D.eqoks eqdepth ((ps ++ e :: qs).map D.str) then (match idxD (.str e) ((ps ++ e :: qs).map D.str) with | some j=>Res.ok (D.int j) | none=>.bad) else .bad) = _
 rw [eqoks_strs,idx_ok h]
 rfl
theorem tup_pure (ws : List Str) : (D.tup (ws.map D.str)).pure = true:=by rw [D.pure,pures_strs]
theorem told_pure (R : Row) : R.told.pure = true:=by
 cases R with
 | kind w=>rfl
 | maker a b r=>
  show (true && (true && ((D.tup (r.map D.str)).pure && true))) = true
  rw [tup_pure]
  rfl
 | taker a b c r=>
  show (true && (true && (true && ((D.tup (r.map D.str)).pure && true)))) = true
  rw [tup_pure]
  rfl
 | rule a b r ws=>
  show (true && (true && ((D.tup (r.map D.str)).pure && ((D.tup (ws.map D.str)).pure && true)))) = true
  rw [tup_pure,tup_pure]
  rfl
theorem retR {f : FE} {ρ : List D} {R : Row} (h : f ρ = .ok R.told) : sRet f false ρ = .ok (.rt R.told):=ret_ok h (told_pure R)
theorem at_ {ρ : List D} {i : Nat} {ws : List Str} (n : Nat) {w : Str} (h1 : bVar i ρ = .ok (.lst (ws.map D.str))) (h2 : ws[n]? = some w) : b2 getD (bVar i) (bC (.int (n : Int))) ρ = .ok (.str w):=b2_ok h1 rfl (get_at h2)
theorem tat_ {ρ : List D} {i : Nat} {ws : List Str} (n : Nat) {w : Str} (h1 : bVar i ρ = .ok (.tup (ws.map D.str))) (h2 : ws[n]? = some w) : b2 getD (bVar i) (bC (.int (n : Int))) ρ = .ok (.str w):=b2_ok h1 rfl (get_tat h2)
theorem is_ {ρ : List D} {ws : List Str} {w : Str} {b : Bool} (k : Str) (h1 : bVar 0 ρ = .ok (.lst ((w :: ws).map D.str))) (h2 : (w == k) = b) : bTB (b2 (cmpD .eq) (b2 getD (bVar 0) (bC (.int 0))) (bC (.str k))) ρ = .ok b:=tb_ok (b2_ok (at_ 0 h1 rfl) rfl ((eq_str w k).trans (by rw [h2])))
theorem from_ {ρ : List D} {i : Nat} {ws : List Str} (n : Nat) (h1 : bVar i ρ = .ok (.lst (ws.map D.str))) : bCall tupleD (bCons (bSlX (bVar i) (bSome (bC (.int (n : Int)))) (bNone)) (bNil)) ρ = .ok (.tup ((ws.drop n).map D.str)):=
 call_ok (cons_ok (slX_ok h1 (some_ok rfl) rfl ((slc_lst _ _ _).trans (by rw [cut_from]))) rfl) rfl
theorem drop_past {α : Type} (e : α) (qs : List α) : ∀ ps : List α,(ps ++ e :: qs).drop (ps.length + 1) = qs
 | []=>rfl
 | p :: ps=>drop_past e qs ps
theorem take_to {α : Type} (e : α) (qs : List α) : ∀ ps : List α,(ps ++ e :: qs).take ps.length = ps
 | []=>rfl
 | p :: ps=>by
  show p :: (ps ++ e :: qs).take ps.length = _
  rw [take_to e qs ps]
theorem rule_tup {ρ : List D} {a b : Str} {r ws : List Str} (h : (Row.rule a b r ws).ok) (v0 : bVar 5 ρ = .ok (.lst ((Row.rule a b r ws).words.map D.str))) : bM indexL (bVar 5) (bCons (bC (.str "=")) (bNil)) ρ = .ok (.int ((r.length + 3 : Nat) : Int))/\∀ ρ',bVar 5 ρ' = .ok (.lst ((Row.rule a b r ws).words.map D.str))->bVar 6 ρ' = .ok (.int ((r.length + 3 : Nat) : Int))->bTup (bCons (b2 getD (bVar 5) (bC (.int 1))) (bCons (b2 getD (bVar 5) (bC (.int 2))) (bCons (bCall tupleD (bCons (bSlX (bVar 5) (bSome (bC (.int 3))) (bSome (bVar 6))) (bNil))) (bCons (bCall tupleD (bCons (bSlX (bVar 5) (bSome (b2 (binD .add) (bVar 6) (bC (.int 1)))) (bNone)) (bNil))) (bNil))))) ρ' = .ok (Row.rule a b r ws).told:=by
 obtain ⟨ha,hb,hr,hrl,hw,hw1,hw2⟩:=h
 have W : (Row.rule a b r ws).words = (("rule" : Str) :: a :: b :: r) ++ ("=" : Str) :: ws:=rfl
 have hi:=indexL_ok (e := "=") (ps:=("rule" : Str) :: a :: b :: r) (qs:=ws) (fun p hp=>by
  rcases List.mem_cons.mp hp with rfl | hp
  ·decide +kernel
  ·rcases List.mem_cons.mp hp with rfl | hp
   ·exact notEq ha
   ·rcases List.mem_cons.mp hp with rfl | hp
    ·exact notEq hb
    ·exact notEq (hr p hp))
 have hl : (("rule" : Str) :: a :: b :: r : List Str).length = r.length + 3:=rfl
 rw [hl] at hi
 refine ⟨bM_ok v0 (cons_ok rfl rfl) hi,fun ρ' w0 w1=>?_⟩
 have wl : (Row.rule a b r ws).words.length = r.length + 3 + (ws.length + 1):=by rw [W,List.length_append,hl];rfl
 have s1 : bCall tupleD (bCons (bSlX (bVar 5) (bSome (bC (.int 3))) (bSome (bVar 6))) (bNil)) ρ' = .ok (.tup (r.map D.str)):=by
  refine call_ok (cons_ok (slX_ok w0 (some_ok (i:=((3 : Nat) : Int)) rfl) (some_ok w1) ((slc_lst _ _ _).trans (by rw [cut_mid _ _ _ (by lia) (by lia)]))) rfl) ?_
  rw [W,show r.length + 3 - 3 = r.length by lia]
  show Res.ok (D.tup (((r ++ ("=" : Str) :: ws).take r.length).map D.str)) = _
  rw [take_to]
 have s2 : bCall tupleD (bCons (bSlX (bVar 5) (bSome (b2 (binD .add) (bVar 6) (bC (.int 1)))) (bNone)) (bNil)) ρ' = .ok (.tup (ws.map D.str)):=by
  refine call_ok (cons_ok (slX_ok w0 (some_ok (i:=((r.length + 3 + 1 : Nat) : Int)) (b2_ok (x:=.int ((r.length + 3 : Nat) : Int)) w1 rfl rfl)) rfl ((slc_lst _ _ _).trans (by rw [cut_from]))) rfl) ?_
  rw [W]
  show Res.ok (D.tup ((((("rule" : Str) :: a :: b :: r) ++ ("=" : Str) :: ws).drop ((("rule" : Str) :: a :: b :: r : List Str).length + 1)).map D.str)) = _
  rw [drop_past]
 exact tup_ok (cons_ok (at_ 1 w0 rfl) (cons_ok (at_ 2 w0 rfl) (cons_ok s1 (cons_ok s2 rfl)))) (by rw [lim_eq];show 4<=1000000;decide)
theorem tfrom_ {ρ : List D} {i : Nat} {ws : List Str} (n : Nat) (h0 : 0 < n) (h : n<=ws.length) (h1 : bVar i ρ = .ok (.tup (ws.map D.str))) : bSlX (bVar i) (bSome (bC (.int (n : Int)))) (bNone) ρ = .ok (.tup ((ws.drop n).map D.str)):=
 slX_ok h1 (some_ok rfl) rfl ((slc_tup _ _ _ (by rw [six_nat,Nat.min_eq_left h];lia)).trans (by rw [cut_from]))
theorem len_tup {ρ : List D} {i : Nat} {ws : List Str} (h : bVar i ρ = .ok (.tup (ws.map D.str))) : bCall lenD (bCons (bVar i) (bNil)) ρ = .ok (.int ws.length):=call_ok (cons_ok h rfl) (by show Res.ok (D.int ((ws.map D.str).length : Int)) = _;rw [List.length_map])
theorem between {ρ : List D} {i : Nat} {ws : List Str} (lo hi : Nat) (h : bVar i ρ = .ok (.tup (ws.map D.str))) (h1 : lo<=ws.length) (h2 : ws.length<=hi) : bTB (bCh (cmpD (.ord .le)) (cmpD (.ord .le)) (bC (.int (lo : Int))) (bCall lenD (bCons (bVar i) (bNil))) (bC (.int (hi : Int)))) ρ = .ok true:=
 tb_ok (ch_t rfl (len_tup h) ((cmp_int .le lo ws.length).trans (by rw [show Ordr.le.int (lo : Int) (ws.length : Int) = true from decide_eq_true (by lia)])) rfl ((cmp_int .le ws.length hi).trans (by rw [show Ordr.le.int (ws.length : Int) (hi : Int) = true from decide_eq_true (by lia)])))
theorem tr_ok {f : FE} {ρ : List D} {b : Bool} (h : f ρ = .ok (.bl b)) : bTr f ρ = .ok b:=by
 unfold bTr
 rw [h]
 rfl
theorem not_ok {f : FT} {ρ : List D} {b : Bool} (h : f ρ = .ok b) : bNot f ρ = .ok (!b):=by
 unfold bNot
 rw [h]
 rfl
theorem rule_ok {a b : Str} {r ws : List Str} (h : (Row.rule a b r ws).ok) : argN 1 v_rule_row [.tup ((a :: b :: (r ++ ("=" : Str) :: ws)).map D.str)] = .ok (Row.rule a b r ws).told:=by
 obtain ⟨ha,hb,hr,hrl,hw,hw1,hw2⟩:=h
 refine (argN_ok rfl).trans (call_v ?_)
 have hne : ∀ p ∈ a :: b :: r,(p == ("=" : Str)) = false:=fun p hp=>by
  rcases List.mem_cons.mp hp with rfl | hp
  ·exact notEq ha
  ·rcases List.mem_cons.mp hp with rfl | hp
   ·exact notEq hb
   ·exact notEq (hr p hp)
 have hnm : ∀ p ∈ a :: b :: r,Nm p:=fun p hp=>by
  rcases List.mem_cons.mp hp with rfl | hp
  ·exact ha
  ·rcases List.mem_cons.mp hp with rfl | hp
   ·exact hb
   ·exact hr p hp
 have hi:=indexT_ok (e := "=") (ps:=a :: b :: r) (qs:=ws) hne
 have hany : ((((a :: b :: r) ++ ("=" : Str) :: ws).map D.str).any fun y=>eqD y (.str "=")) = true:=by
  rw [List.any_eq_true]
  exact ⟨.str "=",List.mem_map.mpr ⟨"=",by simp,rfl⟩,beq_self_eq_true _⟩
 generalize hW : a :: b :: r = hs at hi hne hnm hany
 have W : a :: b :: (r ++ ("=" : Str) :: ws) = hs ++ ("=" : Str) :: ws:=by rw [<- hW];rfl
 rw [W]
 have hl : hs.length = r.length + 2:=by rw [<- hW];rfl
 have tl : (hs ++ ("=" : Str) :: ws).length = hs.length + ws.length + 1:=by simp;lia
 generalize hT : (hs ++ ("=" : Str) :: ws) = tt at hi hany tl
 have v0 : ∀ x y z,bVar 0 [D.tup (tt.map D.str),x,y,z] = .ok (.tup (tt.map D.str)):=fun _ _ _=>rfl
 have hin : cmpD .notin (.str "=") (.tup (tt.map D.str)) = .ok (.bl false):=by
  show (if (D.str ("=" : Str)).eqok eqdepth && D.eqoks eqdepth (tt.map D.str) then Res.ok (D.bl (!((tt.map D.str).any fun y=>eqD y (.str "=")))) else .bad) = _
  rw [eqoks_strs,hany]
  rfl
 refine seq_ok (ρ':=[.tup (tt.map D.str),.undef,.undef,.undef]) (if_f (tb_ok (b2_ok rfl (v0 _ _ _) hin)) rfl) ?_
 refine seq_ok (ρ':=[.tup (tt.map D.str),.int (hs.length : Int),.undef,.undef]) (set_ok (i:=1) (bM_ok (v0 _ _ _) (cons_ok rfl rfl) hi)) ?_
 have c1 : bSlX (bVar 0) (bNone) (bSome (bVar 1)) [D.tup (tt.map D.str),.int (hs.length : Int),.undef,.undef] = .ok (.tup (hs.map D.str)):=
  slX_ok (v0 _ _ _) rfl (some_ok rfl) ((slc_tup _ _ _ (by rw [six_nat,Nat.min_eq_left (by lia)];lia)).trans (by rw [cut_to,<- hT,take_to]))
 refine seq_ok (ρ':=[.tup (tt.map D.str),.int (hs.length : Int),.tup (hs.map D.str),.undef]) (set_ok (i:=2) c1) ?_
 have c2 : bSlX (bVar 0) (bSome (b2 (binD .add) (bVar 1) (bC (.int 1)))) (bNone) [D.tup (tt.map D.str),.int (hs.length : Int),.tup (hs.map D.str),.undef] = .ok (.tup (ws.map D.str)):=
  slX_ok (v0 _ _ _) (some_ok (i:=((hs.length + 1 : Nat) : Int)) (b2_ok (x:=.int (hs.length : Int)) rfl rfl rfl)) rfl ((slc_tup _ _ _ (by rw [six_nat,Nat.min_eq_left (by lia)];lia)).trans (by rw [cut_from,<- hT,drop_past]))
 refine seq_ok (ρ':=[.tup (tt.map D.str),.int (hs.length : Int),.tup (hs.map D.str),.tup (ws.map D.str)]) (set_ok (i:=3) c2) ?_
 refine seq_ok (ρ':=[.tup (tt.map D.str),.int (hs.length : Int),.tup (hs.map D.str),.tup (ws.map D.str)]) (if_f (not_ok (b:=true) (and_t (between 2 7 (ws:=hs) rfl (by lia) (by lia)) (and_t (between 1 40 (ws:=ws) rfl hw1 hw2) (and_t (tr_ok (call_ok (cons_ok rfl rfl) (names_are hnm (by lia)))) (tr_ok (call_ok (cons_ok rfl rfl) (names_are hw (by lia)))))))) rfl) ?_
 refine retR (R:=.rule a b r ws) (tup_ok (cons_ok (tat_ 0 (ws:=hs) rfl (by rw [<- hW];rfl)) (cons_ok (tat_ 1 (ws:=hs) rfl (by rw [<- hW];rfl)) (cons_ok ((tfrom_ 2 (ws:=hs) (by decide) (by lia) rfl).trans (by rw [<- hW];rfl)) (cons_ok rfl rfl)))) (by rw [lim_eq];show 4<=1000000;decide))
theorem rowOf_ok {R : Row} (h : R.ok) : argN 1 v_row_of [.lst (R.words.map D.str)] = .ok R.told:=by
 refine (argN_ok rfl).trans (call_v ?_)
 have lm : ∀ n : Nat,n<=10->n<=lim:=fun n h=>by rw [lim_eq];lia
 have st : ∀ (k : Str) (ws : List Str),sSet false 1 (bCall tupleD (bCons (bSlX (bVar 0) (bSome (bC (.int 1))) (bNone)) (bNil))) false [.lst ((k :: ws).map D.str),.undef] = .ok (.nx [.lst ((k :: ws).map D.str),.tup (ws.map D.str)]):=fun k ws=>setP_ok (i:=1) (from_ 1 (ws:=k :: ws) rfl) (tup_pure _)
 have nm : ∀ (k : Str) (ws : List Str),(∀ w ∈ ws,Nm w)->ws.length<=100->bNot (bTr (bCall (argN 1 v_are_names) (bCons (bVar 1) (bNil)))) [.lst ((k :: ws).map D.str),.tup (ws.map D.str)] = .ok false:=fun k ws h1 h2=>not_ok (b:=true) (tr_ok (call_ok (cons_ok rfl rfl) (names_are h1 h2)))
 cases R with
 | kind w=>
  have hall : ∀ x ∈ [w],Nm x:=fun x hx=>by rw [List.mem_singleton.mp hx];exact h
  refine seq_ok (st "kind" [w]) (seq_ok (if_f (is_ (w := "kind") (ws:=[w]) "rule" rfl (by decide +kernel)) rfl) (seq_ok (if_f (nm "kind" [w] hall (by show 1<=100;decide)) rfl) (seq_rt (if_t (and_t (is_ (w := "kind") (ws:=[w]) "kind" rfl (by decide +kernel)) (tb_ok (b2_ok (len_tup (ws:=[w]) rfl) rfl rfl))) (retR (R:=.kind w) (tat_ 0 (ws:=[w]) rfl rfl))))))
 | maker a b r=>
  obtain ⟨ha,hb,hr,hl⟩:=h
  have hall : ∀ x ∈ a :: b :: r,Nm x:=fun x hx=>by
   rcases List.mem_cons.mp hx with rfl | hx
   ·exact ha
   ·rcases List.mem_cons.mp hx with rfl | hx
    ·exact hb
    ·exact hr x hx
  have ll : (a :: b :: r).length = r.length + 2:=rfl
  refine seq_ok (st "maker" (a :: b :: r)) (seq_ok (if_f (is_ (w := "maker") (ws:=a :: b :: r) "rule" rfl (by decide +kernel)) rfl) (seq_ok (if_f (nm "maker" (a :: b :: r) hall (by lia)) rfl) (seq_ok (if_f (and_f (is_ (w := "maker") (ws:=a :: b :: r) "kind" rfl (by decide +kernel))) rfl) (seq_rt (if_t (and_t (is_ (w := "maker") (ws:=a :: b :: r) "maker" rfl (by decide +kernel)) (between 2 5 (ws:=a :: b :: r) rfl (by lia) (by lia))) (retR (R:=.maker a b r) ?_))))))
  exact tup_ok (cons_ok (tat_ 0 (ws:=a :: b :: r) rfl rfl) (cons_ok (tat_ 1 (ws:=a :: b :: r) rfl rfl) (cons_ok (tfrom_ 2 (ws:=a :: b :: r) (by decide) (by lia) rfl) rfl))) (lm 3 (by decide))
 | taker a b c r=>
  obtain ⟨ha,hb,hc,hr,hl⟩:=h
  have hall : ∀ x ∈ a :: b :: c :: r,Nm x:=fun x hx=>by
   rcases List.mem_cons.mp hx with rfl | hx
   ·exact ha
   ·rcases List.mem_cons.mp hx with rfl | hx
    ·exact hb
    ·rcases List.mem_cons.mp hx with rfl | hx
     ·exact hc
     ·exact hr x hx
  have ll : (a :: b :: c :: r).length = r.length + 3:=rfl
  refine seq_ok (st "taker" (a :: b :: c :: r)) (seq_ok (if_f (is_ (w := "taker") (ws:=a :: b :: c :: r) "rule" rfl (by decide +kernel)) rfl) (seq_ok (if_f (nm "taker" (a :: b :: c :: r) hall (by lia)) rfl) (seq_ok (if_f (and_f (is_ (w := "taker") (ws:=a :: b :: c :: r) "kind" rfl (by decide +kernel))) rfl) (seq_ok (if_f (and_f (is_ (w := "taker") (ws:=a :: b :: c :: r) "maker" rfl (by decide +kernel))) rfl) (seq_rt (if_t (and_t (is_ (w := "taker") (ws:=a :: b :: c :: r) "taker" rfl (by decide +kernel)) (between 3 5 (ws:=a :: b :: c :: r) rfl (by lia) (by lia))) (retR (R:=.taker a b c r) ?_)))))))
  exact tup_ok (cons_ok (tat_ 0 (ws:=a :: b :: c :: r) rfl rfl) (cons_ok (tat_ 1 (ws:=a :: b :: c :: r) rfl rfl) (cons_ok (tat_ 2 (ws:=a :: b :: c :: r) rfl rfl) (cons_ok (tfrom_ 3 (ws:=a :: b :: c :: r) (by decide) (by lia) rfl) rfl)))) (lm 4 (by decide))
 | rule a b r ws=>exact seq_ok (st "rule" (a :: b :: (r ++ ("=" : Str) :: ws))) (seq_rt (if_t (is_ (w := "rule") (ws:=a :: b :: (r ++ ("=" : Str) :: ws)) "rule" rfl (by decide +kernel)) (ret_ok (call_ok (cons_ok rfl rfl) (rule_ok h)) rfl)))
end Lk42
end
section
set_option maxRecDepth 100000
namespace Lk42
open PySem L2 Mi
theorem sp_eq : (" " : Str) = ⟨#[32]⟩:=rfl
theorem nl_eq : ("\n" : Str) = ⟨#[10]⟩:=rfl
noncomputable def Row.text (R : Row) : Str:=Txt.join " " R.words
noncomputable def Wd (w : Str) : Prop:=1<=w.length/\w.length<=8/\∀ c ∈ w.cps.toList,61<=c
theorem nm_wd {w : Str} (h : Nm w) : Wd w:=⟨h.1,h.2.1,fun c hc=>by have:=h.2.2 c hc;lia⟩
theorem wd_c {w : Str} (h : (decide (1<=w.length) && decide (w.length<=8) && w.cps.toList.all fun c=>decide (61<=c)) = true) : Wd w:=by
 simp only [Bool.and_eq_true,decide_eq_true_eq,List.all_eq_true] at h
 exact ⟨h.1.1,h.1.2,h.2⟩
theorem row_words {R : Row} (h : R.ok) : (∀ w ∈ R.words,Wd w)/\R.words ≠ []/\R.words.length<=60:=by
 have k1 : Wd "kind":=wd_c (by decide +kernel)
 have k2 : Wd "maker":=wd_c (by decide +kernel)
 have k3 : Wd "taker":=wd_c (by decide +kernel)
 have k4 : Wd "rule":=wd_c (by decide +kernel)
 have k5 : Wd "=":=wd_c (by decide +kernel)
 cases R with
 | kind w=>
  refine ⟨fun x hx=>?_,by simp [Row.words],by simp [Row.words]⟩
  simp only [Row.words,List.mem_cons,List.not_mem_nil,or_false] at hx
  rcases hx with rfl | rfl
  ·exact k1
  ·exact nm_wd h
 | maker a b r=>
  obtain ⟨ha,hb,hr,hl⟩:=h
  refine ⟨fun x hx=>?_,by simp [Row.words],by simp [Row.words];lia⟩
  simp only [Row.words,List.mem_cons] at hx
  rcases hx with rfl | rfl | rfl | hx
  ·exact k2
  ·exact nm_wd ha
  ·exact nm_wd hb
  ·exact nm_wd (hr x hx)
 | taker a b c r=>
  obtain ⟨ha,hb,hc,hr,hl⟩:=h
  refine ⟨fun x hx=>?_,by simp [Row.words],by simp [Row.words];lia⟩
  simp only [Row.words,List.mem_cons] at hx
  rcases hx with rfl | rfl | rfl | rfl | hx
  ·exact k3
  ·exact nm_wd ha
  ·exact nm_wd hb
  ·exact nm_wd hc
  ·exact nm_wd (hr x hx)
 | rule a b r ws=>
  obtain ⟨ha,hb,hr,hl,hw,hw1,hw2⟩:=h
  refine ⟨fun x hx=>?_,by simp [Row.words],by simp [Row.words];lia⟩
  simp only [Row.words,List.mem_cons,List.mem_append] at hx
  rcases hx with rfl | rfl | rfl | hx | rfl | hx
  ·exact k4
  ·exact nm_wd ha
  ·exact nm_wd hb
  ·exact nm_wd (hr x hx)
  ·exact k5
  ·exact nm_wd (hw x hx)
theorem row_fits {R : Row} (h : R.ok) : JoinOk " " R.words = true:=by
 obtain ⟨h1,h2,h3⟩:=row_words h
 rw [sp_eq]
 exact join_fits (B:=8) (fun t ht=>(h1 t ht).2.1) (by lia)
theorem row_len {R : Row} (h : R.ok) : R.text.length<=600:=by
 obtain ⟨h1,h2,h3⟩:=row_words h
 have:=join_len 32 8 R.words fun t ht=>(h1 t ht).2.1
 unfold Row.text
 rw [sp_eq]
 lia
theorem row_split {R : Row} (h : R.ok) : Txt.split R.text " " = R.words:=by
 obtain ⟨h1,h2,h3⟩:=row_words h
 unfold Row.text
 rw [sp_eq]
 exact split_join h2 fun t ht z=>by have:=(h1 t ht).2.2 32 z;lia
theorem row_nl {R : Row} (h : R.ok) : 10 ∉ R.text.cps.toList:=fun z=>by
 obtain ⟨h1,h2,h3⟩:=row_words h
 unfold Row.text at z
 rw [sp_eq] at z
 rcases join_mem z with e | ⟨t,ht,e⟩
 ·cases e
 ·have:=(h1 t ht).2.2 10 e
  lia
theorem row_ne {R : Row} (h : R.ok) : (R.text == ("" : Str)) = false:=by
 rw [beq_eq_false_iff_ne]
 intro e
 have hs:=row_split h
 rw [e] at hs
 obtain ⟨h1,h2,h3⟩:=row_words h
 have : Txt.split ("" : Str) (" " : Str) = [("" : Str)]:=by decide +kernel
 rw [this] at hs
 have:=(h1 "" (by rw [<- hs];simp)).1
 exact absurd this (by decide)
noncomputable def keyS : Nat->Str
 | 0 => "kind"
 | 1 => "maker"
 | 2 => "taker"
 | _ => "rule"
theorem row_key (R : Row) : ∃ ws,R.words = keyS R.idx :: ws:=by
 cases R with
 | kind w=>exact ⟨_,rfl⟩
 | maker a b r=>exact ⟨_,rfl⟩
 | taker a b c r=>exact ⟨_,rfl⟩
 | rule a b r ws=>exact ⟨_,rfl⟩
theorem row_idx (R : Row) : R.idx < 4:=by cases R <;> simp [Row.idx]
noncomputable def dctA (A : Nat->List D) : D:=.dct [(.str "kind",.lst (A 0)),(.str "maker",.lst (A 1)),(.str "taker",.lst (A 2)),(.str "rule",.lst (A 3))]
noncomputable def putA (A : Nat->List D) (i : Nat) (d : D) : Nat->List D:=fun j=>if j = i then A j ++ [d] else A j
theorem eqs (a b : Str) : eqD (.str a) (.str b) = (a == b):=rfl
theorem k01 : (("kind" : Str) == "maker") = false:=by decide +kernel
theorem k02 : (("kind" : Str) == "taker") = false:=by decide +kernel
theorem k03 : (("kind" : Str) == "rule") = false:=by decide +kernel
theorem k12 : (("maker" : Str) == "taker") = false:=by decide +kernel
theorem k13 : (("maker" : Str) == "rule") = false:=by decide +kernel
theorem k23 : (("taker" : Str) == "rule") = false:=by decide +kernel
theorem look_ok (A : Nat->List D) (i : Nat) (h : i < 4) : ∃ kvs,dctA A = .dct kvs/\lookD kvs (.str (keyS i)) = some (.lst (A i))/\∀ d,D.dct (putD kvs (.str (keyS i)) (.lst (A i ++ [d]))) = dctA (putA A i d):=by
 refine ⟨_,rfl,?_,fun d=>?_⟩
 ·have : i = 0\/i = 1\/i = 2\/i = 3:=by lia
  rcases this with rfl | rfl | rfl | rfl
  ·simp only [lookD,keyS,eqs,beq_self_eq_true,if_true]
  ·simp only [lookD,keyS,eqs,beq_self_eq_true,k01,Bool.false_eq_true,if_true,if_false]
  ·simp only [lookD,keyS,eqs,beq_self_eq_true,k02,k12,Bool.false_eq_true,if_true,if_false]
  ·simp only [lookD,keyS,eqs,beq_self_eq_true,k03,k13,k23,Bool.false_eq_true,if_true,if_false]
 ·have : i = 0\/i = 1\/i = 2\/i = 3:=by lia
  rcases this with rfl | rfl | rfl | rfl
  ·simp only [putD,keyS,eqs,beq_self_eq_true,if_true];rfl
  ·simp only [putD,keyS,eqs,beq_self_eq_true,k01,Bool.false_eq_true,if_true,if_false];rfl
  ·simp only [putD,keyS,eqs,beq_self_eq_true,k02,k12,Bool.false_eq_true,if_true,if_false];rfl
  ·simp only [putD,keyS,eqs,beq_self_eq_true,k03,k13,k23,Bool.false_eq_true,if_true,if_false];rfl
theorem app_row (A : Nat->List D) (R : Row) (h : (A R.idx).length < 1000) : app2D (dctA A) (.str (keyS R.idx)) R.told = .ok (dctA (putA A R.idx R.told)):=by
 obtain ⟨kvs,e,h1,h2⟩:=look_ok A R.idx (row_idx R)
 rw [e]
 show (match lookD kvs (.str (keyS R.idx)) with | some (.lst ys)=>if decide (ys.length < lim) && R.told.pure then Res.ok (D.dct (putD kvs (.str (keyS R.idx)) (.lst (ys ++ [R.told])))) else .bad | _=>.bad) = _
 rw [h1]
 show (if (decide ((A R.idx).length < lim) && R.told.pure) = true then _ else _) = _
 rw [if_pos (by rw [told_pure,decide_eq_true (by rw [lim_eq];lia)];rfl),h2]
theorem app2_ok {i : Nat} {fk fe : FE} {ρ : List D} {d k e r : D} (h1 : bVar i ρ = .ok d) (h2 : fk ρ = .ok k) (h3 : fe ρ = .ok e) (h4 : app2D d k e = .ok r) : sApp2 i fk fe ρ = .ok (.nx (ρ.set i r)):=by
 unfold sApp2
 rw [h1,Res.ok_bind,h2,Res.ok_bind,h3,Res.ok_bind,h4,Res.ok_bind]
theorem split_ok {x : Str} {y : Str} {ts : List Str} (hx : x.length<=100000) (hs : Txt.split x y = ts) (ht : ts.length<=1000) (hy : (y.length == 0) = false) : splitM (.str x) [.str y] = .ok (.lst (ts.map D.str)):=by
 show (if decide (x.length<=lim) && decide ((Txt.split x y).length<=lim) && !(y.length == 0) then Res.ok (D.lst ((Txt.split x y).map D.str)) else .bad) = _
 rw [hs,hy,decide_eq_true (by rw [lim_eq];lia),decide_eq_true (by rw [lim_eq];lia)]
 rfl
theorem isN_told (R : Row) : cmpD .isN R.told .non = .ok (.bl false):=by cases R <;> rfl
noncomputable def rbody : FS:=sIf (bTB (b2 (cmpD .ne) (bVar 3) (bC (.str "")))) (sSeq (sSet false 4 (bM splitM (bVar 3) (bCons (bC (.str " ")) (bNil))) true) (sSeq (sSet false 5 (bCall (argN 1 v_row_of) (bCons (bVar 4) (bNil))) true) (sSeq (sIf (bTB (b2 (cmpD .isN) (bVar 5) (bC .non))) (sBad) (sNil)) (sApp2 1 (b2 getD (bVar 4) (bC (.int 0))) (bVar 5))))) (sNil)
theorem step_row {t cnt w r : D} {A : Nat->List D} {R : Row} (hR : R.ok) (hA : ∀ i,(A i).length < 1000) : rbody [t,dctA A,cnt,.str R.text,w,r] = .ok (.nx [t,dctA (putA A R.idx R.told),cnt,.str R.text,.lst (R.words.map D.str),R.told]):=by
 obtain ⟨ws,hk⟩:=row_key R
 refine if_t (tb_ok (b2_ok (x:=.str R.text) (y:=.str "") rfl rfl (show Res.ok (D.bl (!(R.text == ("" : Str)))) = _ from by rw [row_ne hR];rfl))) ?_
 refine seq_ok (ρ':=[t,dctA A,cnt,.str R.text,.lst (R.words.map D.str),r]) (set_ok (i:=4) (bM_ok rfl (cons_ok rfl rfl) (split_ok (Nat.le_trans (row_len hR) (by decide)) (row_split hR) (Nat.le_trans (row_words hR).2.2 (by decide)) rfl))) ?_
 refine seq_ok (ρ':=[t,dctA A,cnt,.str R.text,.lst (R.words.map D.str),R.told]) (set_ok (i:=5) (call_ok (cons_ok rfl rfl) (rowOf_ok hR))) ?_
 have v5 : bVar 5 [t,dctA A,cnt,.str R.text,.lst (R.words.map D.str),R.told] = .ok R.told:=by cases R <;> rfl
 refine seq_ok (ρ':=[t,dctA A,cnt,.str R.text,.lst (R.words.map D.str),R.told]) (if_f (tb_ok (b2_ok v5 rfl (isN_told R))) rfl) ?_
 exact app2_ok (i:=1) rfl (at_ 0 (ws:=R.words) rfl (by rw [hk];rfl)) v5 (app_row A R (hA _))
noncomputable def otext (O : Option Row) : Str:=Txt.join " " (owords O)
theorem otext_none : otext none = "":=by decide +kernel
theorem otext_some (R : Row) : otext (some R) = R.text:=rfl
noncomputable def rws (Os : List (Option Row)) : List Row:=Os.filterMap id
theorem rws_some (R : Row) (Os : List (Option Row)) : rws (some R :: Os) = R :: rws Os:=rfl
theorem rws_none (Os : List (Option Row)) : rws (none :: Os) = rws Os:=rfl
theorem rws_len (Os : List (Option Row)) : (rws Os).length<=Os.length:=List.length_filterMap_le ..
theorem rws_mem {Os : List (Option Row)} {R : Row} (h : R ∈ rws Os) : some R ∈ Os:=by
 unfold rws at h
 rw [List.mem_filterMap] at h
 obtain ⟨O,h1,h2⟩:=h
 rw [show O = some R from h2] at h1
 exact h1
theorem step_none {t cnt w r : D} {A : Nat->List D} : rbody [t,dctA A,cnt,.str "",w,r] = .ok (.nx [t,dctA A,cnt,.str "",w,r]):=if_f (tb_ok (b2_ok (x:=.str "") (y:=.str "") rfl rfl rfl)) rfl
theorem loop_rows {t : D} : ∀ (Os : List (Option Row)) (k : Nat) (A : Nat->List D) (cnt l w r : D),(∀ R,some R ∈ Os->R.ok)->(∀ i,(A i).length + Os.length < 1000)->∃ cnt' l' w' r',forS (tgN [2,3]) rbody ((Os.map fun O=>D.str (otext O)).zipIdx k |>.map fun p=>.tup [.int ((1 + p.2 : Nat) : Int),p.1]) [t,dctA A,cnt,l,w,r] = .ok (.nx [t,dctA (fun i=>A i ++ ((rws Os).filter (·.idx == i)).map Row.told),cnt',l',w',r'])
 | [],k,A,cnt,l,w,r,_,_=>⟨cnt,l,w,r,by simp [forS,rws]⟩
 | none :: Os,k,A,cnt,l,w,r,h,hl=>by
  obtain ⟨c',l',w',r',e⟩:=loop_rows (t:=t) Os (k + 1) A (.int ((1 + k : Nat) : Int)) (.str "") w r (fun x hx=>h x (List.mem_cons_of_mem _ hx)) (fun i=>by have:=hl i;rw [List.length_cons] at this;lia)
  refine ⟨c',l',w',r',?_⟩
  rw [List.map_cons,List.zipIdx_cons,List.map_cons,otext_none]
  exact fors_cons (ρ1:=[t,dctA A,.int ((1 + k : Nat) : Int),.str "",w,r]) rfl step_none e
 | some R :: Os,k,A,cnt,l,w,r,h,hl=>by
  have hR:=h R (List.mem_cons_self ..)
  have hA : ∀ i,(A i).length < 1000:=fun i=>by have:=hl i;lia
  obtain ⟨c',l',w',r',e⟩:=loop_rows (t:=t) Os (k + 1) (putA A R.idx R.told) (.int ((1 + k : Nat) : Int)) (.str R.text) (.lst (R.words.map D.str)) R.told (fun x hx=>h x (List.mem_cons_of_mem _ hx)) (fun i=>by
   have:=hl i
   rw [List.length_cons] at this
   unfold putA
   split
   ·rw [List.length_append,List.length_cons,List.length_nil];lia
   ·lia)
  refine ⟨c',l',w',r',?_⟩
  rw [List.map_cons,List.zipIdx_cons,List.map_cons,otext_some]
  refine fors_cons (ρ1:=[t,dctA A,.int ((1 + k : Nat) : Int),.str R.text,w,r]) rfl (step_row hR hA) (e.trans ?_)
  congr 4
  refine congrArg dctA (funext fun i=>?_)
  unfold putA
  rw [rws_some]
  by_cases hi : i = R.idx
  ·subst hi
   rw [if_pos rfl,List.filter_cons_of_pos (by simp),List.map_cons,List.append_assoc]
   rfl
  ·rw [if_neg hi,List.filter_cons_of_neg (by simp [Ne.symm hi])]
end Lk42
end
section
set_option maxRecDepth 100000
namespace Lk42
open PySem L2 Mi
noncomputable def sel (i : Nat) (Rs : List Row) : List Row:=Rs.filter (·.idx == i)
noncomputable def tolds (Rs : List Row) : D:=.tup (Rs.map Row.told)
noncomputable def progD (Rs : List Row) : D:=.tup [tolds (sel 0 Rs),tolds (sel 1 Rs),tolds (sel 2 Rs),tolds (sel 3 Rs)]
theorem pures_told : ∀ Rs : List Row,D.pures (Rs.map Row.told) = true
 | []=>rfl
 | R :: Rs=>by
  show (R.told.pure && D.pures (Rs.map Row.told)) = true
  rw [told_pure,pures_told Rs]
  rfl
theorem tolds_pure (Rs : List Row) : (tolds Rs).pure = true:=by
 unfold tolds
 rw [D.pure,pures_told]
theorem prog_pure (Rs : List Row) : (progD Rs).pure = true:=by
 show ((tolds (sel 0 Rs)).pure && ((tolds (sel 1 Rs)).pure && ((tolds (sel 2 Rs)).pure && ((tolds (sel 3 Rs)).pure && true)))) = true
 rw [tolds_pure,tolds_pure,tolds_pure,tolds_pure]
 rfl
theorem dct_get {ρ : List D} {A : Nat->List D} (i : Nat) (hi : i < 4) (h : bVar 1 ρ = .ok (dctA A)) : bCall tupleD (bCons (b2 getD (bVar 1) (bC (.str (keyS i)))) (bNil)) ρ = .ok (.tup (A i)):=by
 obtain ⟨kvs,e,h1,_⟩:=look_ok A i hi
 refine call_ok (cons_ok (b2_ok (y:=.str (keyS i)) (z:=.lst (A i)) h rfl ?_) rfl) rfl
 rw [e]
 show (if keyOk (.str (keyS i)) = true then Res.ofOpt (lookD kvs (.str (keyS i))) else .bad) = _
 rw [h1]
 rfl
theorem read_fin {t c l w r : D} (Rs : List Row) : sRet (bTup (bCons (bCall tupleD (bCons (b2 getD (bVar 1) (bC (.str "kind"))) (bNil))) (bCons (bCall tupleD (bCons (b2 getD (bVar 1) (bC (.str "maker"))) (bNil))) (bCons (bCall tupleD (bCons (b2 getD (bVar 1) (bC (.str "taker"))) (bNil))) (bCons (bCall tupleD (bCons (b2 getD (bVar 1) (bC (.str "rule"))) (bNil))) (bNil)))))) false [t,dctA (fun i=>[] ++ (Rs.filter (·.idx == i)).map Row.told),c,l,w,r] = .ok (.rt (progD Rs)):=by
 have g : ∀ i,i < 4->bCall tupleD (bCons (b2 getD (bVar 1) (bC (.str (keyS i)))) (bNil)) [t,dctA (fun i=>[] ++ (Rs.filter (·.idx == i)).map Row.told),c,l,w,r] = .ok (tolds (sel i Rs)):=fun i hi=>dct_get (A:=fun i=>[] ++ (Rs.filter (·.idx == i)).map Row.told) i hi rfl
 refine ret_ok (d:=progD Rs) (tup_ok (cons_ok (g 0 (by decide)) (cons_ok (g 1 (by decide)) (cons_ok (g 2 (by decide)) (cons_ok (g 3 (by decide)) rfl)))) ?_) (prog_pure Rs)
 rw [lim_eq]
 show 4<=1000000
 decide
theorem enumF_ok {m : Nat} {a : FE} {ρ xs : List D} (h : a ρ = .ok (.lst xs)) : bEnumF m a true ρ = .ok (enumF m xs,true):=by
 unfold bEnumF
 rw [h]
 rfl
theorem ot_len {Os : List (Option Row)} (h : ∀ R,some R ∈ Os->R.ok) {O : Option Row} (hO : O ∈ Os) : (otext O).length<=600:=by
 cases O with
 | none=>rw [otext_none];decide
 | some R=>exact row_len (h R hO)
theorem read_ok {Os : List (Option Row)} (h : ∀ R,some R ∈ Os->R.ok) (hl : Os.length<=100) : argN 1 v_read [.str (Txt.join "\n" (Os.map otext))] = .ok (progD (rws Os)):=by
 refine (argN_ok rfl).trans (call_v ?_)
 refine seq_ok (ρ':=[.str (Txt.join "\n" (Os.map otext)),dctA (fun _=>[]),.undef,.undef,.undef,.undef]) rfl ?_
 have tl : (Txt.join "\n" (Os.map otext)).length<=100000:=by
  have:=join_len 10 600 (Os.map otext) fun t ht=>by
   obtain ⟨R,hR,rfl⟩:=List.mem_map.mp ht
   exact ot_len h hR
  rw [List.length_map] at this
  rw [nl_eq]
  lia
 cases hR : Os with
 | nil=>
  subst hR
  have hs : Txt.split (Txt.join "\n" (([] : List (Option Row)).map otext)) "\n" = [("" : Str)]:=by decide +kernel
  refine seq_ok (ρ':=[.str (Txt.join "\n" (([] : List (Option Row)).map otext)),dctA (fun _=>[]),.int ((1 + 0 : Nat) : Int),.str "",.undef,.undef]) (for_ok (enumF_ok (bM_ok rfl (cons_ok rfl rfl) (split_ok tl hs (by decide) rfl))) ?_) (read_fin [])
  exact fors_cons (ρ1:=[.str (Txt.join "\n" (([] : List (Option Row)).map otext)),dctA (fun _=>[]),.int ((1 + 0 : Nat) : Int),.str "",.undef,.undef]) rfl step_none rfl
 | cons R0 R1=>
  rw [<- hR]
  have hs : Txt.split (Txt.join "\n" (Os.map otext)) "\n" = Os.map otext:=by
   rw [nl_eq]
   refine split_join (by rw [hR];simp) fun t ht=>?_
   obtain ⟨O,hO,rfl⟩:=List.mem_map.mp ht
   cases O with
   | none=>rw [otext_none];decide
   | some R=>exact row_nl (h R hO)
  obtain ⟨c',l',w',r',e⟩:=loop_rows (t:=.str (Txt.join "\n" (Os.map otext))) Os 0 (fun _=>[]) .undef .undef .undef .undef h (fun i=>by simp;lia)
  refine seq_ok (ρ':=[.str (Txt.join "\n" (Os.map otext)),dctA (fun i=>[] ++ ((rws Os).filter (·.idx == i)).map Row.told),c',l',w',r']) (for_ok (enumF_ok (bM_ok rfl (cons_ok rfl rfl) (split_ok tl hs (by rw [List.length_map];lia) rfl))) ?_) (read_fin (rws Os))
  rw [List.map_map]
  exact e
theorem sel_mem {i : Nat} {Rs : List Row} {R : Row} (h : R ∈ sel i Rs) : R ∈ Rs/\R.idx = i:=by
 unfold sel at h
 rw [List.mem_filter,beq_iff_eq] at h
 exact h
theorem sel_len (i : Nat) (Rs : List Row) : (sel i Rs).length<=Rs.length:=List.length_filter_le ..
theorem sel_cons (i : Nat) (R : Row) (Rs : List Row) : sel i (R :: Rs) = if R.idx = i then R :: sel i Rs else sel i Rs:=by
 unfold sel
 by_cases h : R.idx = i
 ·rw [if_pos h,List.filter_cons_of_pos (by simp [h])]
 ·rw [if_neg h,List.filter_cons_of_neg (by simp [h])]
noncomputable def oitem (O : Option Row) : D:=.lst ((owords O).map D.str)
noncomputable def isI (i : Nat) : Option Row->Bool
 | some R=>R.idx == i
 | none=>false
noncomputable def otold : Option Row->D
 | some R=>R.told
 | none=>.non
theorem sel_rws (i : Nat) : ∀ Os : List (Option Row),(Os.filter (isI i)).map otold = (sel i (rws Os)).map Row.told
 | []=>rfl
 | none :: Os=>by
  rw [List.filter_cons_of_neg (by simp [isI]),sel_rws i Os,rws_none]
 | some R :: Os=>by
  rw [rws_some,sel_cons]
  by_cases h : R.idx = i
  ·rw [if_pos h,List.filter_cons_of_pos (by simp [isI,h]),List.map_cons,List.map_cons,sel_rws i Os]
   rfl
  ·rw [if_neg h,List.filter_cons_of_neg (by simp [isI,h]),sel_rws i Os]
theorem key_eq (i : Nat) (hi : i < 4) (R : Row) : (keyS R.idx == keyS i) = (R.idx == i):=by
 have h2:=row_idx R
 generalize R.idx = j at h2
 have a : i = 0\/i = 1\/i = 2\/i = 3:=by lia
 have b : j = 0\/j = 1\/j = 2\/j = 3:=by lia
 rcases a with rfl | rfl | rfl | rfl <;> rcases b with rfl | rfl | rfl | rfl <;> decide +kernel
theorem lst_eqok (n : Nat) (ws : List Str) : (D.lst (ws.map D.str)).eqok (n + 1) = true:=by
 rw [D.eqok,eqoks_strs]
theorem eqDs_strs : ∀ a b : List Str,eqDs (a.map D.str) (b.map D.str) = (a == b)
 | [],[]=>rfl
 | [],_ :: _=>rfl
 | _ :: _,[]=>rfl
 | x :: a,y :: b=>by
  show (eqD (.str x) (.str y) && eqDs (a.map D.str) (b.map D.str)) = _
  rw [eqDs_strs a b]
  rfl
theorem eq_lsts (a b : List Str) : cmpD .eq (.lst (a.map D.str)) (.lst (b.map D.str)) = .ok (.bl (a == b)):=by
 show (if (D.lst (a.map D.str)).eqok eqdepth && (D.lst (b.map D.str)).eqok eqdepth then Res.ok (D.bl (eqDs (a.map D.str) (b.map D.str))) else .bad) = _
 rw [show eqdepth = 11 + 1 from rfl,lst_eqok,lst_eqok,eqDs_strs]
 rfl
theorem first_is {ρ : List D} {n : Nat} (i : Nat) (hi : i < 4) (O : Option Row) (h : bVar n ρ = .ok (oitem O)) : bTB (b2 (cmpD .eq) (bSlX (bVar n) (bNone) (bSome (bC (.int 1)))) (bLst (bCons (bC (.str (keyS i))) (bNil)))) ρ = .ok (isI i O):=by
 refine tb_ok (b2_ok (slX_ok (h:=some ((1 : Nat) : Int)) h rfl (some_ok rfl) ((slc_lst _ _ _).trans (by rw [cut_to]))) (lst1 (keyS i)) ((eq_lsts _ _).trans ?_))
 cases O with
 | none=>rfl
 | some R=>
  obtain ⟨ws,hk⟩:=row_key R
  show Res.ok (D.bl (R.words.take 1 == [keyS i])) = _
  rw [hk]
  show Res.ok (D.bl ([keyS R.idx] == [keyS i])) = Res.ok (D.bl (R.idx == i))
  rw [<- key_eq i hi R]
  congr 2
  show (keyS R.idx == keyS i && ([] : List Str) == []) = _
  rw [show (([] : List Str) == []) = true from rfl,Bool.and_true]
theorem var_item {ρ : List D} {n : Nat} {O : Option Row} (h : ρ.getD n .undef = oitem O) : bVar n ρ = .ok (oitem O):=by
 unfold bVar
 rw [h]
 rfl
theorem comp_items {Os : List (Option Row)} {a b : D->D} {f : FE} {ρ : List D} (i : Nat) (hi : i < 4) (hl : Os.length<=1000) (hρ : ρ.length = 7) (h0 : bVar 0 ρ = .ok (.lst (Os.map oitem)))
  (hf : ∀ R : Row,R.idx = i->f (ρ ++ [oitem (some R)]) = .ok R.told) : bComp 7 (bItemsX (bVar 0) false) oneT (bTB (b2 (cmpD .eq) (bSlX (bVar 7) (bNone) (bSome (bC (.int 1)))) (bLst (bCons (bC (.str (keyS i))) (bNil))))) f false ρ = .ok (.lst ((sel i (rws Os)).map Row.told)):=by
 have hi0 : bItemsX (bVar 0) false ρ = .ok (Os.map oitem,false):=by
  unfold bItemsX
  rw [h0]
  rfl
 refine comp_ok hi0 (by rw [List.length_map,lim_eq];lia) ?_
 rw [cfold_map _ oitem (isI i) otold,sel_rws]
 ·rfl
 ·intro acc O
  refine cstep_one hρ (first_is i hi O (var_item ?_)) fun hb=>?_
  ·rw [List.getD_eq_getElem?_getD,List.getElem?_append_right (by lia),hρ]
   rfl
  ·cases O with
   | none=>cases hb
   | some R=>
    have hb' : R.idx = i:=by simpa [isI] using hb
    exact ⟨hf R hb',by rw [show otold (some R) = R.told from rfl,told_pure];rfl⟩
noncomputable def pbody : FS:=sIf (bTB (b2 (cmpD .eq) (bSlX (bVar 5) (bNone) (bSome (bC (.int 1)))) (bLst (bCons (bC (.str "rule")) (bNil))))) (sSeq (sSet false 6 (bM indexL (bVar 5) (bCons (bC (.str "=")) (bNil))) true) (sApp 4 (bTup (bCons (b2 getD (bVar 5) (bC (.int 1))) (bCons (b2 getD (bVar 5) (bC (.int 2))) (bCons (bCall tupleD (bCons (bSlX (bVar 5) (bSome (bC (.int 3))) (bSome (bVar 6))) (bNil))) (bCons (bCall tupleD (bCons (bSlX (bVar 5) (bSome (b2 (binD .add) (bVar 6) (bC (.int 1)))) (bNone)) (bNil))) (bNil)))))))) (sNil)
theorem rule_loop {x0 x1 x2 x3 : D} : ∀ (Os : List (Option Row)) (acc : List D) (x5 x6 : D),(∀ R,some R ∈ Os->R.ok)->acc.length + Os.length < 1000->∃ y5 y6,forS (tg1 5) pbody (Os.map oitem) [x0,x1,x2,x3,.lst acc,x5,x6] = .ok (.nx [x0,x1,x2,x3,.lst (acc ++ (sel 3 (rws Os)).map Row.told),y5,y6])
 | [],acc,x5,x6,_,_=>⟨x5,x6,by simp [forS,rws,sel]⟩
 | O :: Os,acc,x5,x6,h,hl=>by
  rw [List.length_cons] at hl
  have hd : bTB (b2 (cmpD .eq) (bSlX (bVar 5) (bNone) (bSome (bC (.int 1)))) (bLst (bCons (bC (.str "rule")) (bNil)))) [x0,x1,x2,x3,.lst acc,oitem O,x6] = .ok (isI 3 O):=first_is 3 (by decide) O rfl
  cases hO : isI 3 O with
  | false=>
   rw [hO] at hd
   obtain ⟨y5,y6,e⟩:=rule_loop (x0:=x0) (x1:=x1) (x2:=x2) (x3:=x3) Os acc (oitem O) x6 (fun R hR=>h R (List.mem_cons_of_mem _ hR)) (by lia)
   refine ⟨y5,y6,?_⟩
   have es : sel 3 (rws (O :: Os)) = sel 3 (rws Os):=by
    cases O with
    | none=>rfl
    | some R=>
     rw [rws_some,sel_cons,if_neg (by simpa [isI] using hO)]
   rw [es,List.map_cons]
   exact fors_cons (ρ1:=[x0,x1,x2,x3,.lst acc,oitem O,x6]) rfl (if_f hd rfl) e
  | true=>
   rw [hO] at hd
   cases O with
   | none=>cases hO
   | some R=>
    have hR:=h R (List.mem_cons_self ..)
    have hi : R.idx = 3:=by simpa [isI] using hO
    cases R with
    | rule a b r ws=>
     obtain ⟨g1,g2⟩:=rule_tup (ρ:=[x0,x1,x2,x3,.lst acc,oitem (some (.rule a b r ws)),x6]) hR rfl
     obtain ⟨y5,y6,e⟩:=rule_loop (x0:=x0) (x1:=x1) (x2:=x2) (x3:=x3) Os (acc ++ [(Row.rule a b r ws).told]) (oitem (some (.rule a b r ws))) (.int ((r.length + 3 : Nat) : Int)) (fun R hR=>h R (List.mem_cons_of_mem _ hR)) (by rw [List.length_append,List.length_cons,List.length_nil];lia)
     refine ⟨y5,y6,?_⟩
     rw [rws_some,sel_cons,if_pos hi,List.map_cons,List.map_cons]
     rw [List.append_assoc] at e
     refine fors_cons (ρ1:=[x0,x1,x2,x3,.lst acc,oitem (some (.rule a b r ws)),x6]) rfl (if_t hd ?_) e
     refine seq_ok (ρ':=[x0,x1,x2,x3,.lst acc,oitem (some (.rule a b r ws)),.int ((r.length + 3 : Nat) : Int)]) (set_ok (i:=6) g1) ?_
     exact app_ok (i:=4) (g2 _ rfl rfl) rfl (by rw [lim_eq];lia) (told_pure (.rule a b r ws))
    | _=>cases hi
theorem program_ok {Os : List (Option Row)} (h : ∀ R,some R ∈ Os->R.ok) (hl : Os.length<=100) : argN 1 v__law_program [.lst (Os.map oitem)] = .ok (progD (rws Os)):=by
 refine (argN_ok rfl).trans (call_v ?_)
 have lm : ∀ n : Nat,n<=10->n<=lim:=fun n h=>by rw [lim_eq];lia
 refine seq_ok (ρ':=[.lst (Os.map oitem),.lst ((sel 0 (rws Os)).map Row.told),.undef,.undef,.undef,.undef,.undef]) (set_ok (i:=1) (comp_items (a:=id) (b:=id) 0 (by decide) (by lia) rfl rfl fun R hi=>?_)) ?_
 ·cases R with
  | kind w=>exact at_ 1 (ws:=["kind",w]) rfl rfl
  | _=>cases hi
 refine seq_ok (ρ':=[.lst (Os.map oitem),.lst ((sel 0 (rws Os)).map Row.told),.lst ((sel 1 (rws Os)).map Row.told),.undef,.undef,.undef,.undef]) (set_ok (i:=2) (comp_items (a:=id) (b:=id) 1 (by decide) (by lia) rfl rfl fun R hi=>?_)) ?_
 ·cases R with
  | maker a b r=>exact tup_ok (cons_ok (at_ 1 (ws := "maker" :: a :: b :: r) rfl rfl) (cons_ok (at_ 2 (ws := "maker" :: a :: b :: r) rfl rfl) (cons_ok (from_ 3 (ws := "maker" :: a :: b :: r) rfl) rfl))) (lm 3 (by decide))
  | _=>cases hi
 refine seq_ok (ρ':=[.lst (Os.map oitem),.lst ((sel 0 (rws Os)).map Row.told),.lst ((sel 1 (rws Os)).map Row.told),.lst ((sel 2 (rws Os)).map Row.told),.undef,.undef,.undef]) (set_ok (i:=3) (comp_items (a:=id) (b:=id) 2 (by decide) (by lia) rfl rfl fun R hi=>?_)) ?_
 ·cases R with
  | taker a b c r=>exact tup_ok (cons_ok (at_ 1 (ws := "taker" :: a :: b :: c :: r) rfl rfl) (cons_ok (at_ 2 (ws := "taker" :: a :: b :: c :: r) rfl rfl) (cons_ok (at_ 3 (ws := "taker" :: a :: b :: c :: r) rfl rfl) (cons_ok (from_ 4 (ws := "taker" :: a :: b :: c :: r) rfl) rfl)))) (lm 4 (by decide))
  | _=>cases hi
 refine seq_ok (ρ':=[.lst (Os.map oitem),.lst ((sel 0 (rws Os)).map Row.told),.lst ((sel 1 (rws Os)).map Row.told),.lst ((sel 2 (rws Os)).map Row.told),.lst [],.undef,.undef]) (setV_ok (i:=4) (lst_ok (xs:=[]) rfl (lm 0 (by decide))) rfl) ?_
 obtain ⟨y5,y6,e⟩:=rule_loop (x0:=.lst (Os.map oitem)) (x1:=.lst ((sel 0 (rws Os)).map Row.told)) (x2:=.lst ((sel 1 (rws Os)).map Row.told)) (x3:=.lst ((sel 2 (rws Os)).map Row.told)) Os [] .undef .undef h (by rw [List.length_nil];lia)
 refine seq_ok (forV_ok rfl rfl e) ?_
 exact ret_ok (d:=progD (rws Os)) (tup_ok (cons_ok (call_ok (cons_ok rfl rfl) rfl) (cons_ok (call_ok (cons_ok rfl rfl) rfl) (cons_ok (call_ok (cons_ok rfl rfl) rfl) (cons_ok (call_ok (cons_ok rfl rfl) rfl) rfl)))) (lm 4 (by decide))) (prog_pure (rws Os))
end Lk42
end
section
set_option maxRecDepth 100000
namespace Lk42
open PySem L2 Mi
inductive SD : Nat->D->Prop
 | str (n : Nat) (w : Str) : SD n (.str w)
 | tup (n : Nat) (xs : List D) : (∀ x ∈ xs,SD n x)->xs.length<=1000->D.pures xs = true->SD (n + 1) (.tup xs)
theorem b1_ok {f : D->Res D} {a : FE} {ρ : List D} {x d : D} (h1 : a ρ = .ok x) (h2 : f x = .ok d) : b1 f a ρ = .ok d:=by
 unfold b1
 rw [h1,Res.ok_bind,h2]
theorem or_f {a b : FT} {ρ : List D} {r : Res Bool} (h1 : a ρ = .ok false) (h2 : b ρ = r) : bOr a b ρ = r:=by
 unfold bOr
 rw [h1,Res.ok_bind,if_neg (by simp),h2]
theorem all_ok {α : Type} (xs : List α) : allD [.lst (xs.map fun _=>D.bl true)] = .ok (.bl true):=by
 show (match boolsD (xs.map fun _=>D.bl true) with | some bs=>Res.ok (D.bl (bs.all id)) | none=>.bad) = _
 rw [bools_map (fun _=>true)]
 show Res.ok (D.bl ((xs.map fun _=>true).all id)) = _
 rw [List.all_map]
 congr 2
 rw [List.all_eq_true]
 intro x _
 rfl
theorem ne_self (n : Int) : cmpD .ne (.int n) (.int n) = .ok (.bl false):=by
 show Res.ok (D.bl (!(n == n))) = _
 rw [beq_self_eq_true]
 rfl
theorem zip_self (xs : List D) : zipL xs xs = xs.map fun x=>D.tup [x,x]:=by
 unfold zipL
 induction xs with
 | nil=>rfl
 | cons x xs ih=>rw [List.zip_cons_cons,List.map_cons,ih];rfl
theorem same_ok : ∀ (n : Nat) (d : D),SD n d->argN 2 (v__law_same (n + 1)) [d,d] = .ok (.bl true):=by
 intro n
 induction n with
 | zero=>
  intro d h
  cases h with
  | str _ w=>exact (argN_ok rfl).trans (call_v (seq_rt (if_t (tr_ok (b1_ok (x:=.str w) rfl rfl)) (ret_ok (d:=.bl true) (andV_t (b1_ok (x:=.str w) rfl rfl) (b2_ok (x:=.str w) (y:=.str w) rfl rfl ((eq_str w w).trans (by rw [beq_self_eq_true])))) rfl))))
 | succ n ih=>
  intro d h
  cases h with
  | str _ w=>exact (argN_ok rfl).trans (call_v (seq_rt (if_t (tr_ok (b1_ok (x:=.str w) rfl rfl)) (ret_ok (d:=.bl true) (andV_t (b1_ok (x:=.str w) rfl rfl) (b2_ok (x:=.str w) (y:=.str w) rfl rfl ((eq_str w w).trans (by rw [beq_self_eq_true])))) rfl))))
  | tup _ xs hx hl hp=>
   refine (argN_ok rfl).trans (call_v ?_)
   refine seq_ok (ρ':=[.tup xs,.tup xs]) (if_f (tr_ok (b1_ok (x:=.tup xs) rfl rfl)) rfl) ?_
   have ln : ∀ i,i < 2->bCall lenD (bCons (bVar i) (bNil)) [.tup xs,.tup xs] = .ok (.int xs.length):=fun i hi=>by
    have : i = 0\/i = 1:=by lia
    rcases this with rfl | rfl <;> exact call_ok (cons_ok rfl rfl) rfl
   refine seq_ok (ρ':=[.tup xs,.tup xs]) (if_f (or_f (not_ok (b:=true) (tr_ok (b1_ok (x:=.tup xs) rfl rfl))) (tb_ok (b2_ok (ln 0 (by decide)) (ln 1 (by decide)) (ne_self _)))) rfl) ?_
   have hz : bThen (bCons (bVar 0) (bCons (bVar 1) (bNil))) zipI [.tup xs,.tup xs] = .ok (xs.map fun x=>D.tup [x,x],true):=by
    unfold bThen
    have hc : bCons (bVar 0) (bCons (bVar 1) (bNil)) [D.tup xs,.tup xs] = .ok [.tup xs,.tup xs]:=cons_ok rfl (cons_ok rfl rfl)
    rw [hc,Res.ok_bind]
    show (if decide (xs.length = xs.length) && D.pures xs && D.pures xs then Res.ok (zipL xs xs,true) else .bad) = _
    rw [hp,decide_eq_true rfl,zip_self]
    rfl
   refine ret_ok (d:=.bl true) (call_ok (cons_ok (comp_ok hz (by rw [List.length_map,lim_eq];lia) ?_) rfl) (all_ok xs)) rfl
   refine cfold_pt _ (fun x=>D.tup [x,x]) (fun _=>D.bl true) xs [] fun x hxm acc=>?_
   have hs:=hx x hxm
   refine cstep_t (n:=2) (bs:=[x,x]) rfl rfl (call_ok (xs:=[x,x]) ?_ (ih x hs)) rfl
   cases hs with
   | str _ w=>exact cons_ok rfl (cons_ok rfl rfl)
   | tup _ ys _ _ _=>exact cons_ok rfl (cons_ok rfl rfl)
theorem sd_strs (n : Nat) (ws : List Str) (h : ws.length<=1000) : SD (n + 1) (.tup (ws.map D.str)):=.tup n _ (fun x hx=>by
 obtain ⟨w,_,rfl⟩:=List.mem_map.mp hx
 exact .str n w) (by rw [List.length_map];exact h) (pures_strs ws)
theorem sd_told {R : Row} (h : R.ok) : SD 3 R.told:=by
 have tp:=told_pure R
 cases R with
 | kind w=>exact .str 3 w
 | maker a b r=>
  refine .tup 2 _ (fun x hx=>?_) (by show 3<=1000;decide) tp
  simp only [List.mem_cons,List.not_mem_nil,or_false] at hx
  rcases hx with rfl | rfl | rfl
  ·exact .str 2 _
  ·exact .str 2 _
  ·exact sd_strs 1 _ (by have:=h.2.2.2;lia)
 | taker a b c r=>
  refine .tup 2 _ (fun x hx=>?_) (by show 4<=1000;decide) tp
  simp only [List.mem_cons,List.not_mem_nil,or_false] at hx
  rcases hx with rfl | rfl | rfl | rfl
  ·exact .str 2 _
  ·exact .str 2 _
  ·exact .str 2 _
  ·exact sd_strs 1 _ (by have:=h.2.2.2.2;lia)
 | rule a b r ws=>
  obtain ⟨_,_,_,hr,_,_,hw⟩:=h
  refine .tup 2 _ (fun x hx=>?_) (by show 4<=1000;decide) tp
  simp only [List.mem_cons,List.not_mem_nil,or_false] at hx
  rcases hx with rfl | rfl | rfl | rfl
  ·exact .str 2 _
  ·exact .str 2 _
  ·exact sd_strs 1 _ (by lia)
  ·exact sd_strs 1 _ (by lia)
theorem sd_prog {Rs : List Row} (h : ∀ R ∈ Rs,R.ok) (hl : Rs.length<=1000) : SD 5 (progD Rs):=by
 have one_ : ∀ i,SD 4 (tolds (sel i Rs)):=fun i=>.tup 3 _ (fun x hx=>by
  obtain ⟨R,hR,rfl⟩:=List.mem_map.mp hx
  exact sd_told (h R (sel_mem hR).1)) (by rw [List.length_map];exact Nat.le_trans (sel_len i Rs) hl) (pures_told _)
 refine .tup 4 _ (fun x hx=>?_) (by show 4<=1000;decide) (prog_pure Rs)
 simp only [List.mem_cons,List.not_mem_nil,or_false] at hx
 rcases hx with rfl | rfl | rfl | rfl <;> exact one_ _
theorem own_ok {i : Nat} {f : FE} {ρ ds : List D} (h : f ρ = .ok (.lst ds)) (hp : D.pures ds = true) : sOwn i f ρ = .ok (.nx (ρ.set i (.lst ds))):=by
 unfold sOwn
 rw [h,Res.ok_bind]
 show (if D.pures ds = true then _ else _) = _
 rw [if_pos hp]
theorem mv_ok {i j : Nat} {ρ xs ys : List D} (h1 : ρ.getD i .undef = .lst xs) (h2 : ρ.getD j .undef = .lst ys) (hl : xs.length < 1000) (hx : xs.all isLst = true) (hp : D.pures ys = true) : sMv i j ρ = .ok (.nx ((ρ.set i (.lst (xs ++ [.lst ys]))).set j .undef)):=by
 unfold sMv
 rw [h1,h2]
 show (if (decide (xs.length < lim) && xs.all isLst && D.pures ys) = true then _ else _) = _
 rw [if_pos (by rw [hx,hp,decide_eq_true (by rw [lim_eq];lia)];rfl)]
theorem items_lst : ∀ Os : List (Option Row),(Os.map oitem).all isLst = true
 | []=>rfl
 | O :: Os=>by
  rw [List.map_cons,List.all_cons,items_lst Os]
  rfl
theorem ofits {O : Option Row} (h : ∀ R,O = some R->R.ok) : JoinOk " " (owords O) = true:=by
 cases O with
 | none=>decide +kernel
 | some R=>exact row_fits (h R rfl)
theorem olen {O : Option Row} (h : ∀ R,O = some R->R.ok) : (otext O).length<=600:=by
 cases O with
 | none=>rw [otext_none];decide
 | some R=>exact row_len (h R rfl)
noncomputable def lbody : FS:=sSeq (sOwn 5 (bCall (argN 1 v__law_item) (bCons (bCall (argN 2 v__law_mixed) (bCons (bVar 4) (bCons (bVar 3) (bNil)))) (bNil)))) (sSeq (sSet false 6 (b2 (binD .add) (bCall lenD (bCons (bM joinM (bC (.str " ")) (bCons (bVar 5) (bNil))) (bNil))) (bC (.int 1))) true) (sIf (bTB (b2 (cmpD (.ord .le)) (bVar 6) (bVar 2))) (sSeq (sMv 1 5) (sSet false 2 (b2 (binD .sub) (bVar 2) (bVar 6)) true)) (sNil)))
theorem law_step {t x5 x6 : D} (Os : List (Option Row)) (room c : Int) (k : Nat) (h : ∀ R,some R ∈ Os->R.ok) (hl : Os.length < 100) (hk : k<=1000) : ∃ (Os' : List (Option Row)) (room' : Int) (y5 y6 : D),(∀ R,some R ∈ Os'->R.ok)/\Os'.length<=Os.length + 1/\lbody [t,.lst (Os.map oitem),.int room,.int (k : Int),.int c,x5,x6] = .ok (.nx [t,.lst (Os'.map oitem),.int room',.int (k : Int),.int c,y5,y6]):=by
 obtain ⟨n,n0,n1,hn⟩:=mixed_eq c k (by lia) (by lia)
 obtain ⟨O,hO,hit⟩:=item_ex n n0
 have hj : joinM (.str " ") [.lst ((owords O).map D.str)] = .ok (.str (otext O)):=joinM_ok (ofits hO)
 have hlen:=olen hO
 have run : ∀ fl,sIf (bTB (b2 (cmpD (.ord .le)) (bVar 6) (bVar 2))) (sSeq (sMv 1 5) (sSet false 2 (b2 (binD .sub) (bVar 2) (bVar 6)) true)) (sNil) [t,.lst (Os.map oitem),.int room,.int (k : Int),.int c,oitem O,.int (((otext O).length : Int) + 1)] = fl->lbody [t,.lst (Os.map oitem),.int room,.int (k : Int),.int c,x5,x6] = fl:=fun fl hfl=>by
  refine seq_ok (ρ':=[t,.lst (Os.map oitem),.int room,.int (k : Int),.int c,oitem O,x6]) (own_ok (i:=5) (call_ok (xs:=[.int n]) (cons_ok (call_ok (xs:=[.int c,.int (k : Int)]) (cons_ok rfl (cons_ok rfl rfl)) hn) rfl) hit) (pures_strs _)) ?_
  exact seq_ok (set_ok (i:=6) (b2_ok (call_ok (cons_ok (bM_ok rfl (cons_ok rfl rfl) hj) rfl) (len_str (otext O) (by rw [lim_eq];lia))) rfl (add_ok _ _))) hfl
 by_cases hc : ((otext O).length : Int) + 1<=room
 ·refine ⟨Os ++ [O],room - (((otext O).length : Int) + 1),.undef,.int (((otext O).length : Int) + 1),fun R hR=>?_,by simp,run _ ?_⟩
  ·rcases List.mem_append.mp hR with hR | hR
   ·exact h R hR
   ·exact hO R (List.mem_singleton.mp hR).symm
  ·refine if_t (tb_ok (b2_ok (x:=.int (((otext O).length : Int) + 1)) (y:=.int room) rfl rfl ((cmp_int .le _ _).trans (by rw [show Ordr.le.int (((otext O).length : Int) + 1) room = true from decide_eq_true hc])))) ?_
   refine seq_ok (mv_ok (i:=1) (j:=5) (xs:=Os.map oitem) (ys:=(owords O).map D.str) rfl rfl (by rw [List.length_map];lia) (items_lst Os) (pures_strs _)) ?_
   rw [List.map_append]
   exact set_ok (i:=2) (b2_ok (x:=.int room) (y:=.int (((otext O).length : Int) + 1)) rfl rfl (sub_ok _ _))
 ·exact ⟨Os,room,oitem O,.int (((otext O).length : Int) + 1),h,Nat.le_succ _,run _ (if_f (tb_ok (b2_ok (x:=.int (((otext O).length : Int) + 1)) (y:=.int room) rfl rfl ((cmp_int .le _ _).trans (by rw [show Ordr.le.int (((otext O).length : Int) + 1) room = false from decide_eq_false hc])))) rfl)⟩
theorem law_loop {t : D} : ∀ (cs : List Int) (k : Nat) (Os : List (Option Row)) (room : Int) (x3 x4 x5 x6 : D),(∀ R,some R ∈ Os->R.ok)->Os.length + cs.length < 100->k + cs.length<=1000->∃ (Os' : List (Option Row)) (room' : Int) (y3 y4 y5 y6 : D),(∀ R,some R ∈ Os'->R.ok)/\Os'.length<=100/\forS (tgN [3,4]) lbody ((cs.map D.int).zipIdx k |>.map fun p=>.tup [.int (p.2 : Int),p.1]) [t,.lst (Os.map oitem),.int room,x3,x4,x5,x6] = .ok (.nx [t,.lst (Os'.map oitem),.int room',y3,y4,y5,y6])
 | [],k,Os,room,x3,x4,x5,x6,h,hl,_=>⟨Os,room,x3,x4,x5,x6,h,by simp at hl;lia,by simp [forS]⟩
 | c :: cs,k,Os,room,x3,x4,x5,x6,h,hl,hk=>by
  rw [List.length_cons] at hl hk
  obtain ⟨R1,r1,y5,y6,g1,g2,g3⟩:=law_step (t:=t) (x5:=x5) (x6:=x6) Os room c k h (by lia) (by lia)
  obtain ⟨R2,r2,z3,z4,z5,z6,i1,i2,i3⟩:=law_loop (t:=t) cs (k + 1) R1 r1 (.int (k : Int)) (.int c) y5 y6 g1 (by lia) (by lia)
  refine ⟨R2,r2,z3,z4,z5,z6,i1,i2,?_⟩
  rw [List.map_cons,List.zipIdx_cons,List.map_cons]
  exact fors_cons (ρ1:=[t,.lst (Os.map oitem),.int room,.int (k : Int),.int c,x5,x6]) rfl g3 i3
theorem enum_ok {a : FE} {ρ xs : List D} (h : a ρ = .ok (.lst xs)) : bEnum a true ρ = .ok (enumL xs,true):=by
 unfold bEnum
 rw [h]
 rfl
theorem cut120 (ns : List Int) : slcX (.scr (ns.map D.int)) none (some 120) = .ok (.lst ((ns.take 120).map D.int)):=by
 show (if D.pures (ns.map D.int) = true then Res.ok (D.lst (cutD (ns.map D.int) none (some ((120 : Nat) : Int)))) else .bad) = _
 rw [if_pos (pures_ints ns),cut_map,cut_to]
theorem items_ok2 (ns : List Int) (hn : ns.length<=63) : ∃ Os : List (Option Row),(∀ R,some R ∈ Os->R.ok)/\Os.length<=100/\argN 1 v__law_items [.scr (ns.map D.int)] = .ok (.lst (Os.map oitem)):=by
 obtain ⟨Os,room,y3,y4,y5,y6,h1,h2,h3⟩:=law_loop (t:=.scr (ns.map D.int)) (ns.take 120) 0 [] 4000 .undef .undef .undef .undef (fun R hR=>by cases hR) (by rw [List.length_take];simp;lia) (by rw [List.length_take];lia)
 refine ⟨Os,h1,h2,(argN_ok rfl).trans (call_v ?_)⟩
 refine seq_ok (ρ':=[.scr (ns.map D.int),.lst (([] : List (Option Row)).map oitem),.undef,.undef,.undef,.undef,.undef]) rfl ?_
 refine seq_ok (ρ':=[.scr (ns.map D.int),.lst (([] : List (Option Row)).map oitem),.int 4000,.undef,.undef,.undef,.undef]) (set_ok (i:=2) rfl) ?_
 exact seq_ok (for_ok (enum_ok (slX_ok rfl rfl (some_ok rfl) (cut120 ns))) h3) rfl
theorem main (ns : List Int) (hn : ns.length<=63) : v_law [.scr (ns.map D.int)] = .ok (.bl true):=by
 refine call_v ?_
 obtain ⟨Os,h1,h2,h3⟩:=items_ok2 ns hn
 refine seq_ok (ρ':=[.scr (ns.map D.int),.lst (Os.map oitem),.undef]) (set_ok (i:=1) (call_ok (cons_ok rfl rfl) h3)) ?_
 have hi : bItemsX (bVar 1) false [.scr (ns.map D.int),.lst (Os.map oitem),.undef] = .ok (Os.map oitem,false || (D.lst (Os.map oitem)).pure):=rfl
 have hc : bComp 3 (bItemsX (bVar 1) false) oneT (bTrue) (bM joinM (bC (.str " ")) (bCons (bVar 3) (bNil))) true [.scr (ns.map D.int),.lst (Os.map oitem),.undef] = .ok (.lst ((Os.map otext).map D.str)):=by
  rw [List.map_map]
  refine comp_ok hi (by rw [List.length_map,lim_eq];lia) ?_
  exact cfold_pt _ oitem (D.str ∘ otext) Os [] fun O hO acc=>cstep_t (n:=3) (bs:=[oitem O]) rfl rfl (bM_ok rfl (cons_ok rfl rfl) (joinM_ok (ofits fun R e=>h1 R (by rw [<- e];exact hO)))) rfl
 have hfit : JoinOk "\n" (Os.map otext) = true:=by
  rw [nl_eq]
  exact join_fits (B:=600) (fun t ht=>by
   obtain ⟨R,hR,rfl⟩:=List.mem_map.mp ht
   exact ot_len h1 hR) (by rw [List.length_map];lia)
 refine seq_ok (ρ':=[.scr (ns.map D.int),.lst (Os.map oitem),.str (Txt.join "\n" (Os.map otext))]) (set_ok (i:=2) (bM_ok rfl (cons_ok hc rfl) (joinM_ok hfit))) ?_
 have hr : ∀ R ∈ rws Os,R.ok:=fun R hR=>h1 R (rws_mem hR)
 exact ret_ok (call_ok (xs:=[progD (rws Os),progD (rws Os)]) (cons_ok (call_ok (cons_ok rfl rfl) (read_ok h1 h2)) (cons_ok (call_ok (cons_ok rfl rfl) (program_ok h1 h2)) rfl)) (same_ok 5 _ (sd_prog hr (by have:=rws_len Os;lia)))) rfl
end Lk42
end
section
open PySem PySem.W PyProof.Rows
set_option maxRecDepth 100000 in
set_option maxHeartbeats 0 in
theorem PySem.Challenge.cw_hookmill_k42_rows_read_holds : PySem.Challenge.rw_hookmill_k42_rows_read.Holds := by
 w_on;o_law;k_head;(case hw=>w_witness2)
 k_fill
 refine Lk42.walk (l:=PySem.Challenge.rw_hookmill_k42_rows_read) Lk42.main rfl rfl (fun w h Y=>PySem.W.kIn_of Y) ?F
 case F=>
  intro w mg fa h KX G hmg
  refine' Lk42.all_mk KX G hmg ?a0 ?l0 ?c0 ?k0 ?a1 ?l1 ?c1 ?k1 ?a2 ?l2 ?c2 ?k2 ?a3 ?l3 ?c3 ?k3 ?a4 ?l4 ?c4 ?k4 ?a5 ?l5 ?c5 ?k5 ?a6 ?l6 ?c6 ?k6 ?a7 ?l7 ?c7 ?k7 ?a8 ?l8 ?c8 ?k8 ?a9 ?l9 ?c9 ?k9 ?a10 ?l10 ?c10 ?k10 ?a11 ?l11 ?c11 ?k11 ?a12 ?l12 ?c12 ?k12 ?a13 ?l13 ?c13 ?k13 ?z_len ?z_min ?z_max ?z_list ?z_tuple ?z_sorted ?z_range ?z_isinstance ?z_int ?z_bool ?z_str ?z_dict ?z_all ?z_enumerate ?z_sum ?z_zip ?z_abs ?z_reversed
  (case a0=>k_is)
  (case l0=>k_is)
  (case c0=>k_is)
  (case k0=>k_is)
  (case a1=>k_is)
  (case l1=>k_is)
  (case c1=>k_is)
  (case k1=>k_is)
  (case a2=>k_is)
  (case l2=>k_is)
  (case c2=>k_is)
  (case k2=>k_is)
  (case a3=>k_is)
  (case l3=>k_is)
  (case c3=>k_is)
  (case k3=>k_is)
  (case a4=>k_is)
  (case l4=>k_is)
  (case c4=>k_is)
  (case k4=>k_is)
  (case a5=>k_is)
  (case l5=>k_is)
  (case c5=>k_is)
  (case k5=>k_is)
  (case a6=>k_is)
  (case l6=>k_is)
  (case c6=>k_is)
  (case k6=>k_is)
  (case a7=>k_is)
  (case l7=>k_is)
  (case c7=>k_is)
  (case k7=>k_is)
  (case a8=>k_is)
  (case l8=>k_is)
  (case c8=>k_is)
  (case k8=>k_is)
  (case a9=>k_is)
  (case l9=>k_is)
  (case c9=>k_is)
  (case k9=>k_is)
  (case a10=>k_is)
  (case l10=>k_is)
  (case c10=>k_is)
  (case k10=>k_is)
  (case a11=>k_is)
  (case l11=>k_is)
  (case c11=>k_is)
  (case k11=>k_is)
  (case a12=>k_is)
  (case l12=>k_is)
  (case c12=>k_is)
  (case k12=>k_is)
  (case a13=>k_is)
  (case l13=>k_is)
  (case c13=>k_is)
  (case k13=>k_is)
  (case z_len=>k_is)
  (case z_min=>k_is)
  (case z_max=>k_is)
  (case z_list=>k_is)
  (case z_tuple=>k_is)
  (case z_sorted=>k_is)
  (case z_range=>k_is)
  (case z_isinstance=>k_is)
  (case z_int=>k_is)
  (case z_bool=>k_is)
  (case z_str=>k_is)
  (case z_dict=>k_is)
  (case z_all=>k_is)
  (case z_enumerate=>k_is)
  (case z_sum=>k_is)
  (case z_zip=>k_is)
  (case z_abs=>k_is)
  (case z_reversed=>k_is)
end
