import PyProof.Rows.All
import Wide.All
import OpenK.AllK
import Wide.FinOn
import PyProof.EqAt
import PyProof.EqKinds
import PyProof.TupleCall
import Lean
import PyProof.Rows.SortRuns
import PySem.Syntax
import PyProof.NeKinds
import PyProof.WalkInts
import KE.KDictList
import PyProof.CompUse
import PyProof.StrWalks
import PyProof.EnumMake
import PyProof.EnumFor
import PyProof.StrCalls2
import PyProof.StrBlock2
import PyProof.StrBlockI
import PyProof.SliceStr2
import PyProof.ConsumeWalk
import PyProof.StrLawsJoin
import KE.KTryMore
import KE.KTryDeep
import OpenK.KOwn
import PyProof.ExcClass3
import KE.KIsAll
import PyProof.ExcArgsOwn
import PyProof.NsDelKeeps
import PyProof.ListRange
import PyProof.DictWalks
import KE.KEqDict
import PyProof.Rows.TupAdd
import PyProof.DictIter
import PyProof.AttrMissHeap
import PyProof.ZipIter
import PyProof.TupleIter
import PyProof.WalksMore
import PyProof.FactsAll.zip
import KE.KDictOf
import PyProof.Conv_int
import PyProof.Conv_int_bool
import PyProof.StrBlockL
import PyProof.MakeMany
import PyProof.MeetsStr2
import PyProof.CallRoads3
import PyProof.Rows.TupIn
import KE.KRevIter
import PySem.Challenge.RW_hookmill_k51_split
set_option Elab.async false
set_option maxRecDepth 100000
set_option maxHeartbeats 4000000
noncomputable section
set_option linter.all false
set_option autoImplicit false
set_option genSizeOfSpec false
set_option genInjectivity true
abbrev nDb (x:PySem.Str):Prop := (x==("__debug__" : PySem.Str))=false
abbrev nCd (x:PySem.Str):Prop := (x==("__classdict__" : PySem.Str))=false
section
namespace L2
open PySem PySem.Spec PyProof.Rows
abbrev Key:=Sum Int Str
noncomputable def yI:Key->Value->Bool
 | .inl k,v=>Value.isInt k v
 | .inr x,v=>Value.isStrOf x v
noncomputable def aBz (w:World):Key->Int
 | .inl k=>hashInt k
 | .inr x=>hashStr w x
theorem cO:∀{k:Key} {v:Value},yI k v=true->(∃i t,k=Sum.inl i/\v=Value.int i t)\/(∃x t,k=Sum.inr x/\v=Value.str x t)
 | .inl i,v,h=>by
  obtain ⟨t,e⟩:=Value.isInt_shape (k:=i) (v:=v) h;exact .inl ⟨i,t,rfl,e⟩
 | .inr x,v,h=>by
  obtain ⟨t,e⟩:=Value.isStrOf_shape (x:=x) (v:=v) h;exact .inr ⟨x,t,rfl,e⟩
theorem z6 (i:Int) (t:Tok):yI (.inl i) (.int i t)=true:=by simp [yI,Value.isInt]
theorem z7 (x:Str) (t:Tok):yI (.inr x) (.str x t)=true:=by simp [yI,Value.isStrOf]
theorem V6 (a b:Int):decide ((Sum.inl a:Key)=Sum.inl b)=(a==b):=by
 by_cases e:a=b
 ·subst e;simp
 ·have h:¬(Sum.inl a:Key)=Sum.inl b:=fun q=>e (Sum.inl.inj q)
  rw [decide_eq_false h];exact (beq_eq_false_iff_ne.mpr e).symm
theorem V7 (a b:Str):decide ((Sum.inr a:Key)=Sum.inr b)=decide (a=b):=by
 by_cases e:a=b
 ·subst e;simp
 ·have h:¬(Sum.inr a:Key)=Sum.inr b:=fun q=>e (Sum.inr.inj q)
  rw [decide_eq_false h,decide_eq_false e]
theorem V8 (a:Int) (b:Str):decide ((Sum.inl a:Key)=Sum.inr b)=false:=decide_eq_false (fun q=>nomatch q)
theorem V9 (a:Str) (b:Int):decide ((Sum.inr a:Key)=Sum.inl b)=false:=decide_eq_false (fun q=>nomatch q)
noncomputable def cZ (prog:Program) (w:World):PySem.KeyKind prog w Key where
 is:=yI
 hash:=aBz w
 inj:=fun v a b ha hb=>by
  rcases cO ha with ⟨i,t,rfl,rfl⟩|⟨x,t,rfl,rfl⟩
  ·rcases cO hb with ⟨j,u,rfl,e⟩|⟨y,u,rfl,e⟩
   ·injection e with e1 _;rw [e1]
   ·exact nomatch e
  ·rcases cO hb with ⟨j,u,rfl,e⟩|⟨y,u,rfl,e⟩
   ·exact nomatch e
   ·injection e with e1 _;rw [e1]
 byValue:=fun k v h=>by
  rcases cO h with ⟨i,t,rfl,rfl⟩|⟨x,t,rfl,rfl⟩ <;> rfl
 pyHash:=fun hv h=>by
  rcases cO hv with ⟨i,t,rfl,rfl⟩|⟨x,t,rfl,rfl⟩
  ·exact wpAny_pyHash_int h
  ·exact wpAny_pyHash_str h
 eqBool:=fun hu hv h=>by
  rcases cO hu with ⟨i,t,rfl,rfl⟩|⟨x,t,rfl,rfl⟩
  ·rcases cO hv with ⟨j,u,rfl,rfl⟩|⟨y,u,rfl,rfl⟩
   ·rw [V6] at h;exact wpAny_eqBool_int h
   ·rw [V8] at h;exact SeqAt.EqAt.int_str i t y u _ _ _ _ h
  ·rcases cO hv with ⟨j,u,rfl,rfl⟩|⟨y,u,rfl,rfl⟩
   ·rw [V9] at h;exact SeqAt.EqAt.str_int x t j u _ _ _ _ h
   ·rw [V7] at h;exact wpAny_eqBool_str h
 «strs»:=fun k x t v h=>by
  rcases cO h with ⟨i,u,rfl,e⟩|⟨y,u,rfl,e⟩
  ·exact nomatch e
  ·injection e with e1 _
   subst e1;cases v <;> rfl
theorem uA (prog:Program) (w:World) (i:Int) (t:Tok):(cZ prog w).is (.inl i) (.int i t)=true:=z6 i t
theorem uB (prog:Program) (w:World) (x:Str) (t:Tok):(cZ prog w).is (.inr x) (.str x t)=true:=z7 x t
end L2
namespace L2
open PySem PySem.Spec PyProof.Rows
inductive V where
 | non|bl (b:Bool)|int (i:Int)|str (x:Str)|byt (b:Array UInt8)|flt (b:UInt64)|ref (a:Addr)|ty (n:String)
 deriving DecidableEq
noncomputable def RelV:V->Value->Prop
 | .non,u=>u=Value.none
 | .bl b,u=>u=Value.bool b
 | .int i,u=>∃t,u=Value.int i t
 | .str x,u=>∃t,u=Value.str x t
 | .byt b,u=>∃t,u=Value.bytes b t
 | .flt b,u=>∃t,u=Value.float b t
 | .ref a,u=>u=Value.ref a
 | .ty n,u=>u=Value.type n
abbrev Vals:List V->List Value->Prop:=Paired RelV
theorem Vals.length {xs:List V} {us:List Value} (r:Vals xs us):xs.length=us.length:=Paired.length r
theorem Vals.get:∀{xs:List V} {us:List Value} {i:Nat} {x:V},Vals xs us->xs[i]?=some x->∃u,us[i]?=some u/\RelV x u
 | _,_,_,_,.nil,e=>by simp at e
 | _,_,0,_,.cons r _,e=>by simp at e;subst e;exact ⟨_,rfl,r⟩
 | _,_,i+1,x,.cons _ t,e=>by
  obtain ⟨u,h1,h2⟩:=Vals.get (i:=i) (x:=x) t (by simpa using e);exact ⟨u,by simpa using h1,h2⟩
theorem Vals.set {x:V} {u:Value} (r:RelV x u):∀{xs:List V} {us:List Value} (i:Nat),Vals xs us->Vals (xs.set i x) (us.set i u)
 | _,_,_,.nil=>.nil
 | _,_,0,.cons _ t=>.cons r t
 | _,_,i+1,.cons q t=>.cons q (Vals.set r i t)
theorem Vals.append:∀{xs ys:List V} {us ws:List Value},Vals xs us->Vals ys ws->Vals (xs++ys) (us++ws)
 | _,_,_,_,.nil,s=>s
 | _,_,_,_,.cons r t,s=>.cons r (Vals.append t s)
theorem Vals.take:∀{xs:List V} {us:List Value} (n:Nat),Vals xs us->Vals (xs.take n) (us.take n)
 | _,_,0,_=>.nil
 | _,_,_+1,.nil=>.nil
 | _,_,n+1,.cons r t=>.cons r (Vals.take n t)
theorem Vals.drop:∀{xs:List V} {us:List Value} (n:Nat),Vals xs us->Vals (xs.drop n) (us.drop n)
 | _,_,0,r=>r
 | _,_,_+1,.nil=>.nil
 | _,_,n+1,.cons _ t=>Vals.drop n t
noncomputable def KC:Option V->Option Value->Prop
 | some v,some u=>RelV v u
 | none,none=>True
 | _,_=>False
noncomputable def KV {κ:Type}:List (κ×V)->List (κ×Value)->Prop:=Paired fun (p:κ×V) (q:κ×Value)=>p.1=q.1/\RelV p.2 q.2
noncomputable def kV:Key->V
 | .inl i=>.int i
 | .inr x=>.str x
inductive HO where
 | lst (xs:List V)
 | tup (xs:List V)
 | dK (kvs:List (Key×V))|dT (kvs:List (List Key×V))
 | set (S:Int->Bool) (n:Nat)
 | ins (C dx:Addr) (fs:List (Str×V))
 | own (x:Addr)
 | xd (fs:List (Str×V))
 | met (f x:Addr)
 | rng (lo hi:Int)
 | frz (o:Obj) (u:HO)
 | tbl (ps:Array Value)
 | ext (φ:Heap->Prop)
abbrev Hp:=Addr->Option HO
def upd (H:Hp) (a:Addr) (o:HO):Hp:=fun b=>if b=a then some o else H b
theorem aO {H:Hp} {a:Addr} {o:HO}:upd H a o a=some o:=by unfold upd;rw [if_pos rfl]
theorem bT {H:Hp} {a b:Addr} {o:HO} (h:b≠a):upd H a o b=H b:=by unfold upd;rw [if_neg h]
theorem uC {H:Hp} {a:Addr} {o u:HO}:upd (upd H a o) a u=upd H a u:=by
 funext b;unfold upd;split <;> rfl
theorem RC {H:Hp} {a b:Addr} {o u:HO} (h:H a=some o) (h':H b=some u) (d:o≠u):a≠b:=by
 intro e;subst e;rw [h] at h';exact d (Option.some.inj h')
theorem eQ {H:Hp} {a b:Addr} {o:HO} (h:H a=some o) (h':H b=none):a≠b:=by
 intro e;subst e;rw [h] at h';cases h'
noncomputable def g_ (h:Heap) (a:Addr) (its:Array Value):Prop:=∃o,h.get? a=some o/\o.cls=.type "tuple"/\∃n,(o.data,o.dict)=(Data.seq its n,none)
theorem g_.tup {h:Heap} {a:Addr} {its:Array Value} (t:g_ h a its):IsTup h a its:=let ⟨o,e,c,n,d⟩:=t;⟨o,e,c,n,congrArg (·.1) d⟩
theorem g_.bare {h:Heap} {a:Addr} {its:Array Value} (t:g_ h a its):∃o,h.get? a=some o/\o.dict=none:=let ⟨o,e,_,_,d⟩:=t;⟨o,e,congrArg (·.2) d⟩
theorem g_.new (h:Heap) (items:Array Value):g_ (h.push {cls:=.type "tuple",data:=.seq items}) h.objs.size items:=⟨_,Heap.get?_push_size _ rfl,rfl,_,rfl⟩
section
variable (P:Program) (w:World)
noncomputable def h_ (H:Hp) (h:Heap) (a:Addr):HO->Prop
 | .lst xs=>xs.length<=sizeLine/\∃(its:List Value) (n:Nat),Vals xs its/\h.get? a=some {cls:=.type "list",data:=.seq its.toArray n}
 | .tup xs=>xs.length<=sizeLine/\∃its:List Value,Vals xs its/\g_ h a its.toArray
 | .dK kvs=>kvs.length<=sizeLine/\(a==sysModules)=false/\∃vs,KV kvs vs/\h.DictOf (cZ P w) a vs
 | .dT kvs=>kvs.length<=sizeLine/\(a==sysModules)=false/\∃xs:List (List Key×Addr×Value),
   Paired (fun (p:List Key×V) (q:List Key×Addr×Value)=>p.1=q.1/\H q.2.1=some (.tup (p.1.map kV))/\RelV p.2 q.2.2) kvs xs/\
   ∃o es ep,h.get? a=some o/\o.ExactDict/\o.data=.dict es ep/\es.toList=xs.map (entryOfKey (tupleKind (cZ P w)))/\(xs.map (·.1)).Nodup
 | .set S n=>h.SetOf (intKind P w) a S n
 | .ins C dx fs=>H dx=some (.own a)/\fs.length<=1000/\dx≠a/\h.get? a=some (PySem.W.instObj C dx)/\
   ∃mA,h.Ns1 dx mA/\(∀f,KC (fs.lookup f) (mA f))/\PySem.Within mA (fs.map (·.1))
 | .own _=>∃o,h.get? a=some o
 | .xd fs=>∃mA,h.Ns1 a mA/\∀f,KC (fs.lookup f) (mA f)
 | .rng lo hi=>∃t u v,h.get? a=some {cls:=.type "range",data:=.fields #[.int lo t,.int hi u,.int 1 v]}
 | .frz o u=>h.get? a=some o/\h_ H h a u
 | .tbl ps=>h.get? a=some {cls:=.none,data:=.fields ps}
 | .met f x=>h.get? a=some (PySem.W.methodObj (.ref f) (.ref x))
 | .ext φ=>φ h/\(∃o,h.get? a=some o)/\∀h1 h2:Heap,φ h1->(∀o,h1.get? a=some o->h2.get? a=some o)->φ h2
def HOk (H:Hp) (h:Heap):Prop:=∀a o,H a=some o->h_ P w H h a o
end
section
variable {P:Program} {w:World} {H H':Hp} {h h':Heap} {a:Addr} {o:HO}
theorem h_.lt (x:h_ P w H h a o):a<h.objs.size:=by
 cases o with
 | lst xs=>obtain ⟨_,_,_,_,e⟩:=x;exact Heap.lt_size e
 | tup xs=>obtain ⟨_,_,_,p⟩:=x;exact p.tup.lt
 | dK kvs=>obtain ⟨_,_,_,_,o,_,_,e,_⟩:=x;exact Heap.lt_size e
 | dT kvs=>obtain ⟨_,_,_,_,o,_,_,e,_⟩:=x;exact Heap.lt_size e
 | set S n=>obtain ⟨o,_,_,_,e,_⟩:=x;exact Heap.lt_size e
 | ins C dx fs=>obtain ⟨_,_,_,e,_⟩:=x;exact Heap.lt_size e
 | own y=>obtain ⟨_,e⟩:=x;exact Heap.lt_size e
 | xd fs=>obtain ⟨_,⟨_,_,_,e,_⟩,_⟩:=x;exact Heap.lt_size e
 | rng lo hi=>obtain ⟨_,_,_,e⟩:=x;exact Heap.lt_size e
 | frz ob u=>obtain ⟨e,_⟩:=x;exact Heap.lt_size e
 | tbl ps=>exact Heap.lt_size (show h.get? a=some _ from x)
 | met f y=>exact Heap.lt_size (show h.get? a=some _ from x)
 | ext φ=>obtain ⟨_,⟨_,e⟩,_⟩:=x;exact Heap.lt_size e
theorem Paired.aAn {α β:Type} {F G:α->β->Prop}:∀{l₁:List α} {l₂:List β},Paired F l₁ l₂->(∀a b,F a b->G a b)->Paired G l₁ l₂
 | _,_,.nil,_=>.nil
 | _,_,.cons r t,f=>.cons (f _ _ r) (Paired.aAn t f)
theorem h_.stay (x:h_ P w H h a o) (k:∀b u,(b=a\/H b=some (.own a))->h.get? b=some u->h'.get? b=some u)
  (ho:∀b,H b=some (.own a)->H' b=some (.own a)) (ht:∀b xs,H b=some (.tup xs)->H' b=some (.tup xs)):h_ P w H' h' a o:=by
 induction o with
 | lst xs=>obtain ⟨z,its,n,r,e⟩:=x;exact ⟨z,its,n,r,k _ _ (.inl rfl) e⟩
 | tup xs=>obtain ⟨z,its,r,ob,e,c⟩:=x;exact ⟨z,its,r,ob,k _ _ (.inl rfl) e,c⟩
 | dK kvs=>obtain ⟨z,y,vs,r,ob,es,ep,e,c⟩:=x;exact ⟨z,y,vs,r,ob,es,ep,k _ _ (.inl rfl) e,c⟩
 | dT kvs=>
  obtain ⟨z,y,xs,r,ob,es,ep,e,c⟩:=x;exact ⟨z,y,xs,Paired.aAn r fun p q z=>⟨z.1,ht _ _ z.2.1,z.2.2⟩,ob,es,ep,k _ _ (.inl rfl) e,c⟩
 | set S n=>obtain ⟨ob,es,ep,t,e,c⟩:=x;exact ⟨ob,es,ep,t,k _ _ (.inl rfl) e,c⟩
 | ins C dx fs=>
  obtain ⟨d,z,ne,e,mA,⟨od,es,ep,e2,c⟩,r⟩:=x;exact ⟨ho _ d,z,ne,k _ _ (.inl rfl) e,mA,⟨od,es,ep,k _ _ (.inr d) e2,c⟩,r⟩
 | own y=>obtain ⟨ob,e⟩:=x;exact ⟨ob,k _ _ (.inl rfl) e⟩
 | xd fs=>obtain ⟨mA,⟨od,es,ep,e,c⟩,r⟩:=x;exact ⟨mA,⟨od,es,ep,k _ _ (.inl rfl) e,c⟩,r⟩
 | rng lo hi=>obtain ⟨t,u,v,e⟩:=x;exact ⟨t,u,v,k _ _ (.inl rfl) e⟩
 | frz ob u ih=>obtain ⟨e,q⟩:=x;exact ⟨k _ _ (.inl rfl) e,ih q⟩
 | tbl ps=>
  have e:h.get? a=some {cls:=.none,data:=.fields ps}:=x;show h'.get? a=some {cls:=.none,data:=.fields ps};exact k a _ (.inl rfl) e
 | met f y=>
  have e:h.get? a=some (PySem.W.methodObj (.ref f) (.ref y)):=x;show h'.get? a=some (PySem.W.methodObj (.ref f) (.ref y));exact k a _ (.inl rfl) e
 | ext φ=>obtain ⟨p,⟨o,e⟩,st⟩:=x;exact ⟨st _ _ p fun o q=>k _ _ (.inl rfl) q,⟨o,k _ _ (.inl rfl) e⟩,st⟩
theorem HOk.lt (x:HOk P w H h) (e:H a=some o):a<h.objs.size:=(x a o e).lt
theorem HOk.fresh (x:HOk P w H h) (e:h.objs.size<=a):H a=none:=by
 cases q:H a with
 | none=>rfl
 | some u=>exact absurd (Nat.lt_of_lt_of_le (x.lt q) e) (Nat.lt_irrefl _)
theorem HOk.kept (x:HOk P w H h) (k:∀b u,h.get? b=some u->h'.get? b=some u):HOk P w H h':=fun a o e=>
 (x a o e).stay (fun b u _ q=>k b u q) (fun _ q=>q) fun _ _ q=>q
theorem HOk.laid (x:HOk P w H h) (k:∀b u,h.get? b=some u->h'.get? b=some u) (hp:h.objs.size<=a) (new:h_ P w (upd H a o) h' a o):HOk P w (upd H a o) h':=fun b u e=>by
 have hn:=x.fresh hp;by_cases hb:b=a
 ·subst hb;rw [aO] at e;cases e;exact new
 ·rw [bT hb] at e;exact (x b u e).stay (fun c v _ q=>k c v q) (fun c q=>by rw [bT (eQ q hn)];exact q) fun c xs q=>by rw [bT (eQ q hn)];exact q
end
def Rd (H:Hp) (a:Addr) (u:HO):Prop:=H a=some u\/∃o,H a=some (.frz o u)
theorem Rd.ok {P:Program} {w:World} {H:Hp} {h:Heap} {a:Addr} {u:HO} (r:Rd H a u) (x:HOk P w H h):h_ P w H h a u:=by
 rcases r with r|⟨o,r⟩
 ·exact x a u r
 ·obtain ⟨_,q⟩:=x a _ r;exact q
noncomputable def Mut:Option HO->Prop
 | some (.lst _)=>True
 | some (.dK _)=>True
 | some (.dT _)=>True
 | some (.set _ _)=>True
 | some (.ins _ _ _)=>True
 | some (.ext _)=>True
 | _=>False
section
variable {P:Program} {w:World} {H:Hp} {h h':Heap} {x e:Addr} {o':HO}
theorem HOk.write (ok:HOk P w H h) (mu:Mut (H x)) (he:e=x\/H e=some (.own x)) (k:∀b u,b≠e->h.get? b=some u->h'.get? b=some u) (heo:∃u,h'.get? e=some u)
  (new:h_ P w (upd H x o') h' x o'):HOk P w (upd H x o') h':=fun b u q=>by
 have nown:∀c y,H c=some (.own y)->c≠x:=fun c y r z=>by subst z;rw [r] at mu;exact mu
 have ntup:∀c xs,H c=some (.tup xs)->c≠x:=fun c xs r z=>by subst z;rw [r] at mu;exact mu
 by_cases hb:b=x
 ·subst hb;rw [aO] at q;cases q;exact new
 ·rw [bT hb] at q;by_cases hbe:b=e
  ·have q':H b=some (.own x):=by
    rcases he with z|z
    ·exact absurd (hbe.trans z) hb
    ·rw [hbe];exact z
   rw [q] at q';cases q';obtain ⟨v,hv⟩:=heo;exact ⟨v,by rw [hbe];exact hv⟩
  ·refine (ok b u q).stay (fun c v hc r=>k c v ?_ r) (fun c r=>by rw [bT (nown c b r)];exact r) fun c xs r=>by rw [bT (ntup c xs r)];exact r
   rcases hc with rfl|hc
   ·exact hbe
   ·rintro rfl;rcases he with z|z
    ·exact nown c b hc z
    ·rw [hc] at z;cases z;exact hb rfl
end
structure Un (fs ex:List Addr) (H H':Hp) (h h':Heap):Prop where
 keep:∀b o,h.get? b=some o->H b=none->b∉fs->b∉ex->h'.get? b=some o
 slot:∀b o,h.get? b=some o->H b=none->b∈fs->b∉ex->∃sl,h'.get? b=some {o with slots:=sl}
 free:∀b o,h.get? b=some o->H b=none->b∉ex->H' b=none
 there:∀b o,h.get? b=some o->b∉ex->∃o',h'.get? b=some o'
 tups:∀b xs,H b=some (.tup xs)->H' b=some (.tup xs)
 frzs:∀b o u,H b=some (.frz o u)->H' b=some (.frz o u)
 tbls:∀b ps,H b=some (.tbl ps)->∃more,H' b=some (.tbl (ps++more))
section
variable {fs fs' ex ex':List Addr} {H H1 H2:Hp} {h h1 h2 h':Heap} {a x e:Addr} {o:HO}
theorem Un.any (u:Un fs ex H H1 h h1) {b:Addr} {ob:Obj} (q:h.get? b=some ob) (n:H b=none) (hx:b∉ex):∃sl,h1.get? b=some {ob with slots:=sl}:=by
 by_cases hb:b∈fs
 ·exact u.slot b ob q n hb hx
 ·exact ⟨ob.slots,u.keep b ob q n hb hx⟩
theorem Un.kept (k:∀b u,h.get? b=some u->h'.get? b=some u):Un fs ex H H h h':=
 ⟨fun b ob q _ _ _=>k b ob q,fun b ob q _ _ _=>⟨ob.slots,k b ob q⟩,fun _ _ _ n _=>n,fun b ob q _=>⟨ob,k b ob q⟩,fun _ _ q=>q,fun _ _ _ q=>q,fun _ ps q=>⟨#[],by rw [q];simp⟩⟩
theorem Un.refl:Un fs ex H H h h:=Un.kept fun _ _ q=>q
theorem Un.laid (k:∀b u,h.get? b=some u->h'.get? b=some u) (hp:h.objs.size<=a) (hn:H a=none):Un fs ex H (upd H a o) h h' where
 keep:=fun b u q _ _ _=>k b u q
 slot:=fun b u q _ _ _=>⟨u.slots,k b u q⟩
 free:=fun b u q n _=>by rw [bT (Nat.ne_of_lt (Nat.lt_of_lt_of_le (Heap.lt_size q) hp))];exact n
 there:=fun b u q _=>⟨u,k b u q⟩
 tups:=fun b xs q=>by rw [bT (eQ q hn)];exact q
 frzs:=fun b u xs q=>by rw [bT (eQ q hn)];exact q
 tbls:=fun b ps q=>⟨#[],by rw [bT (eQ q hn),q];simp⟩
theorem Un.write (mu:Mut (H x)) (he:e=x\/H e=some (.own x)) (k:∀b u,b≠e->h.get? b=some u->h'.get? b=some u) (heo:∃u,h'.get? e=some u):Un fs ex H (upd H x o) h h':=by
 have hx:∀b,H b=none->b≠x:=fun b n z=>by subst z;rw [n] at mu;exact mu
 have hb:∀b,H b=none->b≠e:=fun b n z=>by
  subst z;rcases he with r|r
  ·exact hx b n r
  ·rw [n] at r;cases r
 have hm:∀b u,H b=some u->¬Mut (some u)->b≠x:=fun b u q nm z=>by subst z;rw [q] at mu;exact nm mu
 refine ⟨fun b u q n _ _=>k b u (hb b n) q,fun b u q n _ _=>⟨u.slots,k b u (hb b n) q⟩,fun b u q n _=>by rw [bT (hx b n)];exact n,fun b u q _=>?_,
  fun b xs q=>by rw [bT (hm b _ q fun z=>z)];exact q,fun b u xs q=>by rw [bT (hm b _ q fun z=>z)];exact q,fun b ps q=>⟨#[],by rw [bT (hm b _ q fun z=>z),q];simp⟩⟩
 by_cases hbe:b=e
 ·subst hbe;exact heo
 ·exact ⟨u,k b u hbe q⟩
end
noncomputable def trk (h:Heap) (H:Hp):List Addr:=(List.range h.objs.size).filter fun a=>(H a).isSome
def KQ (h:Heap) (H:Hp):Heap:=PySem.W.hideAll h (trk h H)
theorem z8 (h:Heap) (H:Hp):(KQ h H).objs.size=h.objs.size:=PySem.W.hideAll_size _ _
theorem KR {h:Heap} {H:Hp} {b:Addr} {o:Obj} (e:h.get? b=some o) (n:H b=none):(KQ h H).get? b=some o:=
 PySem.W.hideAll_get _ e fun hm=>by
  have q:(H b).isSome=true:=(List.mem_filter.mp hm).2;rw [n] at q;simp at q
theorem RD {h:Heap} {H:Hp} {b:Addr} {o:Obj} (e:(KQ h H).get? b=some o):h.get? b=some o/\H b=none:=by
 have e':h.get? b=some o:=PySem.W.of_hideAll (trk h H) e;refine ⟨e',?_⟩;cases q:H b with
 | none=>rfl
 | some x=>
  have hm:b∈trk h H:=List.mem_filter.mpr ⟨List.mem_range.mpr (Heap.lt_size e'),by simp [q]⟩;have z:(KQ h H).get? b=none:=PySem.W.hideAll_none (trk h H) hm;rw [z] at e;cases e
end L2
namespace L2
open PySem PySem.Spec PyProof.Rows
structure Mod (K:PySem.W.Frag) (mg:Str->Option Value) (base:Heap):Prop where
 kin:K.In base
 glob:base.Ns mainGlobals mg
 blt:∃mb,base.Ns builtinsNs mb/\∀x:Str,x ≠ "__name__"->mb x=bootBuiltins x
 nolimit:base.NoLimit
/-- the context: a def's body (or a comprehension's block) running. base: fixed through the whole law; s₀, H₀: the entry; outer: the frames whose slots others may change (a def's callers); stack: all frames that run;
   ex: iterators that were made ahead of the entry and are walked here (a comprehension's); fn: the names whose cells were made at the entry (a def: all; a comprehension's block: its own); calm: not within an except suite; pn: pins that every state bears; xe: what is wanted of an exception that leaves the code -/
structure Cx where
 prog:Program
 w:World
 K:PySem.W.Frag
 mg:Str->Option Value
 base:Heap
 A:Around
 N:List Str
 s₀:Shared
 H₀:Hp
 env:Env
 outer:List Env
 stack:List Env
 ex:List Addr
 fn:Str->Bool
 calm:Bool
 pn:List (Addr×Obj)
 xe:Value->Shared->Prop
def frs (l:List Env):List Addr:=l.filterMap (·.frame)
abbrev Cx.fs (X:Cx):List Addr:=frs X.outer
noncomputable def Vis (sc:Scope) (x:Str):Prop:=sc.names.lookup x=some .local\/sc.names.lookup x=some .cell\/sc.names.lookup x=some .free
noncomputable def Loc (sc:Scope) (x:Str):Prop:=sc.names.lookup x=some .local\/sc.names.lookup x=some .cell
noncomputable def Look (env:Env) (h:Heap) (m:Str->Option Value) (x:Str) (u:Value):Prop:=
 (env.kindOf x=some .local/\m x=some u)\/((env.kindOf x=some .cell\/env.kindOf x=some .free)/\∃c,env.cells.lookup x=some c/\h.IsCell c (some u))
structure Cx.Ok (X:Cx):Prop where
 mod:Mod X.K X.mg X.base
 kind:X.env.scope.kind=.function
 glob:X.env.globals=mainGlobals
 blt:X.env.builtins=builtinsNs
 above:X.s₀.heap.objs.size<=X.env.locals
 inj:∀x y c,X.env.cells.lookup x=some c->X.env.cells.lookup y=some c->x=y
 has:∀x,(X.env.kindOf x=some .cell\/X.env.kindOf x=some .free)->∃c,X.env.cells.lookup x=some c
 cab:∀x c,X.fn x=true->X.env.cells.lookup x=some c->X.s₀.heap.objs.size<=c
 hd:X.calm=true->X.A.handled=none
 frames:X.A.frames=some X.stack
 stk:X.stack=X.outer\/(X.stack=X.env::X.outer/\X.env.frame=some X.env.locals)
 exf:∀b∈X.ex,b≠X.env.locals/\∀x c,X.env.cells.lookup x=some c->c≠b
 bs:∀b o,X.base.get? b=some o->X.s₀.heap.get? b=some o/\X.H₀ b=none
 bsz:X.base.objs.size<=X.s₀.heap.objs.size
 noex:∀b o,X.base.get? b=some o->b∉X.ex
 exfs:∀b∈X.ex,b∉X.fs
 z9:X.s₀.heap.FunFrames X.base X.outer
 frf:∀b∈X.fs,X.H₀ b=none
structure Inv (X:Cx) (pins:List (Addr×Obj)) (σ:List (Option V)) (H:Hp) (s:Shared):Prop where
 ok:X.Ok
 os:s.os=X.s₀.os
 bare:AllBare s.gens
 base:Un X.fs X.ex X.H₀ H X.s₀.heap s.heap
 loc:∃m,s.heap.Ns X.env.locals m/\∀(i:Nat) (x:Str) (v:V),X.N[i]?=some x->σ[i]?=some (some v)->Vis X.env.scope x->∃u,RelV v u/\Look X.env s.heap m x u
 cell:∀x c,X.env.cells.lookup x=some c->∃v,s.heap.IsCell c v
 free:H X.env.locals=none
 freeC:∀x c,X.env.cells.lookup x=some c->H c=none
 pin:∀p∈X.pn++pins,s.heap.get? p.1=some p.2/\H p.1=none/\p.1≠X.env.locals/\p.1∉X.fs/\∀v,p.2.data≠.cell v
 hok:HOk X.prog X.w H s.heap
 len:σ.length=X.N.length
section
variable {X:Cx} {pins:List (Addr×Obj)} {σ:List (Option V)} {H H':Hp} {s:Shared} {h':Heap}
theorem Cx.Ok.aC0 (ok:X.Ok) {b:Addr} {o:Obj} (e:X.base.get? b=some o):b∉X.fs:=fun hb=>by
 have:=(ok.z9.mem hb).1;rw [e] at this;cases this
theorem Inv.bs (I:Inv X pins σ H s):∀b o,X.base.get? b=some o->s.heap.get? b=some o/\H b=none:=fun b o e=>
 ⟨I.base.keep b o (I.ok.bs b o e).1 (I.ok.bs b o e).2 (I.ok.aC0 e) (I.ok.noex b o e),I.base.free b o (I.ok.bs b o e).1 (I.ok.bs b o e).2 (I.ok.noex b o e)⟩
theorem Inv.bk (I:Inv X pins σ H s):∀b o,X.base.get? b=some o->s.heap.get? b=some o:=fun b o e=>(I.bs b o e).1
theorem Inv.mod (I:Inv X pins σ H s):Mod X.K X.mg X.base:=I.ok.mod
theorem Inv.kIn (I:Inv X pins σ H s):X.K.In s.heap:=I.ok.mod.kin.keeps I.bk
theorem Inv.lt (I:Inv X pins σ H s):X.env.locals<s.heap.objs.size:=let ⟨_,hn,_⟩:=I.loc;hn.lt
theorem Inv.sz (I:Inv X pins σ H s):X.s₀.heap.objs.size<=s.heap.objs.size:=Nat.le_trans I.ok.above (Nat.le_of_lt I.lt)
theorem Inv.aBq (I:Inv X pins σ H s) {a:Addr} (h:s.heap.objs.size<=a):a∉X.fs:=fun hb=>by
 obtain ⟨_,o,ho,_⟩:=I.ok.z9.mem hb;exact absurd (Nat.lt_of_lt_of_le (Heap.lt_size ho) (Nat.le_trans I.sz h)) (Nat.lt_irrefl _)
theorem Inv.cne (I:Inv X pins σ H s):∀x c,X.env.cells.lookup x=some c->c≠X.env.locals:=fun x c e z=>by
 obtain ⟨v,o,ho,hd⟩:=I.cell x c e;obtain ⟨m,⟨o',es,ep,ho',hd',_⟩,_⟩:=I.loc;rw [z,ho'] at ho;cases ho;rw [hd'] at hd;cases hd
theorem Inv.z9 (I:Inv X pins σ H s):s.heap.FunFrames X.base X.outer:=by
 have all:∀(l:List Env),(∀b∈frs l,b∈X.fs)->X.s₀.heap.FunFrames X.base l->s.heap.FunFrames X.base l:=by
  intro l;induction l with
  | nil=>intro _ _;trivial
  | cons env r ih=>
   intro hs hl;obtain ⟨hk,⟨L,o,hf,hn,ho,hd⟩,hr⟩:=hl;have hL:L∈X.fs:=hs L (by unfold frs;rw [List.filterMap_cons,hf];exact List.mem_cons_self);obtain ⟨sl,e⟩:=I.base.slot L o ho (I.ok.frf L hL) hL fun z=>I.ok.exfs L z hL
   exact ⟨hk,⟨L,_,hf,hn,e,hd⟩,ih (fun b hb=>hs b (by unfold frs;rw [List.filterMap_cons,hf];exact List.mem_cons_of_mem _ hb)) hr⟩
 exact all X.outer (fun _ hb=>hb) I.ok.z9
theorem Inv.stack (I:Inv X pins σ H s):s.heap.FunFrames X.base X.stack:=by
 rcases I.ok.stk with e|⟨e,hf⟩
 ·rw [e];exact I.z9
 ·rw [e];obtain ⟨m,hn,_⟩:=I.loc;refine .cons (by rw [I.ok.kind];decide) hf hn ?_ I.z9;exact Heap.get?_none_of_le (Nat.le_trans I.ok.bsz I.ok.above)
theorem Inv.vP (I:Inv X pins σ H s):∀b∈frs X.stack,b∈X.env.locals::X.fs:=fun b hb=>by
 rcases I.ok.stk with e|⟨e,hf⟩
 ·rw [e] at hb;exact List.mem_cons_of_mem _ hb
 ·rw [e] at hb;unfold frs at hb;rw [List.filterMap_cons,hf] at hb;exact hb
theorem Inv.z_ (I:Inv X pins σ H s):∀b∈frs X.stack,H b=none:=fun b hb=>by
 rcases List.mem_cons.mp (I.vP b hb) with e|hb
 ·rw [e];exact I.free
 ·obtain ⟨_,o,ho,_⟩:=I.ok.z9.mem hb;exact I.base.free b o ho (I.ok.frf b hb) fun z=>I.ok.exfs b z hb
theorem Inv.step {g':Array GenState} {t':Nat} {d':Drawn} {ch:List Addr} (I:Inv X pins σ H s)
  (hch:∀b∈ch,(b∈X.ex\/X.s₀.heap.objs.size<=b)/\b≠X.env.locals/\(∀x c,X.env.cells.lookup x=some c->c≠b)/\∀p∈X.pn++pins,p.1≠b)
  (keep:∀b o,b≠X.env.locals->b∉X.fs->b∉ch->s.heap.get? b=some o->H b=none->h'.get? b=some o)
  (slot:∀b o,b≠X.env.locals->b∈X.fs->b∉ch->s.heap.get? b=some o->H b=none->∃sl,h'.get? b=some {o with slots:=sl}) (free:∀b o,b∉ch->s.heap.get? b=some o->H b=none->H' b=none)
  (there:∀b o,b∉ch->s.heap.get? b=some o->∃o',h'.get? b=some o')
  (tups:∀b xs,H b=some (.tup xs)->H' b=some (.tup xs)) (frzs:∀b o u,H b=some (.frz o u)->H' b=some (.frz o u)) (tbls:∀b ps,H b=some (.tbl ps)->∃more,H' b=some (.tbl (ps++more)))
  (ns:∀m,s.heap.Ns X.env.locals m->h'.Ns X.env.locals m) (hok:HOk X.prog X.w H' h') (hg:AllBare g') :
  Inv X pins σ H' {s with heap:=h',gens:=g',drawn:=d',toks:=t'}:=by
 have neL:∀b o,X.s₀.heap.get? b=some o->b≠X.env.locals:=fun b o e=>Nat.ne_of_lt (Nat.lt_of_lt_of_le (Heap.lt_size e) I.ok.above)
 have neC:∀b o,X.s₀.heap.get? b=some o->b∉X.ex->b∉ch:=fun b o e hx hb=>by
  rcases (hch b hb).1 with z|z
  ·exact hx z
  ·exact absurd (Nat.lt_of_lt_of_le (Heap.lt_size e) z) (Nat.lt_irrefl _)
 have cellK:∀x c,X.env.cells.lookup x=some c->∀v,s.heap.IsCell c v->h'.IsCell c v:=fun x c e v ⟨o,ho,hd⟩=>by
  have nch:c∉ch:=fun z=>(hch c z).2.2.1 x c e rfl
  by_cases hc:c∈X.fs
  ·obtain ⟨sl,q⟩:=slot c o (I.cne x c e) hc nch ho (I.freeC x c e);exact ⟨_,q,hd⟩
  ·exact ⟨o,keep c o (I.cne x c e) hc nch ho (I.freeC x c e),hd⟩
 refine ⟨I.ok,I.os,hg,⟨fun b o e n hb hx=>?_,fun b o e n hb hx=>?_,fun b o e n hx=>?_,fun b o e hx=>?_,fun b xs e=>tups b xs (I.base.tups b xs e),fun b o xs e=>frzs b o xs (I.base.frzs b o xs e),fun b ps e=>?_⟩,?_,fun x c e=>?_,?_,fun x c e=>?_,fun p hp=>?_,hok,I.len⟩
 ·exact keep b o (neL b o e) hb (neC b o e hx) (I.base.keep b o e n hb hx) (I.base.free b o e n hx)
 ·obtain ⟨sl,e1⟩:=I.base.slot b o e n hb hx;obtain ⟨sl',e2⟩:=slot b _ (neL b o e) hb (neC b o e hx) e1 (I.base.free b o e n hx);exact ⟨sl',e2⟩
 ·obtain ⟨o',e1⟩:=I.base.there b o e hx;exact free b o' (neC b o e hx) e1 (I.base.free b o e n hx)
 ·obtain ⟨o',e1⟩:=I.base.there b o e hx;exact there b o' (neC b o e hx) e1
 ·obtain ⟨m1,e1⟩:=I.base.tbls b ps e;obtain ⟨m2,e2⟩:=tbls b _ e1;exact ⟨m1++m2,by rw [e2,Array.append_assoc]⟩
 ·obtain ⟨m,hn,hl⟩:=I.loc;refine ⟨m,ns m hn,fun i x v e1 e2 e3=>?_⟩;obtain ⟨u,r,l⟩:=hl i x v e1 e2 e3;refine ⟨u,r,?_⟩;rcases l with l|⟨k,c,e,z⟩
  ·exact .inl l
  ·exact .inr ⟨k,c,e,cellK x c e _ z⟩
 ·obtain ⟨v,z⟩:=I.cell x c e;exact ⟨v,cellK x c e v z⟩
 ·obtain ⟨m,⟨o,_,_,ho,_⟩,_⟩:=I.loc;exact free _ o (fun z=>(hch _ z).2.1 rfl) ho I.free
 ·obtain ⟨v,o,ho,hd⟩:=I.cell x c e;exact free c o (fun z=>(hch c z).2.2.1 x c e rfl) ho (I.freeC x c e)
 ·obtain ⟨e,n,ne,nf,d⟩:=I.pin p hp;have nch:p.1∉ch:=fun z=>(hch p.1 z).2.2.2 p hp rfl
  exact ⟨keep p.1 p.2 ne nf nch e n,free p.1 p.2 nch e n,ne,nf,d⟩
theorem Inv.un {t':Nat} (I:Inv X pins σ H s) (u:Un X.fs [] H H' s.heap h') (hok:HOk X.prog X.w H' h'):Inv X pins σ H' {s with heap:=h',toks:=t'}:=by
 obtain ⟨m,⟨o,es,ep,ho,r⟩,_⟩:=id I.loc;obtain ⟨sl,hL⟩:=u.any ho I.free (by simp);exact I.step (g':=s.gens) (d':=s.drawn) (ch:=[]) (fun _ z=>nomatch z) (fun b o _ hb _ e n=>u.keep b o e n hb (by simp)) (fun b o _ hb _ e n=>u.slot b o e n hb (by simp)) (fun b o _ e n=>u.free b o e n (by simp)) (fun b o _ e=>u.there b o e (by simp)) u.tups u.frzs u.tbls (fun m' hm=>by
  obtain ⟨o',es',ep',ho',r'⟩:=hm;rw [ho] at ho';cases ho';exact ⟨_,es',ep',hL,r'⟩) hok I.bare
theorem Inv.call {g':Array GenState} {t':Nat} {d':Drawn} {ch:List Addr} (I:Inv X pins σ H s) (u:Un (frs X.stack) ch H H' s.heap h') (hok:HOk X.prog X.w H' h') (hg:AllBare g')
  (hch:∀b∈ch,(b∈X.ex\/X.s₀.heap.objs.size<=b)/\b≠X.env.locals/\(∀x c,X.env.cells.lookup x=some c->c≠b)/\∀p∈X.pn++pins,p.1≠b) :
  Inv X pins σ H' {s with heap:=h',gens:=g',drawn:=d',toks:=t'}:=by
 obtain ⟨m,⟨o,es,ep,ho,r⟩,_⟩:=id I.loc;obtain ⟨sl,hL⟩:=u.any ho I.free fun z=>(hch _ z).2.1 rfl
 exact I.step (ch:=ch) hch (fun b o hL hb hc e n=>u.keep b o e n (fun z=>(List.mem_cons.mp (I.vP b z)).elim hL hb) hc) (fun b o _ _ hc e n=>u.any e n hc) (fun b o hc e n=>u.free b o e n hc) (fun b o hc e=>u.there b o e hc) u.tups u.frzs u.tbls (fun m' hm=>by
  obtain ⟨o',es',ep',ho',r'⟩:=hm;rw [ho] at ho';cases ho';exact ⟨_,es',ep',hL,r'⟩) hok hg
theorem Inv.turned {t':Nat} {it:Addr} (I:Inv X pins σ H s) (k:∀b o,b≠it->s.heap.get? b=some o->h'.get? b=some o) (hn:H it=none) (hL:it≠X.env.locals)
  (h1:it∈X.ex\/X.s₀.heap.objs.size<=it) (h2:∀x c,X.env.cells.lookup x=some c->c≠it) (h3:∀p∈X.pn++pins,p.1≠it):Inv X pins σ H {s with heap:=h',toks:=t'}:=by
 have nit:∀b u,H b=some u->b≠it:=fun b u e z=>by rw [z,hn] at e;cases e
 refine I.step (g':=s.gens) (d':=s.drawn) (ch:=[it]) (fun b hb=>?_) (fun b o _ _ hc e _=>k b o (fun z=>hc (by simp [z])) e) (fun b o _ _ hc e _=>⟨o.slots,k b o (fun z=>hc (by simp [z])) e⟩) (fun _ _ _ _ n=>n)
  (fun b o hc e=>⟨o,k b o (fun z=>hc (by simp [z])) e⟩) (fun _ _ e=>e) (fun _ _ _ e=>e) (fun b ps e=>⟨#[],by rw [e];simp⟩) (fun m hm=>?_) (fun b u e=>?_) I.bare
 ·have e:b=it:=by simpa using hb
  subst e;exact ⟨h1,hL,h2,h3⟩
 ·obtain ⟨o,es,ep,ho,r⟩:=hm;exact ⟨o,es,ep,k _ o (Ne.symm hL) ho,r⟩
 ·refine (I.hok b u e).stay (fun c v hc q=>k c v ?_ q) (fun _ q=>q) fun _ _ q=>q
  rcases hc with z|z
  ·rw [z];exact nit b u e
  ·exact nit c _ z
theorem Inv.tok (I:Inv X pins σ H s) (t:Nat):Inv X pins σ H {s with toks:=t}:=I.un (h':=s.heap) (t':=t) Un.refl I.hok
theorem Inv.kept {t':Nat} (I:Inv X pins σ H s) (k:∀b u,s.heap.get? b=some u->h'.get? b=some u):Inv X pins σ H {s with heap:=h',toks:=t'}:=I.un (Un.kept k) (I.hok.kept k)
theorem Inv.laid {a:Addr} {o:HO} {t':Nat} (I:Inv X pins σ H s) (k:∀b u,s.heap.get? b=some u->h'.get? b=some u) (hp:s.heap.objs.size<=a) (new:h_ X.prog X.w (upd H a o) h' a o) :
  Inv X pins σ (upd H a o) {s with heap:=h',toks:=t'}:=I.un (Un.laid k hp (I.hok.fresh hp)) (I.hok.laid k hp new)
theorem Inv.write {x e:Addr} {o:HO} {t':Nat} (I:Inv X pins σ H s) (mu:Mut (H x)) (he:e=x\/H e=some (.own x)) (k:∀b u,b≠e->s.heap.get? b=some u->h'.get? b=some u) (heo:∃u,h'.get? e=some u)
  (new:h_ X.prog X.w (upd H x o) h' x o):Inv X pins σ (upd H x o) {s with heap:=h',toks:=t'}:=I.un (Un.write mu he k heo) (I.hok.write mu he k heo new)
theorem Inv.weak {σ':List (Option V)} (I:Inv X pins σ H s) (hl:σ'.length=σ.length) (w:∀(i:Nat) v,σ'[i]?=some (some v)->σ[i]?=some (some v)):Inv X pins σ' H s:=
 ⟨I.ok,I.os,I.bare,I.base,let ⟨m,hn,hl'⟩:=I.loc;⟨m,hn,fun i x v e1 e2 e3=>hl' i x v e1 (w i v e2) e3⟩,I.cell,I.free,I.freeC,I.pin,I.hok,hl.trans I.len⟩
theorem Inv.uE {pins':List (Addr×Obj)} (I:Inv X pins σ H s) (h:∀p∈pins',s.heap.get? p.1=some p.2/\H p.1=none/\p.1≠X.env.locals/\p.1∉X.fs/\∀v,p.2.data≠.cell v):Inv X pins' σ H s:=
 ⟨I.ok,I.os,I.bare,I.base,I.loc,I.cell,I.free,I.freeC,fun p hp=>(List.mem_append.mp hp).elim (fun z=>I.pin p (List.mem_append_left _ z)) (h p),I.hok,I.len⟩
theorem vQ {N:List Str} (hN:N.Nodup) {i j:Nat} {x:Str} (a:N[i]?=some x) (b:N[j]?=some x):i=j:=by
 obtain ⟨h1,e1⟩:=List.getElem?_eq_some_iff.mp a;obtain ⟨h2,e2⟩:=List.getElem?_eq_some_iff.mp b;exact (List.getElem_inj hN).mp (e1.trans e2.symm)
theorem A_ {M:Model} {A:Around} {E:Value->Shared->Prop} {i:Nat} {x:Str} {v:V} {u:Value} {Q:Unit->Shared->Prop} (I:Inv X pins σ H s) (hN:X.N.Nodup) (hi:X.N[i]?=some x) (hx:Loc X.env.scope x) (r:RelV v u)
  (h:∀s',Inv X pins (σ.set i (some v)) H s'->(∃a,Heap.SameBut a s.heap s'.heap/\(a=X.env.locals\/X.env.cells.lookup x=some a))->Q () s') (hf:X.fn x=true\/X.env.scope.names.lookup x=some .local:=by first|exact .inl rfl|exact .inr rfl|assumption):wpAny M A (storeName X.env x u) Q E s:=by
 obtain ⟨m,hn,hl⟩:=id I.loc;have hcls:(X.env.scope.kind==.class||(X.env.scope.kind==.module&&X.env.locals != X.env.globals))=false:=by rw [I.ok.kind];rfl
 have hiσ:i<σ.length:=by rw [I.len];exact (List.getElem?_eq_some_iff.mp hi).1
 have cne:=I.cne;have tracked:∀{a:Addr} {h':Heap},(∃o,s.heap.get? a=some o/\H a=none)->Heap.SameBut a s.heap h'->HOk X.prog X.w H h':=fun {a h'} ha hs b ob e=>by
  obtain ⟨_,_,hfree⟩:=ha;refine (I.hok b ob e).stay (fun c w' hc q=>(hs.2 c ?_).trans q) (fun _ q=>q) fun _ _ q=>q
  rintro rfl;rcases hc with rfl|hc
  ·rw [hfree] at e;cases e
  ·rw [hfree] at hc;cases hc
 rcases hx with hk|hk
 ·refine wpAny_storeName_local hk hn (fun h' hn' hs=>?_) hcls;obtain ⟨oL,_,_,hoL,_⟩:=id hn;refine h _ ⟨I.ok,I.os,I.bare,⟨fun b o e n hb hx=>?_,fun b o e n hb hx=>?_,I.base.free,fun b o e hx=>?_,I.base.tups,I.base.frzs,I.base.tbls⟩,⟨_,hn',fun j y v' e1 e2 e3=>?_⟩,fun y c e=>?_,I.free,I.freeC,fun p hp=>?_,tracked ⟨oL,hoL,I.free⟩ hs,by simpa using I.len⟩ ⟨_,hs,.inl rfl⟩
  ·exact (hs.2 b (Nat.ne_of_lt (Nat.lt_of_lt_of_le (Heap.lt_size e) I.ok.above))).trans (I.base.keep b o e n hb hx)
  ·obtain ⟨sl,e1⟩:=I.base.slot b o e n hb hx;exact ⟨sl,(hs.2 b (Nat.ne_of_lt (Nat.lt_of_lt_of_le (Heap.lt_size e) I.ok.above))).trans e1⟩
  ·obtain ⟨o',e1⟩:=I.base.there b o e hx;exact ⟨o',(hs.2 b (Nat.ne_of_lt (Nat.lt_of_lt_of_le (Heap.lt_size e) I.ok.above))).trans e1⟩
  ·by_cases hj:j=i
   ·subst hj;rw [hi] at e1;cases e1;rw [List.getElem?_set_self hiσ] at e2;cases e2;exact ⟨u,r,.inl ⟨hk,by simp⟩⟩
   ·rw [List.getElem?_set_ne (Ne.symm hj)] at e2;obtain ⟨u',r',q⟩:=hl j y v' e1 e2 e3;refine ⟨u',r',?_⟩;rcases q with ⟨k,e⟩|⟨k,c,e,z⟩
    ·refine .inl ⟨k,?_⟩;have:y≠x:=fun e=>hj (vQ hN e1 (e▸hi))
     simp [this,e]
    ·exact .inr ⟨k,c,e,z.sameBut hs (cne y c e)⟩
  ·obtain ⟨w',z⟩:=I.cell y c e;exact ⟨w',z.sameBut hs (cne y c e)⟩
  ·obtain ⟨e,n,ne,nf,d⟩:=I.pin p hp;exact ⟨(hs.2 p.1 ne).trans e,n,ne,nf,d⟩
 ·have hfn:X.fn x=true:=by
   rcases hf with z|z
   ·exact z
   ·rw [z] at hk;cases hk
  obtain ⟨c,hc⟩:=I.ok.has x (.inl hk);obtain ⟨w',z⟩:=I.cell x c hc;refine wpAny_storeName_cell I.ok.kind hk hc z (fun h' hc' hs=>?_);obtain ⟨oc,hoc,hocd⟩:=id z;refine h {s with heap:=h'} ⟨I.ok,I.os,I.bare,⟨fun b o e n hb hx=>?_,fun b o e n hb hx=>?_,I.base.free,fun b o e hx=>?_,I.base.tups,I.base.frzs,I.base.tbls⟩,⟨m,hn.sameBut hs (Ne.symm (cne x c hc)),fun j y v' e1 e2 e3=>?_⟩,fun y c' e=>?_,I.free,I.freeC,fun p hp=>?_,tracked ⟨oc,hoc,I.freeC x c hc⟩ hs,by simpa using I.len⟩ ⟨c,hs,.inr hc⟩
  ·exact (hs.2 b (Nat.ne_of_lt (Nat.lt_of_lt_of_le (Heap.lt_size e) (I.ok.cab x c hfn hc)))).trans (I.base.keep b o e n hb hx)
  ·obtain ⟨sl,e1⟩:=I.base.slot b o e n hb hx;exact ⟨sl,(hs.2 b (Nat.ne_of_lt (Nat.lt_of_lt_of_le (Heap.lt_size e) (I.ok.cab x c hfn hc)))).trans e1⟩
  ·obtain ⟨o',e1⟩:=I.base.there b o e hx;exact ⟨o',(hs.2 b (Nat.ne_of_lt (Nat.lt_of_lt_of_le (Heap.lt_size e) (I.ok.cab x c hfn hc)))).trans e1⟩
  ·by_cases hj:j=i
   ·subst hj;rw [hi] at e1;cases e1;rw [List.getElem?_set_self hiσ] at e2;cases e2;exact ⟨u,r,.inr ⟨.inl hk,c,hc,hc'⟩⟩
   ·rw [List.getElem?_set_ne (Ne.symm hj)] at e2;obtain ⟨u',r',q⟩:=hl j y v' e1 e2 e3;refine ⟨u',r',?_⟩;rcases q with q|⟨k,c',e,z'⟩
    ·exact .inl q
    ·refine .inr ⟨k,c',e,z'.sameBut hs ?_⟩;rintro rfl;exact hj (vQ hN e1 (I.ok.inj _ _ _ e hc▸hi))
  ·by_cases hcc:c'=c
   ·subst hcc;exact ⟨_,hc'⟩
   ·obtain ⟨w2,z2⟩:=I.cell y c' e;exact ⟨w2,z2.sameBut hs hcc⟩
  ·obtain ⟨e,n,ne,nf,d⟩:=I.pin p hp;refine ⟨(hs.2 p.1 ?_).trans e,n,ne,nf,d⟩;intro q;rw [q,hoc] at e;have q':oc=p.2:=Option.some.inj e;exact d w' (by rw [<-q'];exact hocd)
theorem vR {M:Model} {A:Around} {E:Value->Shared->Prop} {i:Nat} {x:Str} {v:V} {u:Value} {Q:Unit->Shared->Prop} (I:Inv X pins σ H s) (hN:X.N.Nodup) (hi:X.N[i]?=some x) (hx:Loc X.env.scope x) (r:RelV v u)
  (h:∀s',Inv X pins (σ.set i (some v)) H s'->Q () s') (hf:X.fn x=true\/X.env.scope.names.lookup x=some .local:=by first|exact .inl rfl|exact .inr rfl|assumption):wpAny M A (storeName X.env x u) Q E s:=
 A_ I hN hi hx r (fun s' I' _=>h s' I') hf
end
abbrev XK:=Value->Option Addr->Hp->Prop
abbrev St:=List (Option V)
abbrev VK:=V->Hp->Prop
abbrev TE:=St->Hp->VK->Prop
abbrev TT:=St->Hp->(Bool->Hp->Prop)->Prop
abbrev TA:=St->Hp->(List V->Hp->Prop)->Prop
structure Ends where
 nx:St->Hp->Prop
 rt:VK
 bk:St->Hp->Prop:=fun _ _=>False
 ct:St->Hp->Prop:=fun _ _=>False
abbrev TS:=Ends->St->Hp->Prop
noncomputable def EP (X:Cx) (pins:List (Addr×Obj)) (σ:St) (Q:VK) (u:Value) (s':Shared):Prop:=∃v H',Inv X pins σ H' s'/\RelV v u/\Q v H'
noncomputable def TP (X:Cx) (pins:List (Addr×Obj)) (σ:St) (Q:Bool->Hp->Prop) (b:Bool) (s':Shared):Prop:=∃H',Inv X pins σ H' s'/\Q b H'
noncomputable def AP (X:Cx) (pins:List (Addr×Obj)) (σ:St) (Q:List V->Hp->Prop) (us:List Value) (s':Shared):Prop:=∃vs H',Inv X pins σ H' s'/\Vals vs us/\Q vs H'
noncomputable def SP (X:Cx) (pins:List (Addr×Obj)) (D:Ends) (f:Flow) (s':Shared):Prop:=
 match f with
 | .next=>∃σ' H',Inv X pins σ' H' s'/\D.nx σ' H'
 | .brk=>∃σ' H',Inv X pins σ' H' s'/\D.bk σ' H'
 | .cont=>∃σ' H',Inv X pins σ' H' s'/\D.ct σ' H'
 | .ret u=>∃v σ' H',Inv X pins σ' H' s'/\RelV v u/\D.rt v H'
noncomputable def PE (X:Cx) (e:Expr) (t:TE):Prop:=
 ∀(pins:List (Addr×Obj)) (s:Shared) (σ:St) (H:Hp) (Q:VK),Inv X pins σ H s->t σ H Q->wpAny (model X.prog X.w) X.A (eval e X.env) (EP X pins σ Q) X.xe s
noncomputable def PT (X:Cx) (e:Expr) (t:TT):Prop:=
 ∀(pins:List (Addr×Obj)) (s:Shared) (σ:St) (H:Hp) (Q:Bool->Hp->Prop),Inv X pins σ H s->t σ H Q->wpAny (model X.prog X.w) X.A (isTrue e X.env (eval e X.env)) (TP X pins σ Q) X.xe s
noncomputable def PW (X:Cx) (e:Expr) (t:TT):Prop:=
 ∀(whole:Sem Value) (pins:List (Addr×Obj)) (s:Shared) (σ:St) (H:Hp) (Q:Bool->Hp->Prop),Inv X pins σ H s->t σ H Q->wpAny (model X.prog X.w) X.A (isTrue e X.env whole) (TP X pins σ Q) X.xe s
theorem PW.pt {X:Cx} {e:Expr} {t:TT} (h:PW X e t):PT X e t:=h _
noncomputable def PA (X:Cx) (es:List Expr) (t:TA):Prop:=
 ∀(pos:Pos) (pins:List (Addr×Obj)) (s:Shared) (σ:St) (H:Hp) (Q:List V->Hp->Prop),Inv X pins σ H s->t σ H Q->wpAny (model X.prog X.w) X.A (spliced (backTo pos (starEach es X.env))) (AP X pins σ Q) X.xe s
noncomputable def PS (X:Cx) (st:Stmt) (t:TS):Prop:=
 ∀(pins:List (Addr×Obj)) (s:Shared) (σ:St) (H:Hp) (D:Ends),Inv X pins σ H s->t D σ H->wpAny (model X.prog X.w) X.A (exec st X.env) (SP X pins D) X.xe s
noncomputable def PSs (X:Cx) (st:List Stmt) (t:TS):Prop:=
 ∀(pins:List (Addr×Obj)) (s:Shared) (σ:St) (H:Hp) (D:Ends),Inv X pins σ H s->t D σ H->wpAny (model X.prog X.w) X.A (execs st X.env) (SP X pins D) X.xe s
theorem thn {α:Type} {t:Sem α} {Q Q':α->Shared->Prop} {M:Model} {A:Around} {E:Value->Shared->Prop} {s:Shared} (h:wpAny M A t Q E s) (hQ:∀a s,Q a s->Q' a s):wpAny M A t Q' E s:=wpAny_mono h hQ fun _ _ x=>x
end L2
namespace L2
open PySem PySem.Spec PyProof.Rows
section
variable {X:Cx}
def aBr (i:Nat):TE:=fun σ H Q=>∃v,σ[i]?=some (some v)/\Q v H
def tC (v:V):TE:=fun _ H Q=>Q v H
theorem gB {i:Nat} {x:Str} {pos:Pos} (hN:X.N[i]?=some x) (hv:Vis X.env.scope x) (hd:nDb x:=by decide) (hcd:nCd x:=by decide):PE X (.Name x pos) (aBr i):=by
 intro pins s σ H Q I h;obtain ⟨v,e,h⟩:=h;obtain ⟨m,hn,hl⟩:=I.loc;obtain ⟨u,r,l⟩:=hl i x v hN e hv;have fin:EP X pins σ Q u s:=⟨v,H,I,r,h⟩
 rcases l with ⟨hk,hm⟩|⟨hk,c,hc,hcell⟩
 ·exact wpAny_Name (wpAny_loadName_local I.ok.kind hk hn hm fin) hd
 ·rcases hk with hk|hk
  ·exact wpAny_Name (wpAny_loadName_cell I.ok.kind hk hc hcell fin) hd
  ·exact wpAny_Name (wpAny_loadName_free I.ok.kind hk hc hcell fin hcd) hd
theorem V_ {i j pos}:PE X (.Constant (.int i) j pos) (tC (.int i)):=fun _ _ _ H _ I h=>wpAny_Constant_int ⟨.int i,H,I.tok _,⟨_,rfl⟩,h⟩
theorem aAo {b j pos}:PE X (.Constant (.bool b) j pos) (tC (.bl b)):=fun _ _ _ H _ I h=>Constant_bool ⟨.bl b,H,I,rfl,h⟩
theorem WD {x j pos}:PE X (.Constant (.str x) j pos) (tC (.str x)):=fun _ _ _ H _ I h=>Calls.Constant_str ⟨.str x,H,I.tok _,⟨_,rfl⟩,h⟩
def Gl (X:Cx) (x:Str):Prop:=X.env.kindOf x=some .globalImplicit
theorem RG {E:Value->Shared->Prop} {pins:List (Addr×Obj)} {s:Shared} {σ:St} {H:Hp} {x:Str} {u:Value} {pos:Pos} {Q:Value->Shared->Prop} (I:Inv X pins σ H s) (hg:Gl X x) (hm:X.mg x=some u) (h:Q u s)
  (hd:nDb x:=by decide):wpAny (model X.prog X.w) X.A (eval (.Name x pos) X.env) Q E s:=
 Calls.Name_function_global I.ok.kind hg (Calls.loadGlobal_global (by rw [I.ok.glob];exact I.mod.glob.keeps I.bk) hm h) hd
theorem nM {E:Value->Shared->Prop} {pins:List (Addr×Obj)} {s:Shared} {σ:St} {H:Hp} {x:Str} {u:Value} {pos:Pos} {Q:Value->Shared->Prop} (I:Inv X pins σ H s) (hg:Gl X x) (hm:X.mg x=none) (hv:bootBuiltins x=some u) (h:Q u s)
  (hn:x ≠ "__name__":=by decide) (hd:nDb x:=by decide):wpAny (model X.prog X.w) X.A (eval (.Name x pos) X.env) Q E s:=by
 obtain ⟨mb,h1,h2⟩:=I.mod.blt;exact Calls.Name_function_global I.ok.kind hg (Calls.loadGlobal_builtin (by rw [I.ok.glob];exact I.mod.glob.keeps I.bk) hm (by rw [I.ok.blt];exact h1.keeps I.bk) ((h2 x hn).trans hv) h) hd
theorem RJ {x:Str} {v:V} {u:Value} {pos:Pos} (hg:Gl X x) (hm:X.mg x=none) (hv:bootBuiltins x=some u) (r:RelV v u) (hn:x ≠ "__name__":=by decide) (hd:nDb x:=by decide):PE X (.Name x pos) (tC v):=
 fun _ _ _ H _ I h=>nM I hg hm hv ⟨v,H,I,r,h⟩ hn hd
variable {a b:Expr} {ta tb:TE} {pos:Pos}
variable {tA tB':TT} {rest:List Expr}
noncomputable def aC1 (t u:TT):TT:=fun σ H Q=>t σ H fun c H1=>if c=true then u σ H1 Q else Q false H1
noncomputable def tOr (t u:TT):TT:=fun σ H Q=>t σ H fun c H1=>if c=true then Q true H1 else u σ H1 Q
def aC2 (t:TT):TT:=fun σ H Q=>t σ H fun c H1=>Q (!c) H1
theorem BJ (ha:PT X a tA):PW X (.BoolOp .And [a] pos) tA:=by
 intro wh pins s σ H Q I h;refine isTrue_and (thn (ha pins s σ H Q I h) fun c s1 e=>?_);cases c with
 | true=>exact isTrue_and_nil e
 | false=>exact e
theorem WF (ha:PT X a tA):PW X (.BoolOp .Or [a] pos) tA:=by
 intro wh pins s σ H Q I h;refine isTrue_or (thn (ha pins s σ H Q I h) fun c s1 e=>?_);cases c with
 | false=>exact isTrue_or_nil e
 | true=>exact e
theorem O_ (ha:PT X a tA) (hb:PW X (.BoolOp .And (b::rest) pos) tB'):PW X (.BoolOp .And (a::b::rest) pos) (aC1 tA tB'):=by
 intro wh pins s σ H Q I h;refine isTrue_and (thn (ha pins s σ H _ I h) fun c s1 ⟨H1,I1,q1⟩=>?_);cases c with
 | true=>exact hb wh pins s1 σ H1 Q I1 q1
 | false=>exact ⟨H1,I1,q1⟩
theorem aAp (ha:PT X a tA) (hb:PW X (.BoolOp .Or (b::rest) pos) tB'):PW X (.BoolOp .Or (a::b::rest) pos) (tOr tA tB'):=by
 intro wh pins s σ H Q I h;refine isTrue_or (thn (ha pins s σ H _ I h) fun c s1 ⟨H1,I1,q1⟩=>?_);cases c with
 | true=>exact ⟨H1,I1,q1⟩
 | false=>exact hb wh pins s1 σ H1 Q I1 q1
theorem WK (ha:PT X a tA):PT X (.UnaryOp .Not a pos) (aC2 tA):=by
 intro pins s σ H Q I h;exact isTrue_not (ha pins s σ H (fun c H1=>Q (!c) H1) I h)
end
end L2
namespace L2
open PySem PySem.Spec PyProof.Rows
noncomputable def SqL (K:PySem.W.Frag) (H:Hp) (a:Addr) (xs:List V):Prop:=
 Rd H a (.lst xs)\/
  ∃(o:Obj) (its:Array Value) (n:Nat),K.lookup a=some o/\o.cls=.type "list"/\o.dict=none/\o.data=.seq its n/\its.size<=sizeLine/\Vals xs its.toList
noncomputable def SqT (K:PySem.W.Frag) (H:Hp) (a:Addr) (xs:List V):Prop:=
 Rd H a (.tup xs)\/
  ∃(o:Obj) (its:Array Value) (n:Nat),K.lookup a=some o/\o.cls=.type "tuple"/\o.data=.seq its n/\its.size<=sizeLine/\Vals xs its.toList
noncomputable def aC3:Value->Option V
 | .none=>some .non
 | .bool b=>some (.bl b)
 | .int i _=>some (.int i)
 | .str x _=>some (.str x)
 | .bytes b _=>some (.byt b)
 | .float b _=>some (.flt b)
 | .ref a=>some (.ref a)
 | .type n=>some (.ty n)
 | _=>none
theorem RelV.abs {x:V} {u:Value} (r:RelV x u):aC3 u=some x:=by
 cases x with
 | non=>cases r;rfl
 | bl _=>cases r;rfl
 | int _=>obtain ⟨t,rfl⟩:=r;rfl
 | str _=>obtain ⟨t,rfl⟩:=r;rfl
 | byt _=>obtain ⟨t,rfl⟩:=r;rfl
 | flt _=>obtain ⟨t,rfl⟩:=r;rfl
 | ref _=>cases r;rfl
 | ty _=>cases r;rfl
theorem RelV.inj {x y:V} {u:Value} (r:RelV x u) (q:RelV y u):x=y:=Option.some.inj (r.abs.symm.trans q.abs)
theorem Vals.inj:∀{xs ys:List V} {us:List Value},Vals xs us->Vals ys us->xs=ys
 | _,_,_,.nil,.nil=>rfl
 | _,_,_,.cons r t,.cons r' t'=>by rw [r.inj r',Vals.inj t t']
section
variable {X:Cx} {pins:List (Addr×Obj)} {σ:St} {H:Hp} {s:Shared} {a:Addr} {xs ys:List V}
theorem SqL.of {K:PySem.W.Frag} (h:H a=some (.lst xs)):SqL K H a xs:=.inl (.inl h)
theorem SqT.of {K:PySem.W.Frag} (h:H a=some (.tup xs)):SqT K H a xs:=.inl (.inl h)
theorem Inv.list (I:Inv X pins σ H s) (h:SqL X.K H a xs):∃its:List Value,Vals xs its/\PlainL s.heap a its.toArray/\xs.length<=sizeLine:=by
 rcases h with h|⟨o,its,n,hk,hc,hd,hs,hz,r⟩
 ·obtain ⟨z,its,n,r,e⟩:=h.ok I.hok;exact ⟨its,r,⟨_,n,e,rfl,rfl,rfl⟩,z⟩
 ·refine ⟨its.toList,r,⟨o,n,I.kIn a o hk,hc,hd,by simpa using hs⟩,?_⟩;have e:=r.length;simp only [Array.length_toList] at e;lia
theorem Inv.tuple (I:Inv X pins σ H s) (h:SqT X.K H a xs):∃its:List Value,Vals xs its/\IsTup s.heap a its.toArray/\xs.length<=sizeLine:=by
 rcases h with h|⟨o,its,n,hk,hc,hs,hz,r⟩
 ·obtain ⟨z,its,r,p⟩:=h.ok I.hok;exact ⟨its,r,p.tup,z⟩
 ·refine ⟨its.toList,r,⟨o,I.kIn a o hk,hc,n,by simpa using hs⟩,?_⟩;have e:=r.length;simp only [Array.length_toList] at e;lia
theorem Inv.KY (I:Inv X pins σ H s) (h:SqL X.K H a xs) (h':SqL X.K H a ys):xs=ys:=by
 obtain ⟨its,r,⟨o,n,e,_,_,d⟩,_⟩:=I.list h;obtain ⟨its',r',⟨o',n',e',_,_,d'⟩,_⟩:=I.list h';rw [e] at e';cases e';rw [d] at d';injection d' with d1 _
 have:its=its':=by simpa using congrArg Array.toList d1
 subst this;exact r.inj r'
theorem Inv.BK (I:Inv X pins σ H s) (h:SqT X.K H a xs) (h':SqT X.K H a ys):xs=ys:=by
 obtain ⟨its,r,⟨o,e,_,n,d⟩,_⟩:=I.tuple h;obtain ⟨its',r',⟨o',e',_,n',d'⟩,_⟩:=I.tuple h';rw [e] at e';cases e';rw [d] at d';injection d' with d1 _
 have:its=its':=by simpa using congrArg Array.toList d1
 subst this;exact r.inj r'
end
abbrev Cx.wish (X:Cx) (E:Value->Shared->Prop):Cx:={X with xe:=E}
abbrev Cx.nox (X:Cx):Cx:=X.wish fun _ _=>False
theorem Cx.Ok.wish {X:Cx} (ok:X.Ok) (E:Value->Shared->Prop):(X.wish E).Ok:=
 ⟨ok.mod,ok.kind,ok.glob,ok.blt,ok.above,ok.inj,ok.has,ok.cab,ok.hd,ok.frames,ok.stk,ok.exf,ok.bs,ok.bsz,ok.noex,ok.exfs,ok.z9,ok.frf⟩
theorem Cx.Ok.mX {X:Cx} {E:Value->Shared->Prop} (ok:(X.wish E).Ok):X.Ok:=
 ⟨ok.mod,ok.kind,ok.glob,ok.blt,ok.above,ok.inj,ok.has,ok.cab,ok.hd,ok.frames,ok.stk,ok.exf,ok.bs,ok.bsz,ok.noex,ok.exfs,ok.z9,ok.frf⟩
section
variable {X:Cx} {pins:List (Addr×Obj)} {σ:St} {H:Hp} {s:Shared} {E:Value->Shared->Prop}
theorem Inv.wish (I:Inv X pins σ H s) (E:Value->Shared->Prop):Inv (X.wish E) pins σ H s:=⟨I.ok.wish E,I.os,I.bare,I.base,I.loc,I.cell,I.free,I.freeC,I.pin,I.hok,I.len⟩
theorem Inv.mX (I:Inv (X.wish E) pins σ H s):Inv X pins σ H s:=⟨I.ok.mX,I.os,I.bare,I.base,I.loc,I.cell,I.free,I.freeC,I.pin,I.hok,I.len⟩
theorem SP.mX {D:Ends} {f:Flow} {s':Shared} (h:SP (X.wish E) pins D f s'):SP X pins D f s':=by
 cases f with
 | next=>obtain ⟨σ',H',I,q⟩:=h;exact ⟨σ',H',I.mX,q⟩
 | brk=>obtain ⟨σ',H',I,q⟩:=h;exact ⟨σ',H',I.mX,q⟩
 | cont=>obtain ⟨σ',H',I,q⟩:=h;exact ⟨σ',H',I.mX,q⟩
 | ret u=>obtain ⟨v,σ',H',I,r,q⟩:=h;exact ⟨v,σ',H',I.mX,r,q⟩
theorem PSs.nox {st:List Stmt} {t:TS} (h:PSs X.nox st t):PSs X st t:=fun pins s σ H D I hw=>
 wpAny_mono (h pins s σ H D (I.wish _) hw) (fun _ _ q=>q.mX) fun _ _ z=>False.elim z
end
section
variable {X:Cx} {st:Stmt} {rest:List Stmt} {t u:TS} {e:Expr} {te:TE} {pos:Pos}
def aAq:TS:=fun D σ H=>D.nx σ H
def aBs (t u:TS):TS:=fun D σ H=>t {D with nx:=u D} σ H
theorem RK:PSs X [] aAq:=fun _ _ σ H _ I h=>wpAny_execs_nil ⟨σ,H,I,h⟩
theorem KZ (h1:PS X st t) (h2:PSs X rest u):PSs X (st::rest) (aBs t u):=by
 intro pins s σ H D I h;refine wpAny_execs_cons (thn (h1 pins s σ H {D with nx:=u D} I h) fun f s1 q=>?_);cases f with
 | next=>
  obtain ⟨σ',H',I',q⟩:=q;exact h2 pins s1 σ' H' D I' q
 | ret v=>exact q
 | brk=>exact q
 | cont=>exact q
theorem RL (h1:PS X st t):PSs X [st] t:=by
 intro pins s σ H D I h;refine wpAny_execs_cons (thn (h1 pins s σ H D I h) fun f s1 q=>?_);cases f with
 | next=>exact wpAny_execs_nil q
 | ret v=>exact q
 | brk=>exact q
 | cont=>exact q
theorem Inv.quiet {pins:List (Addr×Obj)} {σ:St} {H:Hp} {s:Shared} (I:Inv X pins σ H s):interactive X.env=false:=by simp [interactive,I.ok.kind]
def aAr (te:TE):TS:=fun D σ H=>te σ H fun _ H1=>D.nx σ H1
theorem BL (he:PE X e te) (hs:swapsWith e none pos.line X.env=pure false:=by rfl):PS X (.Expr e pos) (aAr te):=by
 intro pins s σ H D I h;exact wpAny_Expr_any (thn (he pins s σ H _ I h) fun v s1 ⟨x,H1,I1,r1,q1⟩=>⟨σ,H1,I1,q1⟩) I.quiet hs
def aC4 (te:TE):TS:=fun D σ H=>te σ H D.rt
theorem qT (he:PE X e te):PS X (.Return (some e) pos) (aC4 te):=by
 intro pins s σ H D I h;exact wpAny_Return_some (thn (he pins s σ H _ I h) fun v s1 ⟨x,H1,I1,r1,q1⟩=>⟨x,σ,H1,I1,r1,q1⟩)
noncomputable def aC5 (c:TT) (t u:TS):TS:=fun D σ H=>c σ H fun b H1=>if b=true then t D σ H1 else u D σ H1
theorem WL {c:Expr} {a b:List Stmt} {tc:TT} (hc:PT X c tc) (ha:PSs X a t) (hb:PSs X b u):PS X (.If c a b pos) (aC5 tc t u):=by
 intro pins s σ H D I h;refine wpAny_If (thn (hc pins s σ H _ I h) fun d s1 ⟨H1,I1,q1⟩=>?_);cases d with
 | true=>exact ha pins s1 σ H1 D I1 q1
 | false=>exact hb pins s1 σ H1 D I1 q1
end
abbrev TG:=V->St->Hp->(St->Hp->Prop)->Prop
abbrev TGs:=List V->St->Hp->(St->Hp->Prop)->Prop
noncomputable def PG (X:Cx) (target:Expr) (t:TG):Prop:=
 ∀(pins:List (Addr×Obj)) (s:Shared) (σ:St) (H:Hp) (v:V) (u:Value) (Q:St->Hp->Prop),Inv X pins σ H s->RelV v u->t v σ H Q->
  wpAny (model X.prog X.w) X.A (assign target X.env u) (fun _ s'=>∃σ' H',Inv X pins σ' H' s'/\Q σ' H') X.xe s
noncomputable def PGs (X:Cx) (ts:List Expr) (t:TGs):Prop:=
 ∀(pins:List (Addr×Obj)) (s:Shared) (σ:St) (H:Hp) (vs:List V) (us:List Value) (Q:St->Hp->Prop),Inv X pins σ H s->Vals vs us->t vs σ H Q->
  wpAny (model X.prog X.w) X.A (assignInOrder ((assignEach ts X.env).map (·.2)) us) (fun _ s'=>∃σ' H',Inv X pins σ' H' s'/\Q σ' H') X.xe s
abbrev aC6:=V->V->V->Hp->(Hp->Prop)->Prop
noncomputable def aC7 (X:Cx) (t:aC6):Prop:=
 ∀(pins:List (Addr×Obj)) (s:Shared) (σ:St) (H:Hp) (o i v:V) (ov iv u:Value) (Q:Hp->Prop),Inv X pins σ H s->RelV o ov->RelV i iv->RelV v u->t o i v H Q->
  wpAny (model X.prog X.w) X.A (setItem ov iv u) (fun _ s'=>∃H',Inv X pins σ H' s'/\Q H') X.xe s
section
variable {X:Cx} {pos:Pos}
def nO (i:Nat):TG:=fun v σ H Q=>Q (σ.set i (some v)) H
theorem bF {i:Nat} {x:Str} (hN:X.N.Nodup) (hi:X.N[i]?=some x) (hx:Loc X.env.scope x) (hf:X.fn x=true\/X.env.scope.names.lookup x=some .local:=by first|exact .inl rfl|exact .inr rfl|assumption):PG X (.Name x pos) (nO i):=by
 intro pins s σ H v u Q I r h;exact wpAny_assign_Name (vR I hN hi hx r (fun s' I'=>⟨_,H,I',h⟩) hf)
def aBt:TGs:=fun vs σ H Q=>vs=[]/\Q σ H
noncomputable def WM (t:TG) (u:TGs):TGs:=fun vs σ H Q=>∃v r,vs=v::r/\t v σ H fun σ' H'=>u r σ' H' Q
theorem uF:PGs X [] aBt:=by
 intro pins s σ H vs us Q I r h;obtain ⟨e,h⟩:=h;subst e;cases r;exact assignInOrder_nil ⟨σ,H,I,h⟩
theorem d8 {e:Expr} {es:List Expr} {t:TG} {u:TGs} (h1:PG X e t) (h2:PGs X es u)
  (hs:(assignEach (e::es) X.env).map (·.2)=assign e X.env::(assignEach es X.env).map (·.2):=by rfl):PGs X (e::es) (WM t u):=by
 intro pins s σ H vs us Q I r h;obtain ⟨v,vr,e1,h⟩:=h;subst e1;cases r with
 | cons r rr=>
  rw [hs];refine assignInOrder_cons (thn (h1 pins s σ H _ _ _ I r h) fun _ s1 ⟨σ1,H1,I1,q1⟩=>?_);exact h2 pins s1 σ1 H1 _ _ Q I1 rr q1
noncomputable def aBu (K:PySem.W.Frag) (n:Nat) (t:TGs):TG:=fun v σ H Q=>∃a xs,v=.ref a/\SqT K H a xs/\xs.length=n/\t xs σ H Q
theorem PB {es:List Expr} {k:Nat} {t:TGs} {n:Nat} (hc:X.calm=true) (h:PGs X es t)
  (hn:(assignEach es X.env).length=n:=by rfl) (hst:(assignEach es X.env).findIdx? (·.1)=none:=by rfl):PG X (.Tuple es k pos) (aBu X.K n t):=by
 intro pins s σ H v u Q I r hw;obtain ⟨a,xs,e1,hq,hl,hw⟩:=hw;subst e1;cases r;obtain ⟨its,rv,ht,hz⟩:=I.tuple hq;refine assign_Tuple_tuple (I.ok.hd hc) ht (by simp [hn,<-hl,rv.length]) hst fun h' hx=>?_
 have I1:Inv X pins σ H {s with heap:=h'}:=I.kept (t':=s.toks) fun b o e=>hx b o (Nat.ne_of_lt (Heap.lt_size e)) e
 exact h pins _ σ H xs _ Q I1 (by simpa using rv) hw
def RM (te:TE) (g:TG):TS:=fun D σ H=>te σ H fun x H1=>g x σ H1 D.nx
theorem WN {tg e:Expr} {te:TE} {g:TG} (he:PE X e te) (hg:PG X tg g) (hs:swapsWithSole [tg] e pos.line X.env=pure false:=by rfl) (hw:swappedStores [tg] e X.env=pure none:=by rfl)
  (h1:(assignEach [tg] X.env).map (·.2)=[assign tg X.env]:=by rfl):PS X (.Assign [tg] e pos) (RM te g):=by
 intro pins s σ H D I h;refine wpAny_Assign_stores (thn (he pins s σ H _ I h) fun v s1 ⟨x,H1,I1,r1,q1⟩=>?_) hs hw;rw [h1];exact thn (hg pins s1 σ H1 x v _ I1 r1 q1) fun _ s2 q=>q
theorem vU {i:Nat} {x:Str} {e:Expr} {te:TE} {pos':Pos} (hN:X.N.Nodup) (hi:X.N[i]?=some x) (hx:Loc X.env.scope x) (he:PE X e te) (hs:swapsWith e (some (.Name x pos')) pos.line X.env=pure false:=by rfl) (hf:X.fn x=true\/X.env.scope.names.lookup x=some .local:=by first|exact .inl rfl|exact .inr rfl|assumption) :
  PS X (.Assign [.Name x pos'] e pos) (RM te (nO i)):=by
 intro pins s σ H D I h;refine wpAny_Assign_Name (thn (he pins s σ H _ I h) fun v s1 ⟨y,H1,I1,r1,q1⟩=>?_) hs;exact vR I1 hN hi hx r1 (fun s2 I2=>⟨_,H1,I2,q1⟩) hf
end
section
variable {X:Cx} {pos:Pos}
noncomputable def WP (c:TT) (tb:TS):TS:=fun D σ H=>∃W:Nat->St->Hp->Prop,(∃m,W m σ H)/\∀m σ H,W m σ H->
 c σ H fun b H1=>if b=true then ∃N:St->Hp->Prop,(∀σ' H',N σ' H'->∃m',m'<m/\W m' σ' H')/\tb {D with nx:=N,ct:=N,bk:=D.nx} σ H1 else D.nx σ H1
theorem K1 {c:Expr} {body:List Stmt} {tc:TT} {tb:TS} (hp:PassesOwn (model X.prog X.w) X.A X.env X.xe) (hc:PT X c tc) (hb:PSs X body tb):PS X (.While c body [] pos) (WP tc tb):=by
 intro pins s σ H D I h;obtain ⟨W,⟨m0,w0⟩,turn⟩:=h;refine wpAny_While (codeAny_whileLoop (fun n s'=>∃σ' H',Inv X pins σ' H' s'/\W n σ' H') ?_ m0 ⟨σ,H,I,w0⟩);rintro n s1 ⟨σ1,H1,I1,w1⟩;refine wpAny_passesOwn hp (thn (hc pins s1 σ1 H1 _ I1 (turn n σ1 H1 w1)) fun b s2 ⟨H2,I2,q2⟩=>?_);cases b with
 | true=>
  obtain ⟨N,hN,q2⟩:=q2;rw [if_pos rfl];refine wpAny_passesOwn hp (thn (hb pins s2 σ1 H2 _ I2 q2) fun f s3 q3=>?_);cases f with
  | next=>
   obtain ⟨σ3,H3,I3,n3⟩:=q3;obtain ⟨m',hm,w3⟩:=hN σ3 H3 n3;exact ⟨m',hm,σ3,H3,I3,w3⟩
  | cont=>
   obtain ⟨σ3,H3,I3,n3⟩:=q3;obtain ⟨m',hm,w3⟩:=hN σ3 H3 n3;exact ⟨m',hm,σ3,H3,I3,w3⟩
  | brk=>exact q3
  | ret v=>exact q3
 | false=>
  rw [if_neg Bool.false_ne_true];exact wpAny_execs_nil ⟨σ1,H2,I2,q2⟩
end
structure It where
 go:Nat->Hp->Prop
 yld:Nat->Hp->V->Hp->Prop
 stop:Nat->Hp->Prop
noncomputable def BP (X:Cx) (pins:List (Addr×Obj)) (H:Hp) (b:Addr):Prop:=
 H b=none/\b≠X.env.locals/\b∉X.fs/\(b∈X.ex\/X.s₀.heap.objs.size<=b)/\(∀x c,X.env.cells.lookup x=some c->c≠b)/\∀p∈X.pn++pins,p.1≠b
theorem Inv.aAb {X:Cx} {pins:List (Addr×Obj)} {σ:St} {H H':Hp} {s:Shared} {b:Addr} (I:Inv X pins σ H s) (hb:s.heap.objs.size<=b) (hn:H' b=none):BP X pins H' b:=by
 refine ⟨hn,Nat.ne_of_gt (Nat.lt_of_lt_of_le I.lt hb),I.aBq hb,.inr (Nat.le_trans I.sz hb),fun x c e z=>?_,fun p hp z=>?_⟩
 ·obtain ⟨v,q⟩:=I.cell x c e;exact absurd (Nat.lt_of_lt_of_le q.lt (by rw [z];exact hb)) (Nat.lt_irrefl _)
 ·exact absurd (Nat.lt_of_lt_of_le (Heap.lt_size (I.pin p hp).1) (by rw [z];exact hb)) (Nat.lt_irrefl _)
structure Turn (P:Program) (w:World) (K:PySem.W.Frag) (tg:Expr) (J:It) (fp:List Addr) (it:Addr) (tn:Nat->Heap->Prop):Prop where
 mem:it∈fp
 obj:∀i h,tn i h->∀b∈fp,∃o,h.get? b=some o/\∀v,o.data≠.cell v
 keep:∀i h h',tn i h->(∀b∈fp,∀o,h.get? b=some o->h'.get? b=some o)->tn i h'
 item:∀(X:Cx),X.prog=P->X.w=w->X.K=K->X.calm=true->∀(i:Nat) (pins:List (Addr×Obj)) (s:Shared) (σ:St) (H:Hp) (E:Value->Shared->Prop),Inv X pins σ H s->(∀b∈fp,BP X pins H b)->tn i s.heap->J.go i H->
  wpAny (model P w) X.A (pyNext (.ref it)) (fun r s1=>∃u,r=some u/\
   wpAny (model P w) X.A (letOwnedTupleGo tg (.ref it) u) (fun _ s2=>∃x H',Inv X pins σ H' s2/\RelV x u/\J.yld i H x H'/\tn (i+1) s2.heap/\∀b∈fp,H' b=none) E s1) E s
 done:∀(X:Cx),X.prog=P->X.w=w->X.K=K->X.calm=true->∀(i:Nat) (pins:List (Addr×Obj)) (s:Shared) (σ:St) (H:Hp) (E:Value->Shared->Prop),Inv X pins σ H s->(∀b∈fp,BP X pins H b)->tn i s.heap->J.stop i H->
  wpAny (model P w) X.A (pyNext (.ref it)) (fun r s1=>r=none/\Inv X pins σ H s1) E s
 self:∀(A:Around) (i:Nat) (s:Shared) (Q:Value->Shared->Prop) (E:Value->Shared->Prop),tn i s.heap->Q (.ref it) s->wpAny (model P w) A (pyIter (.ref it)) Q E s
abbrev TI:=St->Hp->(It->Hp->Prop)->Prop
noncomputable def PIE (X:Cx) (pins:List (Addr×Obj)) (σ:St) (tg:Expr) (R:It->Hp->Prop) (itv:Value) (s2:Shared):Prop:=
 ∃(it:Addr) (fp:List Addr) (tn:Nat->Heap->Prop) (J:It) (H':Hp),itv=.ref it/\Inv X pins σ H' s2/\Turn X.prog X.w X.K tg J fp it tn/\tn 0 s2.heap/\(∀b∈fp,BP X pins H' b)/\R J H'
noncomputable def PI (X:Cx) (tg iter:Expr) (wi:TI):Prop:=
 ∀(pins:List (Addr×Obj)) (s:Shared) (σ:St) (H:Hp) (R:It->Hp->Prop),Inv X pins σ H s->wi σ H R->
  wpAny (model X.prog X.w) X.A (eval iter X.env) (fun v s1=>wpAny (model X.prog X.w) X.A (pyIter v) (PIE X pins σ tg R) X.xe s1) X.xe s
theorem K3 {M:Model} {A:Around} {E:Value -> Shared -> Prop} {s:Shared} {tg:Expr} {it:Addr} {u:Value} {o:Obj} {n:String} {vs:Array Value} {Q:Unit -> Shared -> Prop} (ho:s.heap.get? it=some o) (hc:o.cls=.type n) (hd:o.data=.fields vs)
    (hn:["enumerate", "zip", "dict_itemiterator", "dict_reverseitemiterator", "odict_iterator", "itertools.zip_longest", "itertools.pairwise"].contains n=false) (hQ:Q () s):wpAny M A (letOwnedTupleGo tg (.ref it) u) Q E s := by
  unfold letOwnedTupleGo;cases tg <;> first
    | exact wpAny_pure hQ
    | (cases u <;> first
        | exact wpAny_pure hQ
        | (refine wpAny_bind (wpAny_load ho ?_)
           rw [hc, hd];show wpAny M A (if (["enumerate", "zip", "dict_itemiterator", "dict_reverseitemiterator", "odict_iterator", "itertools.zip_longest", "itertools.pairwise"].contains n&&vs[0]?==some (rawInt _))=true then _ else _) Q E s;rw [if_neg (by intro h; rw [hn, Bool.false_and] at h; cases h)];exact wpAny_pure hQ))
noncomputable def Itl (K:PySem.W.Frag) (a:Addr):It:=
 ⟨fun i H=>∃xs x,SqL K H a xs/\xs[i]?=some x,fun i H x H'=>H'=H/\∀xs,SqL K H a xs->xs[i]?=some x,fun i H=>∃xs,SqL K H a xs/\xs.length<=i⟩
noncomputable def Itt (K:PySem.W.Frag) (a:Addr):It:=
 ⟨fun i H=>∃xs x,SqT K H a xs/\xs[i]?=some x,fun i H x H'=>H'=H/\∀xs,SqT K H a xs->xs[i]?=some x,fun i H=>∃xs,SqT K H a xs/\xs.length<=i⟩
noncomputable def Itr (lo:Int) (n:Nat):It:=⟨fun i _=>i<n,fun i H x H'=>H'=H/\x=.int (lo+i),fun i _=>n<=i⟩
theorem BR {P:Program} {w:World} {K:PySem.W.Frag} {tg:Expr} (a it:Addr):Turn P w K tg (Itl K a) [it] it (fun i h=>h.IsListIter it a i) where
 mem:=by simp
 obj:=fun i h st b hb=>by
  have e:b=it:=by simpa using hb
  subst e;obtain ⟨o,e,c,d⟩:=st;exact ⟨o,e,fun v z=>by rw [d] at z;cases z⟩
 keep:=fun i h h' st k=>st.at fun o e=>k it (by simp) o e
 item:=by
  intro X hP hw hK hc i pins s σ H E I hf st hg;subst hP hw hK;obtain ⟨xs,x,hq,hx⟩:=hg;obtain ⟨its,rv,p,hz⟩:=I.list hq;obtain ⟨u,hu,ru⟩:=rv.get hx;obtain ⟨f0,f1,f2,f3,f4,f5⟩:=hf it (by simp);refine wpAny_pyNext_list_item st p.isList (x:=u) (by simpa using hu) fun h' st' sb=>?_
  have I1:Inv X pins σ H {s with heap:=h'}:=I.turned (t':=s.toks) (fun b o hb e=>(sb.2 b hb).trans e) f0 f1 f3 f4 f5;obtain ⟨o,e,c,d⟩:=id st';exact ⟨u,rfl,K3 (s:={s with heap:=h'}) e c d (by decide) ⟨x,H,I1,ru,⟨rfl,fun ys hy=>by rw [I.KY hy hq];exact hx⟩,st',fun b hb=>(hf b hb).1⟩⟩
 done:=by
  intro X hP hw hK hc i pins s σ H E I hf st hg;subst hP hw hK;obtain ⟨xs,hq,hx⟩:=hg;obtain ⟨its,rv,p,hz⟩:=I.list hq;obtain ⟨f0,f1,f2,f3,f4,f5⟩:=hf it (by simp);have hl:=rv.length;exact wpAny_pyNext_list_end (I.ok.hd hc) st p.isList (by simp;lia) fun h' eb=>⟨rfl,I.turned (t':=s.toks) (fun b o hb e=>eb b o hb e) f0 f1 f3 f4 f5⟩
 self:=fun _ _ _ _ _ st h=>wpAny_pyIter_listiter st h
theorem yJ {P:Program} {w:World} {K:PySem.W.Frag} {tg:Expr} (a it:Addr):Turn P w K tg (Itt K a) [it] it (fun i h=>h.IsTupleIter it a i) where
 mem:=by simp
 obj:=fun i h st b hb=>by
  have e:b=it:=by simpa using hb
  subst e;obtain ⟨o,e,c,d⟩:=st;exact ⟨o,e,fun v z=>by rw [d] at z;cases z⟩
 keep:=fun i h h' st k=>st.at fun o e=>k it (by simp) o e
 item:=by
  intro X hP hw hK hc i pins s σ H E I hf st hg;subst hP hw hK;obtain ⟨xs,x,hq,hx⟩:=hg;obtain ⟨its,rv,p,hz⟩:=I.tuple hq;obtain ⟨u,hu,ru⟩:=rv.get hx;obtain ⟨f0,f1,f2,f3,f4,f5⟩:=hf it (by simp);refine wpAny_pyNext_tuple_item st (show s.heap.IsTuple a its.toArray from p) (x:=u) (by simpa using hu) fun h' st' sb=>?_
  have I1:Inv X pins σ H {s with heap:=h'}:=I.turned (t':=s.toks) (fun b o hb e=>(sb.2 b hb).trans e) f0 f1 f3 f4 f5;obtain ⟨o,e,c,d⟩:=id st';exact ⟨u,rfl,K3 (s:={s with heap:=h'}) e c d (by decide) ⟨x,H,I1,ru,⟨rfl,fun ys hy=>by rw [I.BK hy hq];exact hx⟩,st',fun b hb=>(hf b hb).1⟩⟩
 done:=by
  intro X hP hw hK hc i pins s σ H E I hf st hg;subst hP hw hK;obtain ⟨xs,hq,hx⟩:=hg;obtain ⟨its,rv,p,hz⟩:=I.tuple hq;obtain ⟨f0,f1,f2,f3,f4,f5⟩:=hf it (by simp);have hl:=rv.length;exact wpAny_pyNext_tuple_end (I.ok.hd hc) st (show s.heap.IsTuple a its.toArray from p) (by simp;lia) fun h' eb=>⟨rfl,I.turned (t':=s.toks) (fun b o hb e=>eb b o hb e) f0 f1 f3 f4 f5⟩
 self:=fun _ _ _ _ _ st h=>wpAny_pyIter_tupleiter st h
theorem yK {P:Program} {w:World} {K:PySem.W.Frag} {tg:Expr} (it:Addr) (lo:Int) (n:Nat):Turn P w K tg (Itr lo n) [it] it (fun i h=>IsRangeIter h it (lo+(i:Nat)*1) ((n:Int)-(i:Nat)) 1) where
 mem:=by simp
 obj:=fun i h st b hb=>by
  have e:b=it:=by simpa using hb
  subst e;exact ⟨_,st,fun v z=>by
   have z':Data.fields _=Data.cell v:=z;cases z'⟩
 keep:=fun i h h' st k=>k it (by simp) _ st
 item:=by
  intro X hP hw hK hc i pins s σ H E I hf st hg;subst hP hw hK;obtain ⟨f0,f1,f2,f3,f4,f5⟩:=hf it (by simp);have W:=Walks.range (prog:=X.prog) (w:=X.w) (I.ok.hd hc) it lo 1 n;refine W.item i s _ _ hg st fun v h' tk hv st' kk=>?_
  obtain ⟨t,rfl⟩:=hv;have I1:Inv X pins σ H {s with heap:=h',toks:=tk}:=I.turned (fun b o hb e=>kk b o (by simpa using hb) e) f0 f1 f3 f4 f5;refine ⟨_,rfl,K3 (s:={s with heap:=h',toks:=tk}) (n := "range_iterator") st' rfl rfl (by decide) ⟨.int (lo+i),H,I1,⟨t,?_⟩,⟨rfl,rfl⟩,st',fun b hb=>(hf b hb).1⟩⟩;rw [Int.mul_one]
 done:=by
  intro X hP hw hK hc i pins s σ H E I hf st hg;subst hP hw hK;obtain ⟨f0,f1,f2,f3,f4,f5⟩:=hf it (by simp);exact wpAny_pyNext_range_end (I.ok.hd hc) st (by have:n<=i:=hg;lia) fun h' eb=>⟨rfl,I.turned (t':=s.toks) (fun b o hb e=>eb b o hb e) f0 f1 f3 f4 f5⟩
 self:=fun _ _ _ _ _ st h=>wpAny_pyIter_rangeiter st h
end L2
namespace L2
open PySem PySem.Spec PyProof.Rows
section
variable {X:Cx} {tg:Expr}
theorem K4 {pins:List (Addr×Obj)} {σ:St} {H:Hp} {s:Shared} {R:It->Hp->Prop} {E:Value->Shared->Prop} {lo hi:Int} {t u v:Tok} {tk:Nat} (I:Inv X pins σ H s) (h1:-(2 ^ 62)<=lo) (h2:lo<2 ^ 62) (h3:-(2 ^ 62)<=hi) (h4:hi<2 ^ 62)
  (q:R (Itr lo (hi-lo).toNat) H):wpAny (model X.prog X.w) X.A (pyIter (.ref s.heap.objs.size)) (PIE X pins σ tg R) E {s with heap:=s.heap.push {cls:=.type "range",data:=.fields #[.int lo t,.int hi u,.int 1 v]},toks:=tk}:=by
 refine wpAny_pyIter_range (IsRange.new ..) (small_one h1 h2 h3 h4) ?_;have I1:Inv X pins σ H {s with heap:=s.heap.push {cls:=.type "range",data:=.fields #[.int lo t,.int hi u,.int 1 v]},toks:=tk}:=I.kept fun b o e=>Heap.get?_push_of_some _ e
 refine ⟨(s.heap.push {cls:=.type "range",data:=.fields #[.int lo t,.int hi u,.int 1 v]}).objs.size,[(s.heap.push {cls:=.type "range",data:=.fields #[.int lo t,.int hi u,.int 1 v]}).objs.size],_,_,H,rfl,
  I1.kept (t':=tk) fun b o e=>Heap.get?_push_of_some _ e,yK _ lo (hi-lo).toNat,?_,fun b hb=>?_,q⟩
 ·have e1:lo+((0:Nat):Int)*1=lo:=by simp
  have e2:(((hi-lo).toNat:Nat):Int)-((0:Nat):Int)=Builtin.Range.rangeSize lo hi 1:=by rw [rangeSize_one];split <;> lia
  show IsRangeIter _ _ (lo+((0:Nat):Int)*1) ((((hi-lo).toNat:Nat):Int)-((0:Nat):Int)) 1;rw [e1,e2];exact Heap.get?_push_size _ rfl
 ·have e:b=(s.heap.push {cls:=.type "range",data:=.fields #[.int lo t,.int hi u,.int 1 v]}).objs.size:=by simpa using hb
  subst e;exact I1.aAb (Nat.le_refl _) (I1.hok.fresh (Nat.le_refl _))
noncomputable def aAs (ta:TA):TI:=fun σ H R=>ta σ H fun vs H1=>∃j:Int,vs=[.int j]/\-(2 ^ 62)<=j/\j<2 ^ 62/\R (Itr 0 j.toNat) H1
theorem qU {a:Expr} {ta:TA} {p pos:Pos} (hg:Gl X "range") (hm:X.mg "range" = none) (ha:PA X [a] ta) (hs:starEach [a] X.env=[(false,eval a X.env)]:=by rfl):PI X tg (.Call (.Name "range" p) [a] [] pos) (aAs ta):=by
 intro pins s σ H R I h;refine Call_ (nM I hg hm boot_range (PyProof.Rows.callWith_type1 (thn (ha pos pins s σ H _ I h) fun us s1 ⟨vs,H1,I1,r1,q1⟩=>?_) hs rfl));obtain ⟨j,e,q1,q2,q⟩:=q1;subst e;cases r1 with
 | cons r rr=>
  cases rr;obtain ⟨t,rfl⟩:=r;exact call_range_1 (K4 I1 (by lia) (by lia) q1 q2 (by simpa using q))
noncomputable def aC8 (wi:TI) (g:TG) (tb:TS):TS:=fun D σ H=>wi σ H fun J H1=>∃W:Nat->Nat->St->Hp->Prop,(∃m,W 0 m σ H1)/\∀i m σ H,W i m σ H->
 (J.stop i H/\D.nx σ H)\/(J.go i H/\∃N:St->Hp->Prop,(∀σ' H',N σ' H'->∃m',m'<m/\W (i+1) m' σ' H')/\∀x H',J.yld i H x H'->g x σ H' fun σ2 H2=>tb {D with nx:=N,ct:=N,bk:=D.nx} σ2 H2)
noncomputable def nP (fp:List Addr) (h:Heap):List (Addr×Obj):=fp.filterMap fun b=>(h.get? b).map fun o=>(b,o)
theorem jP {fp:List Addr} {h:Heap} {b:Addr} {o:Obj} (hb:b∈fp) (e:h.get? b=some o):(b,o)∈nP fp h:=List.mem_filterMap.mpr ⟨b,hb,by rw [e];rfl⟩
theorem BV {fp:List Addr} {h:Heap} {p:Addr×Obj} (hp:p∈nP fp h):p.1∈fp/\h.get? p.1=some p.2:=by
 obtain ⟨b,hb,e⟩:=List.mem_filterMap.mp hp;cases q:h.get? b with
 | none=>rw [q] at e;cases e
 | some o=>
  rw [q] at e;have e':(b,o)=p:=Option.some.inj e;subst e';exact ⟨hb,q⟩
theorem Inv.pinned {pins:List (Addr×Obj)} {σ:St} {H:Hp} {s:Shared} {fp:List Addr} (I:Inv X pins σ H s) (hf:∀b∈fp,BP X pins H b) (ho:∀b∈fp,∃o,s.heap.get? b=some o/\∀v,o.data≠.cell v):Inv X (pins++nP fp s.heap) σ H s:=
 I.uE fun p hp=>(List.mem_append.mp hp).elim (fun z=>I.pin p (List.mem_append_right _ z)) fun z=>by
  obtain ⟨hb,e⟩:=BV z;obtain ⟨f0,f1,f2,_⟩:=hf p.1 hb;obtain ⟨o,e',d⟩:=ho p.1 hb;rw [e] at e';cases e';exact ⟨e,f0,f1,f2,d⟩
theorem Inv.kJ {pins pl:List (Addr×Obj)} {σ:St} {H:Hp} {s:Shared} (I:Inv X (pins++pl) σ H s):Inv X pins σ H s:=I.uE fun p hp=>I.pin p (List.mem_append_right _ (List.mem_append_left _ hp))
theorem BW {iter:Expr} {body:List Stmt} {wi:TI} {g:TG} {tb:TS} {pos:Pos} (hp:PassesOwn (model X.prog X.w) X.A X.env X.xe) (hc:X.calm=true) (hi:PI X tg iter wi) (hg:PG X tg g) (hb:PSs X body tb)
  (hs:∀x,foldedSetIterable iter X.env x=pure x:=by intro _;rfl):PS X (.For tg iter body [] pos) (aC8 wi g tb):=by
 intro pins s σ H D I h;refine wpAny_For (thn (hi pins s σ H _ I h) fun v s1 h1=>thn h1 fun itv s2 h2=>?_) hs;obtain ⟨it,fp,tn,J,H2,e,I2,T,st2,f2,W,⟨m0,w0⟩,turn⟩:=h2;subst e
 -- what stays true of the iterator's objects through the loop
 have stat:∀{H':Hp},(∀b∈fp,H' b=none)->∀b∈fp,BP X pins H' b:=fun hn b hb=>⟨hn b hb,(f2 b hb).2⟩
 refine codeAny_forLoop_any (fun n s'=>∃i σ' H',Inv X pins σ' H' s'/\tn i s'.heap/\(∀b∈fp,H' b=none)/\W i n σ' H') ?_ m0 ⟨0,σ,H2,I2,st2,fun b hb=>(f2 b hb).1,w0⟩;rintro n s3 ⟨i,σ3,H3,I3,st3,fr3,w3⟩;rcases turn i n σ3 H3 w3 with ⟨stop,qn⟩|⟨go,N,hN,step⟩
 ·refine wpAny_passesOwn hp (thn (T.done X rfl rfl rfl hc i pins s3 σ3 H3 X.xe I3 (stat fr3) st3 stop) fun r s4 ⟨hr,I4⟩=>?_);subst hr;exact wpAny_execs_nil ⟨σ3,H3,I4,qn⟩
 ·refine wpAny_passesOwn hp (thn (T.item X rfl rfl rfl hc i pins s3 σ3 H3 X.xe I3 (stat fr3) st3 go) fun r s4 ⟨u,hr,h4⟩=>?_);subst hr;refine wpAny_passesOwn hp (thn h4 fun _ s5 ⟨x,H5,I5,r5,y5,st5,fr5⟩=>?_);have I5':=I5.pinned (stat fr5) (T.obj _ _ st5);refine wpAny_passesOwn hp (thn (hg _ s5 σ3 H5 x u _ I5' r5 (step x H5 y5)) fun _ s6 ⟨σ6,H6,I6,q6⟩=>?_);refine wpAny_passesOwn hp (thn (hb _ s6 σ6 H6 _ I6 q6) fun f s7 q7=>?_);have again:∀{σ7:St} {H7:Hp},Inv X (pins++nP fp s5.heap) σ7 H7 s7->N σ7 H7->∃m,m<n/\∃i σ' H',Inv X pins σ' H' s7/\tn i s7.heap/\(∀b∈fp,H' b=none)/\W i m σ' H':=fun {σ7 H7} I7 n7=>by
   obtain ⟨m',hm,w7⟩:=hN σ7 H7 n7;refine ⟨m',hm,i+1,σ7,H7,I7.kJ,T.keep _ _ _ st5 fun b hb o e=>(I7.pin (b,o) (List.mem_append_right _ (List.mem_append_right _ (jP hb e)))).1,fun b hb=>?_,w7⟩;obtain ⟨o,e,d⟩:=T.obj _ _ st5 b hb;exact (I7.pin (b,o) (List.mem_append_right _ (List.mem_append_right _ (jP hb e)))).2.1
  cases f with
  | next=>obtain ⟨σ7,H7,I7,n7⟩:=q7;exact again I7 n7
  | cont=>obtain ⟨σ7,H7,I7,n7⟩:=q7;exact again I7 n7
  | brk=>obtain ⟨σ7,H7,I7,q7⟩:=q7;exact ⟨σ7,H7,I7.kJ,q7⟩
  | ret v=>obtain ⟨x7,σ7,H7,I7,r7,q7⟩:=q7;exact ⟨x7,σ7,H7,I7.kJ,r7,q7⟩
end
end L2
namespace L2
open PySem PySem.Spec PyProof.Rows
abbrev R2:=V->V->Hp->VK->Prop
noncomputable def OpR (X:Cx) (f:Value->Value->Sem Value) (r:R2):Prop:=
 ∀(pins:List (Addr×Obj)) (s:Shared) (σ:St) (H:Hp) (x y:V) (v u:Value) (Q:VK),Inv X pins σ H s->RelV x v->RelV y u->r x y H Q->
  wpAny (model X.prog X.w) X.A (f v u) (EP X pins σ Q) X.xe s
noncomputable def UnR (X:Cx) (f:Value->Sem Value) (r:V->Hp->VK->Prop):Prop:=
 ∀(pins:List (Addr×Obj)) (s:Shared) (σ:St) (H:Hp) (x:V) (v:Value) (Q:VK),Inv X pins σ H s->RelV x v->r x H Q->
  wpAny (model X.prog X.w) X.A (f v) (EP X pins σ Q) X.xe s
noncomputable def lN (X:Cx) (f:Value) (r:List V->Hp->VK->Prop):Prop:=
 ∀(pins:List (Addr×Obj)) (s:Shared) (σ:St) (H:Hp) (xs:List V) (us:List Value) (Q:VK),Inv X pins σ H s->Vals xs us->r xs H Q->
  wpAny (model X.prog X.w) X.A (call f us) (EP X pins σ Q) X.xe s
noncomputable def aC9 (X:Cx) (r:V->Hp->(Bool->Hp->Prop)->Prop):Prop:=
 ∀(pins:List (Addr×Obj)) (s:Shared) (σ:St) (H:Hp) (x:V) (v:Value) (Q:Bool->Hp->Prop),Inv X pins σ H s->RelV x v->r x H Q->
  wpAny (model X.prog X.w) X.A (truthy v) (TP X pins σ Q) X.xe s
noncomputable def tOp (r:R2) (ta tb:TE):TE:=fun σ H Q=>ta σ H fun x H1=>tb σ H1 fun y H2=>r x y H2 Q
def tUn (r:V->Hp->VK->Prop) (ta:TE):TE:=fun σ H Q=>ta σ H fun x H1=>r x H1 Q
noncomputable def rI (C:Int->Int->Prop) (g:Int->Int->V):R2:=fun x y H Q=>∃i j,x=.int i/\y=.int j/\C i j/\Q (g i j) H
noncomputable def rI0 (g:Int->Int->V):R2:=fun x y H Q=>∃i j,x=.int i/\y=.int j/\Q (g i j) H
def rU (g:Int->V):V->Hp->VK->Prop:=fun x H Q=>∃i,x=.int i/\Q (g i) H
section
variable {X:Cx} {a b c:Expr} {ta tb tc:TE} {pos:Pos}
theorem aAt (ha:PE X a ta) (hb:PE X b tb) {pins:List (Addr×Obj)} {s:Shared} {σ:St} {H:Hp} {R:V->V->Hp->Prop} (I:Inv X pins σ H s)
  (h:ta σ H fun x H1=>tb σ H1 fun y H2=>R x y H2) {Q:Value->Shared->Prop} {f:Value->Value->Sem Value}
  (hf:∀v u s2 x y H2,Inv X pins σ H2 s2->RelV x v->RelV y u->R x y H2->wpAny (model X.prog X.w) X.A (f v u) Q X.xe s2) :
  wpAny (model X.prog X.w) X.A (eval a X.env) (fun v s₁=>wpAny (model X.prog X.w) X.A (eval b X.env) (fun u s₂=>wpAny (model X.prog X.w) X.A (f v u) Q X.xe s₂) X.xe s₁) X.xe s:=by
 refine thn (ha pins s σ H _ I h) fun v s1 ⟨x,H1,I1,r1,q1⟩=>?_
 refine thn (hb pins s1 σ H1 _ I1 q1) fun u s2 ⟨y,H2,I2,r2,q2⟩=>?_
 exact hf v u s2 x y H2 I2 r1 r2 q2
theorem WQ {op:Operator} {r:R2} (ho:OpR X (binaryOp op) r) (ha:PE X a ta) (hb:PE X b tb):PE X (.BinOp a op b pos) (tOp r ta tb):=by
 intro pins s σ H Q I h;exact wpAny_BinOp (aAt ha hb I h fun v u s2 x y H2 I2 rx ry q=>ho pins s2 σ H2 x y v u Q I2 rx ry q)
theorem aAu {op:UnaryOp} {r:V->Hp->VK->Prop} (ho:UnR X (unaryOp op) r) (ha:PE X a ta):PE X (.UnaryOp op a pos) (tUn r ta):=by
 intro pins s σ H Q I h;exact UnaryOp_ (thn (ha pins s σ H _ I h) fun v s1 ⟨x,H1,I1,r1,q1⟩=>ho pins s1 σ H1 x v Q I1 r1 q1)
theorem opI {f:Value->Value->Sem Value} {C:Int->Int->Prop} {g:Int->Int->Int}
  (rule:∀(i j:Int) (t u:Tok) (s:Shared) (Q:Value->Shared->Prop) (E:Value->Shared->Prop),C i j->Q (.int (g i j) s.toks) {s with toks:=s.toks+1}->wpAny (model X.prog X.w) X.A (f (.int i t) (.int j u)) Q E s) :
  OpR X f (rI C fun i j=>.int (g i j)):=by
 intro pins s σ H x y v u Q I rx ry h;obtain ⟨i,j,rfl,rfl,hc,q⟩:=h;obtain ⟨t,rfl⟩:=rx;obtain ⟨t',rfl⟩:=ry;exact rule i j t t' s _ _ hc ⟨.int (g i j),H,I.tok _,⟨_,rfl⟩,q⟩
theorem aBv {f:Value->Value->Sem Value} {g:Int->Int->Int}
  (rule:∀(i j:Int) (t u:Tok) (s:Shared) (Q:Value->Shared->Prop) (E:Value->Shared->Prop),Q (.int (g i j) s.toks) {s with toks:=s.toks+1}->wpAny (model X.prog X.w) X.A (f (.int i t) (.int j u)) Q E s) :
  OpR X f (rI0 fun i j=>.int (g i j)):=by
 intro pins s σ H x y v u Q I rx ry h;obtain ⟨i,j,rfl,rfl,q⟩:=h;obtain ⟨t,rfl⟩:=rx;obtain ⟨t',rfl⟩:=ry;exact rule i j t t' s _ _ ⟨.int (g i j),H,I.tok _,⟨_,rfl⟩,q⟩
def aCa (i j:Int):Prop:=0<j/\j<1073741824
def aAv (i j:Int):Prop:=(-(2 ^ 64)<i/\i<2 ^ 64)\/(-(2 ^ 64)<j/\j<2 ^ 64)
theorem aAv.ok {i j:Int} (h:aAv i j):IntMulOk i j:=by
 rcases h with ⟨h1,h2⟩|⟨h1,h2⟩
 ·exact .of_left (intBits_le_64 h1 h2)
 ·exact .of_right (intBits_le_64 h1 h2)
theorem WR:OpR X (binaryOp .Add) (rI0 fun i j=>.int (i+j)):=aBv fun _ _ _ _ _ _ _ q=>add_int q
theorem WT:OpR X (binaryOp .Sub) (rI0 fun i j=>.int (i-j)):=aBv fun _ _ _ _ _ _ _ q=>sub_int q
theorem WX:OpR X (binaryOp .Mult) (rI aAv fun i j=>.int (i*j)):=opI fun _ _ _ _ _ _ _ hc q=>mul_int q hc.ok
theorem RN:OpR X (binaryOp .FloorDiv) (rI aCa fun i j=>.int (i / j)):=opI fun i j _ _ _ _ _ hc q=>by
 have h1:(0:Int)<j:=hc.1;have h2:j<1073741824:=hc.2;exact floordiv_int (by lia) (by rw [Int.fdiv_eq_ediv_of_nonneg i (by lia)];exact q) (.inl (PyProof.noPylong_small (by lia)))
theorem WY:OpR X (binaryOp .Mod) (rI (fun _ j=>0<j) fun i j=>.int (i % j)):=opI fun i j _ _ _ _ _ hc q=>by
 have h1:(0:Int)<j:=hc;exact mod_int' (by lia) (by rw [Int.fmod_eq_emod_of_nonneg i (by lia)];exact q)
theorem unI {f:Value->Sem Value} {g:Int->Int}
  (rule:∀(i:Int) (t:Tok) (s:Shared) (Q:Value->Shared->Prop) (E:Value->Shared->Prop),Q (.int (g i) s.toks) {s with toks:=s.toks+1}->wpAny (model X.prog X.w) X.A (f (.int i t)) Q E s) :
  UnR X f (rU fun i=>.int (g i)):=by
 intro pins s σ H x v Q I rx h;obtain ⟨i,rfl,q⟩:=h;obtain ⟨t,rfl⟩:=rx;exact rule i t s _ _ ⟨.int (g i),H,I.tok _,⟨_,rfl⟩,q⟩
theorem W0:UnR X (unaryOp .USub) (rU fun i=>.int (-i)):=unI fun _ _ _ _ _ q=>neg_int q
end
section
variable {X:Cx} {a b c:Expr} {ta tb tc:TE} {pos:Pos}
theorem W2 {pins:List (Addr×Obj)} {σ:St} {H:Hp} {s:Shared} {Q:VK} {k k':Bool} (I:Inv X pins σ H s) (q:Q (.bl k) H) (e:k=k'):EP X pins σ Q (.bool k') s:=by
 subst e;exact ⟨.bl k,H,I,rfl,q⟩
theorem BX:OpR X (compareOp .In) (fun x y H Q=>∃i j,x=.str i/\y=.str j/\Q (.bl (!(Builtin.Str.occurrences j i 0 j.length 1).isEmpty)) H):=by
 intro pins s σ H x y v u Q I rx ry h;obtain ⟨i,j,rfl,rfl,q⟩:=h;obtain ⟨t,rfl⟩:=rx;obtain ⟨t',rfl⟩:=ry;exact in_str (W2 I q rfl)
theorem cW (b:Expr) {op:CmpOp} (h:op≠.In:=by decide) (h2:op≠.NotIn:=by decide):behindInMarks op b=false:=by
 have e1:(op==CmpOp.In)=false:=by cases op <;> first|rfl|exact absurd rfl h
 have e2:(op==CmpOp.NotIn)=false:=by cases op <;> first|rfl|exact absurd rfl h2
 cases b <;> simp [behindInMarks,e1,e2]
theorem RQ {op:CmpOp} {r:R2} (ho:OpR X (compareOp op) r) (ha:PE X a ta) (hb:PE X b tb) (hm:behindInMarks op b=false):PE X (.Compare a [op] [b] pos) (tOp r ta tb):=by
 intro pins s σ H Q I h;exact wpAny_Compare1 (aAt ha hb I h fun v u s2 x y H2 I2 rx ry q=>ho pins s2 σ H2 x y v u Q I2 rx ry q) hm
def aAw (t:TE):TT:=fun σ H Q=>t σ H fun x H'=>∃k,x=.bl k/\Q k H'
theorem BZ {op:CmpOp} {r:R2} (ho:OpR X (compareOp op) r) (ha:PE X a ta) (hb:PE X b tb) (hm:behindInMarks op b=false):PT X (.Compare a [op] [b] pos) (aAw (tOp r ta tb)):=by
 intro pins s σ H Q I h;refine wpAny_isTrue_Compare1 (thn (ha pins s σ H _ I h) fun v s1 ⟨x,H1,I1,r1,q1⟩=>thn (hb pins s1 σ H1 _ I1 q1) fun u s2 ⟨y,H2,I2,r2,q2⟩=>
  thn (ho pins s2 σ H2 x y v u _ I2 r1 r2 q2) fun c s3 ⟨z,H3,I3,r3,k,e,q3⟩=>?_) hm
 subst e;cases r3;exact wpAny_truthy_bool ⟨H3,I3,q3⟩
noncomputable def aAx (K:PySem.W.Frag) (x:V) (H:Hp) (k:Bool):Prop:=
 match x with
 | .non=>k=false
 | .bl b=>k=b
 | .int i=>k=(i != 0)
 | .str y=>y.length<=sizeLine/\k=((y.length:Int) != 0)
 | .byt y=>y.size<=sizeLine/\k=((y.size:Int) != 0)
 | .ref p=>(∃xs,SqL K H p xs/\k=!xs.isEmpty)\/(∃xs,SqT K H p xs/\k=!xs.isEmpty)\/∃kvs,H p=some (.dK kvs)/\k=!kvs.isEmpty
 | _=>False
theorem yL {κ:Type} {kvs:List (κ×V)} {vs:List (κ×Value)} (r:KV kvs vs):(!vs.isEmpty)=!kvs.isEmpty:=by
 cases r <;> rfl
theorem pB {xs:List V} {its:List Value} (r:Vals xs its):(!its.toArray.isEmpty)=!xs.isEmpty:=by
 cases r <;> simp
theorem nQ:(sizeLine:Nat)<2 ^ 63:=by rw [sizeLine_eq];decide
theorem W3:aC9 X (fun x H Q=>∃k,aAx X.K x H k/\Q k H):=by
 intro pins s σ H x v Q I rx h;obtain ⟨k,e,q⟩:=h;have hl:=nQ;have hs:sizeLine=16777216:=sizeLine_eq;cases x with
 | non=>
  cases rx;have e':k=false:=e;subst e';exact truthy_none ⟨H,I,q⟩
 | bl b=>
  cases rx;have e':k=b:=e;subst e';exact wpAny_truthy_bool ⟨H,I,q⟩
 | int i=>
  obtain ⟨t,rfl⟩:=rx;have e':k=(i != 0):=e;subst e';exact PySem.P.truthy_int ⟨H,I,q⟩
 | str y=>
  obtain ⟨t,rfl⟩:=rx;obtain ⟨hy,e'⟩:y.length<=sizeLine/\k=((y.length:Int) != 0):=e;subst e';exact PySem.P.truthy_str (by lia) ⟨H,I.tok _,q⟩
 | byt y=>
  obtain ⟨t,rfl⟩:=rx;obtain ⟨hy,e'⟩:y.size<=sizeLine/\k=((y.size:Int) != 0):=e;subst e';exact PySem.W.truthy_bytes (by lia) ⟨H,I.tok _,q⟩
 | ref p=>
  cases rx;have e':(∃xs,SqL X.K H p xs/\k=!xs.isEmpty)\/(∃xs,SqT X.K H p xs/\k=!xs.isEmpty)\/∃kvs,H p=some (.dK kvs)/\k=!kvs.isEmpty:=e;rcases e' with ⟨xs,hx,e'⟩|⟨xs,hx,e'⟩|⟨kvs,hx,e'⟩
  ·subst e';obtain ⟨its,r,pl,hz⟩:=I.list hx;have hlen:=r.length;exact wpAny_truthy_list pl.isList (by simp only [List.size_toArray];lia) ⟨H,I.tok _,by rw [pB r];exact q⟩
  ·subst e';obtain ⟨its,r,pl,hz⟩:=I.tuple hx;have hlen:=r.length;exact truthy_tuple pl (by simp only [List.size_toArray];lia) ⟨H,I.tok _,by rw [pB r];exact q⟩
  ·subst e';obtain ⟨hz,hS,vs,r,m⟩:kvs.length<=sizeLine/\(p==sysModules)=false/\∃vs,KV kvs vs/\s.heap.DictOf (cZ X.prog X.w) p vs:=I.hok p _ hx;have hlen:kvs.length=vs.length:=Paired.length r;exact wpAny_truthy_dict hS m (by lia) ⟨H,I.tok _,by rw [yL r];exact q⟩
 | _=>exact (show False from e).elim
theorem K5 (ha:PE X a ta) (he:∀whole,isTrue a X.env whole=(do let v <- whole;standAt a.pos;holding [v] (truthy v))) :
  PT X a (fun σ H Q=>ta σ H fun x H'=>∃k,aAx X.K x H' k/\Q k H'):=by
 intro pins s σ H Q I h;exact isTrue_plain (thn (ha pins s σ H _ I h) fun v s1 ⟨x,H1,I1,r1,q1⟩=>W3 pins s1 σ H1 x v Q I1 r1 q1) (he _)
theorem yM:OpR X (binaryOp .Add) (fun x y H Q=>∃i j,x=.str i/\y=.str j/\i.length+j.length<=sizeLine/\Q (.str (i++j)) H):=by
 intro pins s σ H x y v u Q I rx ry h;obtain ⟨i,j,rfl,rfl,hz,q⟩:=h;obtain ⟨t,rfl⟩:=rx;obtain ⟨t',rfl⟩:=ry;exact add_str (fun t' tk=>⟨.str (i++j),H,I.tok _,⟨_,rfl⟩,q⟩) hz
theorem vals1 {x:V} {us:List Value} (r:Vals [x] us):∃u,us=[u]/\RelV x u:=by
 cases r with
 | cons r1 r2=>cases r2;exact ⟨_,rfl,r1⟩
end
end L2
namespace L2
open PySem PySem.Spec PyProof.Rows
section
variable {prog:Program} {w:World} {A:Around} {E:Value->Shared->Prop} {s:Shared} {K:PySem.W.Frag} {x dx C f:Addr} {mA:Str->Option Value} {name:Str} {v:Value}
end
theorem KC.some_of {v:V} {o:Option Value} (r:KC (some v) o):∃u,o=some u/\RelV v u:=by
 cases o with
 | none=>exact (show False from r).elim
 | some u=>exact ⟨u,rfl,r⟩
section
variable {P:Program} {w:World} {H H':Hp} {h h':Heap} {a C dx:Addr} {fs fs':List (Str×V)}
end
section
variable {X:Cx} {pins:List (Addr×Obj)} {σ:St} {H:Hp} {s:Shared} {a C dx:Addr} {fs:List (Str×V)} {f:Str} {v:V} {A:Around} {E:Value->Shared->Prop}
end
section
variable {X:Cx} {o e value:Expr} {f:Str} {pos pos' tpos:Pos} {ta tv:TE}
end
section
variable {X:Cx} {pins:List (Addr×Obj)} {σ:St} {H:Hp} {s:Shared} {A:Around} {E:Value->Shared->Prop} {Q:Value->Shared->Prop} {c:Value} {b:Bool}
end
end L2
namespace L2
open PySem PySem.Spec PyProof.Rows
structure m8 (k:Nat) (A:Around):Prop where
 hd:A.handled=none
 dp:A.depth+3*k+5<recursionLimit
 un:A.units+16*k+200<cLine
theorem m8.mono {j k:Nat} {A:Around} (r:m8 k A) (h:j<=k):m8 j A:=⟨r.hd,by have:=r.dp;lia,by have:=r.un;lia⟩
theorem m8.deeper {k:Nat} {A:Around} (r:m8 (k+1) A) (env:Env):m8 k (A.deeper env):=
 ⟨r.hd,by have:=r.dp;show A.depth+1+3*k+5<_;lia,by have:=r.un;show A.units+3+16*k+200<_;lia⟩
theorem m8.depth {k:Nat} {A:Around} (r:m8 k A):A.depth<recursionLimit:=by have:=r.dp;lia
theorem m8.units {k:Nat} {A:Around} (r:m8 k A):A.units+64<cLine:=by have:=r.un;lia
def aCb:TA:=fun _ H Q=>Q [] H
noncomputable def aAy (ta:TE) (tr:TA):TA:=fun σ H Q=>ta σ H fun x H1=>tr σ H1 fun xs H2=>Q (x::xs) H2
section
variable {X:Cx} {e:Expr} {es:List Expr} {te:TE} {t:TA} {pos:Pos}
theorem nR:PA X [] aCb:=fun _ _ _ _ H Q I h=>Calls.spliced_nil ⟨[],H,I,.nil,h⟩
theorem gC (ha:PE X e te) (hr:PA X es t) (hs:starEach (e::es) X.env=(false,eval e X.env)::starEach es X.env:=by rfl):PA X (e::es) (aAy te t):=by
 intro pos pins s σ H Q I h;rw [hs];show wpAny _ _ (spliced ((false,eval e X.env)::backTo pos (starEach es X.env))) _ _ s;refine Calls.spliced_cons (thn (ha pins s σ H _ I h) fun u s1 ⟨x,H1,I1,r1,q1⟩=>?_);exact thn (hr pos pins s1 σ H1 _ I1 q1) fun us s2 ⟨xs,H2,I2,r2,q2⟩=>⟨x::xs,H2,I2,.cons r1 r2,q2⟩
noncomputable def aCc (t:TA):TE:=fun σ H Q=>t σ H fun xs H1=>xs.length<=sizeLine/\∀p,H1 p=none->Q (.ref p) (upd H1 p (.tup xs))
noncomputable def aCd (t:TA):TE:=fun σ H Q=>t σ H fun xs H1=>xs.length<=sizeLine/\∀p,H1 p=none->Q (.ref p) (upd H1 p (.lst xs))
theorem W4 {x1} (h:PA X es t):PE X (.Tuple es x1 pos) (aCc t):=by
 intro pins s σ H Q I hq;refine wpAny_Tuple_spliced (thn (h pos pins s σ H _ I hq) fun us s1 ⟨xs,H1,I1,r,z,q⟩=>⟨by rw [<-r.length];exact z,?_⟩);have hf:H1 s1.heap.objs.size=none:=I1.hok.fresh (Nat.le_refl _);refine ⟨.ref s1.heap.objs.size,upd H1 s1.heap.objs.size (.tup xs),I1.laid (t':=s1.toks) (fun b u e=>Heap.get?_push_of_some _ e) (Nat.le_refl _) ?_,rfl,q _ hf⟩;exact ⟨z,us,r,⟨_,Heap.get?_push_size _ rfl,rfl,_,rfl⟩⟩
theorem PJ (h:PA X es t):PE X (.List es pos) (aCd t):=by
 intro pins s σ H Q I hq;refine wpAny_List_spliced (thn (h pos pins s σ H _ I hq) fun us s1 ⟨xs,H1,I1,r,z,q⟩=>⟨by rw [<-r.length];exact z,?_⟩);have hf:H1 s1.heap.objs.size=none:=I1.hok.fresh (Nat.le_refl _);refine ⟨.ref s1.heap.objs.size,upd H1 s1.heap.objs.size (.lst xs),I1.laid (t':=s1.toks) (fun b u e=>Heap.get?_push_of_some _ e) (Nat.le_refl _) ?_,rfl,q _ hf⟩;exact ⟨z,us,0,r,Heap.get?_push_size _ rfl⟩
end
abbrev Sp:=List V->Hp->VK->XK->Prop
abbrev CXT:=List Env->Hp->Shared->XK->Value->Shared->Prop
structure aAc (P:Program) (w:World) (K:PySem.W.Frag) (mg:Str->Option Value) (base:Heap) (A:Around) (outer:List Env) (s:Shared) (H:Hp):Prop where
 frames:A.frames=some outer
 mod:Mod K mg base
 bs:∀b o,base.get? b=some o->s.heap.get? b=some o/\H b=none
 bsz:base.objs.size<=s.heap.objs.size
 z9:s.heap.FunFrames base outer
 frf:∀b∈frs outer,H b=none
 hok:HOk P w H s.heap
 bare:AllBare s.gens
noncomputable def CE (outer:List Env) (P:Program) (w:World) (H:Hp) (s:Shared) (Q:VK) (u:Value) (s':Shared):Prop:=
 ∃v H',s'.os=s.os/\AllBare s'.gens/\Un (frs outer) [] H H' s.heap s'.heap/\HOk P w H' s'.heap/\RelV v u/\Q v H'
noncomputable def CR (CX:CXT) (outer:List Env) (P:Program) (w:World) (H:Hp) (s:Shared) (Q:VK) (E:XK) (r:Result) (s':Shared):Prop:=
 match r with
 | .ok (.ret u)=>CE outer P w H s Q u s'
 | .ok _=>False
 | .error e=>CX outer H s E e s'
structure vV (P:Program) (w:World) (K:PySem.W.Frag) (mg:Str->Option Value) (base:Heap) (CX:CXT) (k:Nat) (f:Addr) (fd:FuncData) (ps:List Str) (sp:Sp):Prop where
 len:∀vs H Q E,sp vs H Q E->vs.length=ps.length
 run:∀(A:Around) (outer:List Env) (s:Shared) (H:Hp) (args:Args) (us:List Value) (vs:List V) (Q:VK) (E:XK),m8 k A->aAc P w K mg base A outer s H->BindsTo s fd args (ps.zip us)->Vals vs us->sp vs H Q E->
  codeAny (model P w) A (.call (.ref f) args) (CR CX outer P w H s Q E) s
section
variable {X:Cx} {pins:List (Addr×Obj)} {σ:St} {H:Hp} {s s':Shared}
theorem Inv.env0 (I:Inv X pins σ H s):aAc X.prog X.w X.K X.mg X.base X.A X.stack s H:=
 ⟨I.ok.frames,I.ok.mod,I.bs,Nat.le_trans I.ok.bsz I.sz,I.stack,I.z_,I.hok,I.bare⟩
theorem Inv.after {Q:VK} {u:Value} (I:Inv X pins σ H s) (h:CE X.stack X.prog X.w H s Q u s'):EP X pins σ Q u s':=by
 obtain ⟨v,H',os,bare,un,hok,r,q⟩:=h;obtain ⟨hh,g,d,t,os'⟩:=s';obtain rfl:os'=s.os:=os;exact ⟨v,H',I.call (h':=hh) (g':=g) (d':=d) (t':=t) (ch:=[]) un hok bare (fun b z=>absurd z (by simp)),r,q⟩
end
noncomputable def aAz (sp:Sp) (dvs:List V) (E:XK) (t:TA):TE:=fun σ H Q=>t σ H fun vs H1=>sp (vs++dvs) H1 Q E
noncomputable def Binds (K:PySem.W.Frag) (fd:FuncData) (ps:List Str) (ds:List Value):Prop:=
 ∀(s:Shared) (us:List Value),K.In s.heap->(us++ds).length=ps.length->BindsTo s fd ⟨us,[]⟩ (ps.zip (us++ds))
theorem Binds.all {K:PySem.W.Frag} {fd:FuncData} {ps:List Str} (h:∀us:List Value,us.length=ps.length->bindArgs fd ⟨us,[]⟩=pure (ps.zip us)):Binds K fd ps []:=fun s us _ hl=>by
 rw [List.append_nil] at hl ⊢;exact .of_eq (h us hl)
noncomputable def B_ (CX:CXT) (X:Cx) (E:XK):Prop:=∀(pins:List (Addr×Obj)) (σ:St) (H:Hp) (s:Shared) (e:Value) (s':Shared),Inv X pins σ H s->CX X.stack H s E e s'->X.xe e s'
section
variable {X:Cx} {CX:CXT} {k:Nat} {f C:Addr} {fd:FuncData} {ps:List Str} {sp:Sp} {dvs:List V} {ds:List Value} {E:XK} {x m:Str} {p pos apos:Pos} {e o:Expr} {es:List Expr} {ta:TE} {t:TA}
theorem W5 {pins:List (Addr×Obj)} {σ:St} {H:Hp} {s:Shared} {Q:VK} {us:List Value} {vs:List V} (F:vV X.prog X.w X.K X.mg X.base CX k f fd ps sp) (hr:m8 k X.A) (hb:Binds X.K fd ps ds) (hd:Vals dvs ds) (hx:B_ CX X E)
  (I:Inv X pins σ H s) (r:Vals vs us) (h:sp (vs++dvs) H Q E):wpAny (model X.prog X.w) X.A (call (.ref f) us) (EP X pins σ Q) X.xe s:=by
 have r2:Vals (vs++dvs) (us++ds):=r.append hd;have hl:(us++ds).length=ps.length:=by rw [<-r2.length];exact F.len _ _ _ _ h
 refine wpAny_call (codeAny_mono (F.run X.A X.stack s H ⟨us,[]⟩ (us++ds) (vs++dvs) Q E hr I.env0 (hb s us I.kIn hl) r2 h) fun r s' hq=>?_);cases r with
 | error e=>exact hx pins σ H s e s' I hq
 | ok fl=>
  cases fl with
  | ret u=>exact I.after hq
  | next=>exact False.elim hq
  | brk=>exact False.elim hq
  | cont=>exact False.elim hq
theorem CG (F:vV X.prog X.w X.K X.mg X.base CX k f fd ps sp) (hr:m8 k X.A) (hg:Gl X x) (hm:X.mg x=some (.ref f)) (hk:PySem.W.keepIn X.K (.ref f)=true) (hb:Binds X.K fd ps ds) (hd:Vals dvs ds) (hx:B_ CX X E)
  (ha:PA X (e::es) t) (hdb:nDb x:=by decide) (he:starEach (e::es) X.env=(false,eval e X.env)::starEach es X.env:=by rfl) (hpl:(backTo pos (starEach es X.env)).any (·.1)=false:=by rfl) :
  PE X (.Call (.Name x p) (e::es) [] pos) (aAz sp dvs E t):=by
 intro pins s σ H Q I h;refine wpAny_Call_Name_kw (RG I hg hm ?_ hdb);refine PySem.W.callWith_K (h₀:=X.base) I.ok.mod.kin hk (thn (ha pos pins s σ H _ I h) fun us s1 ⟨vs,H1,I1,r,q⟩=>⟨I1.kIn,?_⟩) he hpl;exact W5 F hr hb hd hx I1 r q
end
section
variable {X:Cx} {CX:CXT} {k:Nat} {f C:Addr} {fd:FuncData} {ps ks:List Str} {sp:Sp} {E:XK} {x m:Str} {p pos apos kpos:Pos} {e o:Expr} {es:List Expr} {kws:List Keyword} {te ta:TE} {t tk:TA} {nm:Option Str}
variable {g:List Value->List Value->List Value} {gV:List V->List V->List V}
end
structure cT (N P:List Str) (sc:Scope):Prop where
 kind:sc.kind=.function
 co:sc.isCoroutine=false
 gen:sc.isGenerator=false
 nd:N.Nodup
 pre:N.take P.length=P
 par:∀x∈P,sc.names.lookup x=some .local\/sc.names.lookup x=some .cell
 nofree:∀y∈sc.names,y.2≠.free
theorem qW {kindOf:Str->Option NameKind} {x:Str}:∀{binds:List (Str×Value)} {m:Str->Option Value},(∀v,(x,v)∉binds)->bindL kindOf binds m x=m x
 | [],_,_=>rfl
 | (n,v)::r,m,h=>by
  unfold bindL;rw [qW fun w hw=>h w (List.mem_cons_of_mem _ hw)];split
  ·have:x≠n:=by rintro rfl;exact h v List.mem_cons_self
   simp [this]
  ·rfl
theorem qX {kindOf:Str->Option NameKind} {x:Str}:∀{binds:List (Str×Value)} {m:Str->Option Value},(∀v,(x,v)∉binds)->bindC kindOf binds m x=m x
 | [],_,_=>rfl
 | (n,v)::r,m,h=>by
  unfold bindC;rw [qX fun w hw=>h w (List.mem_cons_of_mem _ hw)];split
  ·rfl
  ·have:x≠n:=by rintro rfl;exact h v List.mem_cons_self
   simp [this]
theorem qY {kindOf:Str->Option NameKind} {x:Str} {v:Value}:∀{P:List Str} {vs:List Value} {i:Nat} {m:Str->Option Value},P.Nodup->P[i]?=some x->vs[i]?=some v->kindOf x=some .local->
  bindL kindOf (P.zip vs) m x=some v
 | [],_,_,_,_,h,_,_=>by simp at h
 | _::_,[],_,_,_,_,h,_=>by simp at h
 | p::P,w::vs,0,m,nd,h1,h2,hk=>by
  simp at h1 h2;subst h1;subst h2;show bindL kindOf ((p,w)::P.zip vs) m p=_;unfold bindL;rw [qW fun v hv=>(List.nodup_cons.mp nd).1 (List.of_mem_zip hv).1,if_pos hk];simp
 | p::P,w::vs,i+1,m,nd,h1,h2,hk=>by
  show bindL kindOf ((p,w)::P.zip vs) m x=_;unfold bindL;exact qY (i:=i) (List.nodup_cons.mp nd).2 (by simpa using h1) (by simpa using h2) hk
theorem qZ {kindOf:Str->Option NameKind} {x:Str} {v:Value}:∀{P:List Str} {vs:List Value} {i:Nat} {m:Str->Option Value},P.Nodup->P[i]?=some x->vs[i]?=some v->kindOf x≠some .local->
  bindC kindOf (P.zip vs) m x=some v
 | [],_,_,_,_,h,_,_=>by simp at h
 | _::_,[],_,_,_,_,h,_=>by simp at h
 | p::P,w::vs,0,m,nd,h1,h2,hk=>by
  simp at h1 h2;subst h1;subst h2;show bindC kindOf ((p,w)::P.zip vs) m p=_;unfold bindC;rw [qX fun v hv=>(List.nodup_cons.mp nd).1 (List.of_mem_zip hv).1,if_neg hk];simp
 | p::P,w::vs,i+1,m,nd,h1,h2,hk=>by
  show bindC kindOf ((p,w)::P.zip vs) m x=_;unfold bindC;exact qZ (i:=i) (List.nodup_cons.mp nd).2 (by simpa using h1) (by simpa using h2) hk
noncomputable def start (N:List Str) (vs:List V):St:=vs.map some++List.replicate (N.length-vs.length) none
noncomputable def KD (CX:CXT) (P:Program) (w:World) (K:PySem.W.Frag) (mg:Str->Option Value) (base:Heap) (N:List Str) (qual:Str) (scope:Scope) (f:Addr) (cd:Value) (A:Around) (outer:List Env) (s:Shared) (H:Hp) (E:XK):Cx where
 prog:=P
 w:=w
 K:=K
 mg:=mg
 base:=base
 A:=A.deeper (envOfC qual scope s.heap.objs.size f cd)
 N:=N
 s₀:=s
 H₀:=H
 env:=envOfC qual scope s.heap.objs.size f cd
 outer:=outer
 stack:=envOfC qual scope s.heap.objs.size f cd::outer
 ex:=[]
 calm:=true
 fn:=fun _=>true
 pn:=[]
 xe:=fun e s'=>wpAny (model P w) (A.deeper (envOfC qual scope s.heap.objs.size f cd)) (leaving (envOfC qual scope s.heap.objs.size f cd) e) (fun _ s''=>CX outer H s E e s'') (fun e' s''=>CX outer H s E e' s'') s'
theorem vW {sc:Scope} {n:Nat} {x:Str} (h:sc.names.lookup x=some .cell):∃c,(cellsFrom n sc.names []).lookup x=some c:=by
 have q:=PySem.W.cellsFrom_some sc.names n [] (.inl h);exact Option.isSome_iff_exists.mp q
theorem CJ {CX:CXT} {P:Program} {w:World} {K:PySem.W.Frag} {mg:Str->Option Value} {base:Heap} {N ps:List Str} {qual:Str} {scope:Scope} {f:Addr} {cd:Value} {A:Around} {outer:List Env} {s s1:Shared} {H:Hp} {E:XK} {us:List Value} {vs:List V}
  (S:cT N ps scope) (hd:A.handled=none) (e0:aAc P w K mg base A outer s H) (hl:vs.length=ps.length) (r:Vals vs us)
  (x:InCallC s s.heap.objs.size (bindL (envOfC qual scope s.heap.objs.size f cd).kindOf (ps.zip us) fun _=>none) (cellsFrom (s.heap.objs.size+1) scope.names []) (bindC (envOfC qual scope s.heap.objs.size f cd).kindOf (ps.zip us) fun _=>none) s1) :
  Inv (KD CX P w K mg base N qual scope f cd A outer s H E) [] (start N vs) H s1:=by
 have hpl:ps.length<=N.length:=by have:=congrArg List.length S.pre;rw [List.length_take] at this;lia
 obtain ⟨h1,tk,rfl,hk⟩:=x.done;have noA:∀b:Addr,b∉(KD CX P w K mg base N qual scope f cd A outer s H E).ex:=fun b z=>absurd (show b∈([]:List Addr) from z) (by simp)
 refine ⟨⟨e0.mod,S.kind,rfl,rfl,Nat.le_refl _,fun y z c h1 h2=>?_,fun y hy=>?_,fun y c _ h=>?_,fun _=>hd,Around.frames_deeper e0.frames,.inr ⟨rfl,rfl⟩,fun b z=>absurd z (noA b),e0.bs,e0.bsz,fun b _ _=>noA b,fun b z=>absurd z (noA b),e0.z9,e0.frf⟩,
  rfl,e0.bare,Un.kept hk,⟨_,x.toInCall.ns,fun i y v h1 h2 h3=>?_⟩,fun y c h=>⟨_,x.cell y c h⟩,e0.hok.fresh (Nat.le_refl _),fun y c h=>?_,fun p hp=>absurd (show p∈([]:List (Addr×Obj)) from hp) (by simp),e0.hok.kept hk,?_⟩
 ·exact name_of_addr x.apart (PySem.mem_of_lookup h1) (PySem.mem_of_lookup h2)
 ·have hy:scope.names.lookup y=some .cell\/scope.names.lookup y=some .free:=hy;rcases hy with hy|hy
  ·exact vW hy
  ·exact absurd rfl (S.nofree _ (PySem.mem_of_lookup hy))
 ·exact Nat.le_of_lt (x.above y c (PySem.mem_of_lookup h))
 ·have hi:i<vs.length:=by
   unfold start at h2;by_cases hi:i<vs.length
   ·exact hi
   ·rw [List.getElem?_append_right (by simpa using hi)] at h2;rw [List.getElem?_replicate] at h2;split at h2 <;> cases h2
  have ha:vs[i]?=some v:=by
   unfold start at h2;rw [List.getElem?_append_left (by simpa using hi),List.getElem?_map] at h2;cases e:vs[i]? with
   | none=>rw [e] at h2;cases h2
   | some a=>rw [e] at h2;cases h2;rfl
  obtain ⟨u,hu,rv⟩:=r.get ha;have hp:ps[i]?=some y:=by
   rw [<-S.pre,List.getElem?_take_of_lt (by lia)];exact h1
  have ndP:ps.Nodup:=by rw [<-S.pre];exact S.nd.sublist (List.take_sublist _ _)
  refine ⟨u,rv,?_⟩;rcases S.par y (List.mem_of_getElem? hp) with k|k
  ·exact .inl ⟨k,qY ndP hp hu k⟩
  ·obtain ⟨c,e⟩:=vW (n:=s.heap.objs.size+1) k;refine .inr ⟨.inl k,c,e,?_⟩;have q:=x.cell y c e;rw [qZ ndP hp hu (by show scope.names.lookup y≠_;rw [k];decide)] at q;exact q
 ·exact e0.hok.fresh (Nat.le_of_lt (x.above y c (PySem.mem_of_lookup h)))
 ·unfold start;show _=N.length;rw [List.length_append,List.length_map,List.length_replicate];lia
theorem aB0 {CX:CXT} {P:Program} {w:World} {K:PySem.W.Frag} {mg:Str->Option Value} {base:Heap} {k:Nat} {f:Addr} {name qual:Str} {params:Arguments} {body:List Stmt} {scope:Scope} {dV kV doc pm cdv ct oc:Value} {an od:Option Addr}
  {osl:Array (Option Value)} {N ps:List Str} {sp:Sp} (lk:K.lookup f=some ⟨oc,od,.func (PySem.W.fnOf name qual params body scope dV kV doc pm an cdv ct),osl⟩) (hcd:PySem.W.codeIn K cdv qual=true) (S:cT N ps scope)
  (len:∀vs H Q E,sp vs H Q E->vs.length=ps.length)
  (hbody:∀(A:Around) (outer:List Env) (s:Shared) (H:Hp) (vs:List V) (Q:VK) (E:XK),m8 k (A.deeper (envOfC qual scope s.heap.objs.size f cdv))->sp vs H Q E->
   ∃t,PSs (KD CX P w K mg base N qual scope f cdv A outer s H E) body t/\t {nx:=fun _ H'=>Q .non H',rt:=Q} (start N vs) H) :
  vV P w K mg base CX (k+1) f (PySem.W.fnOf name qual params body scope dV kV doc pm an cdv ct) ps sp:=by
 refine ⟨len,fun A outer s H args us vs Q E hr e0 hb r hsp=>?_⟩;have hl:=len _ _ _ _ hsp;have KX:K.In s.heap:=e0.mod.kin.keeps fun b o e=>(e0.bs b o e).1
 have lim:s.heap.NoLimit:=e0.mod.nolimit.keeps fun b o e=>(e0.bs b o e).1
 have hkind:∀y∈ps.zip us,scope.names.lookup y.1=some .local\/(scope.names.lookup y.1=some .cell/\((cellsFrom (s.heap.objs.size+1) scope.names []).lookup y.1).isSome=true):=fun ⟨n,v⟩ hy=>by
  rcases S.par n (List.of_mem_zip hy).1 with q|q
  ·exact .inl q
  ·exact .inr ⟨q,PySem.W.cellsFrom_some _ _ _ (.inl q)⟩
 refine codeAny_call_function hr.depth (KX _ _ lk) rfl S.co S.gen rfl (PySem.W.codeRec_of KX hcd) (hb _ _ _ _ ?_);refine wpAny_newFunctionEnv_cells S.kind hkind fun env he s1 x=>?_
 subst he;refine ⟨lim.keeps x.toInCall.keep,codeAny_func ?_⟩;obtain ⟨t,ht,hq⟩:=hbody A outer s H vs Q E (hr.deeper _) hsp;have I:Inv (KD CX P w K mg base N qual scope f cdv A outer s H E) [] (start N vs) H s1:=CJ S hr.hd e0 hl r x;refine wpAny_mono (ht [] s1 (start N vs) H _ I hq) (fun fl s' hs=>?_) fun e s' hs=>hs
 have fin:∀{σ':St} {H':Hp} {v:V} {u:Value},Inv (KD CX P w K mg base N qual scope f cdv A outer s H E) [] σ' H' s'->RelV v u->Q v H'->CE outer P w H s Q u s':=
  fun {σ' H' v u} J rv q=>⟨v,H',J.os,J.bare,J.base,J.hok,rv,q⟩
 cases fl with
 | ret u=>
  obtain ⟨v,σ',H',J,rv,q⟩:=hs;exact fin J rv q
 | next=>
  obtain ⟨σ',H',J,q⟩:=hs;exact fin (v:=V.non) (u:=Value.none) J rfl q
 | brk=>
  obtain ⟨_,_,_,q⟩:=hs;exact False.elim q
 | cont=>
  obtain ⟨_,_,_,q⟩:=hs;exact False.elim q
end L2
namespace L2
open PySem PySem.Spec PyProof.Rows
section
variable {X:Cx} {x:Str} {p pos:Pos} {e:Expr} {es:List Expr} {t:TA} {id T:String} {r:List V->Hp->VK->Prop}
noncomputable def tCB (r:List V->Hp->VK->Prop) (t:TA):TE:=fun σ H Q=>t σ H fun vs H1=>r vs H1 Q
theorem vX (hc:lN X (.builtin id) r) (hg:Gl X x) (hm:X.mg x=none) (hv:bootBuiltins x=some (.builtin id)) (ha:PA X (e::es) t) (hn:x ≠ "__name__":=by decide) (hdb:nDb x:=by decide)
  (he:starEach (e::es) X.env=(false,eval e X.env)::starEach es X.env:=by rfl) (hpl:(backTo pos (starEach es X.env)).any (·.1)=false:=by rfl):PE X (.Call (.Name x p) (e::es) [] pos) (tCB r t):=by
 intro pins s σ H Q I h;refine wpAny_Call_Name_kw (nM I hg hm hv ?_ hn hdb);exact PyProof.Rows.callWith_builtin1 (thn (ha pos pins s σ H _ I h) fun us s1 ⟨vs,H1,I1,r1,q1⟩=>hc pins s1 σ H1 vs us Q I1 r1 q1) he hpl
theorem CK (hc:lN X (.type T) r) (hg:Gl X x) (hm:X.mg x=none) (hv:bootBuiltins x=some (.type T)) (ha:PA X (e::es) t) (hn:x ≠ "__name__":=by decide) (hdb:nDb x:=by decide)
  (he:starEach (e::es) X.env=(false,eval e X.env)::starEach es X.env:=by rfl) (hpl:(backTo pos (starEach es X.env)).any (·.1)=false:=by rfl):PE X (.Call (.Name x p) (e::es) [] pos) (tCB r t):=by
 intro pins s σ H Q I h;refine wpAny_Call_Name_kw (nM I hg hm hv ?_ hn hdb);exact PyProof.Rows.callWith_type1 (thn (ha pos pins s σ H _ I h) fun us s1 ⟨vs,H1,I1,r1,q1⟩=>hc pins s1 σ H1 vs us Q I1 r1 q1) he hpl
end
end L2
namespace HT
open PySem PyProof.Rows
section
open PySem.SeqAt
open PySem.AutoSeq1 (wpAny_loadPart')
open PySem.MeetsSeq PySem.MeetsSeq2 PySem.MeetsSeq3
end
section
variable {prog:Program} {w:World} {A:Around} {E:Value->Shared->Prop} {s:Shared}
theorem RT {t b:Addr} {vs ws:List Value} {Q:Value->Shared->Prop} (ht:IsTup s.heap t vs.toArray) (hb:IsTup s.heap b ws.toArray) (hv:vs≠[])
  (h1:ws=[]->Q (.ref t) s) (h2:ws≠[]->Q (.ref s.heap.objs.size) {s with heap:=s.heap.push {cls:=.type "tuple",data:=.seq (vs++ws).toArray}})
  (hsz:vs.length+ws.length<=sizeLine):wpAny (model prog w) A (binaryOp .Add (.ref t) (.ref b)) Q E s:=by
 obtain ⟨⟨cls,dd,data,sl⟩,ho,hc,n,hd⟩:=id ht;obtain ⟨⟨cls2,dd2,data2,sl2⟩,ho2,hc2,n2,hd2⟩:=id hb;simp only at hc hd hc2 hd2;subst hc hd hc2 hd2;have e:vs.toArray++ws.toArray=(vs++ws).toArray:=by simp
 by_cases hw:ws=[]
 ·exact concat_meets ⟨_,ho,rfl⟩ ⟨_,ho2,rfl⟩ noFill_tuple_add seq_tuple_add PySem.F.slot_tuple_add PySem.F.entry_tuple_add (PySem.F.args_tuple_add_2 _ _)
   (tuple_addW1 t b vs.toArray ws.toArray n n2 dd dd2 sl sl2 (by simpa using hv) (by simp [hw])) ⟨ho,ho2,h1 hw⟩
 ·refine concat_meets ⟨_,ho,rfl⟩ ⟨_,ho2,rfl⟩ noFill_tuple_add seq_tuple_add PySem.F.slot_tuple_add PySem.F.entry_tuple_add (PySem.F.args_tuple_add_2 _ _)
   (tuple_addW2 t b vs.toArray ws.toArray n n2 dd dd2 sl sl2 (by simpa using hv) (by simpa using hw) (by rw [List.size_toArray,List.size_toArray];exact hsz)) ⟨ho,ho2,?_⟩
  rw [e];exact h2 hw
noncomputable def sIx (n d:Nat):Option Int->Nat
 | none=>d
 | some v=>if v<0 then (v+(n:Int)).toNat else min v.toNat n
theorem W6 (n d:Nat) (hd:d<=n) (o:Option Int):sIx n d o<=n:=by
 cases o with
 | none=>exact hd
 | some v=>
  show (if v<0 then (v+(n:Int)).toNat else min v.toNat n)<=n;by_cases hv:v<0
  ·rw [if_pos hv];lia
  ·rw [if_neg hv];exact Nat.min_le_right _ _
theorem CN (v:Int) (n d:Nat):(if v<0 then max (v+(n:Int)) 0 else min v (n:Int))=((sIx n d (some v):Nat):Int):=by
 show (if v<0 then max (v+(n:Int)) 0 else min v (n:Int))=(((if v<0 then (v+(n:Int)).toNat else min v.toNat n):Nat):Int);by_cases hv:v<0
 ·simp only [if_pos hv];lia
 ·simp only [if_neg hv];lia
theorem yN (lo hi:Option Int) (n:Nat):Builtin.Slice.sliceAdjust lo hi 1 (n:Int)=(((sIx n 0 lo:Nat):Int),((sIx n n hi:Nat):Int)):=by
 have h1:¬((1:Int)<0):=by lia
 unfold Builtin.Slice.sliceAdjust;simp only [h1,if_false];refine Prod.ext ?_ ?_
 ·cases lo with
  | none=>rfl
  | some v=>exact CN v n 0
 ·cases hi with
  | none=>rfl
  | some v=>exact CN v n n
theorem yO (i j:Nat):Builtin.Slice.slicePlaces (i:Int) (j:Int) 1=j-i:=by
 unfold Builtin.Slice.slicePlaces;have h1:(1:Int) > 0:=by lia
 simp only [h1,if_true,Int.ediv_one];split <;> lia
theorem pC {v:Value} {o:Option Int} {Q:Option Int->Shared->Prop} (p:IsPart v o) (h:Q o s):wpAny (model prog w) A (Builtin.Slice.slicePartIndex v) Q E s:=by
 cases p with
 | none=>exact slicePart_none h
 | int i t=>exact slicePart_int h
theorem m9 {sl:Addr} {vl vu:Value} {lo hi:Option Int} {n:Nat} {Q:Int×Int×Nat->Shared->Prop} (hs:s.heap.IsSliceOf sl vl vu .none) (pl:IsPart vl lo) (pu:IsPart vu hi)
  (h:Q (((sIx n 0 lo:Nat):Int),1,sIx n n hi-sIx n 0 lo) s):wpAny (model prog w) A (Builtin.Slice.sliceApplied (.ref sl) (pure (n:Int))) Q E s:=by
 obtain ⟨os,hos,hcs,hds⟩:=id hs;unfold Builtin.Slice.sliceApplied Builtin.Slice.sliceFields;refine wpAny_bind (wpAny_bind (wpAny_field hos hds (x:=vl) rfl (wpAny_bind (wpAny_field hos hds (x:=vu) rfl (wpAny_bind (wpAny_field hos hds (x:=.none) rfl (wpAny_pure ?_)))))));refine wpAny_bind (slicePart_none ?_);show wpAny _ _ (if ((1:Int)==0)=true then _ else _) _ _ s;rw [if_neg (by decide)];refine wpAny_bind (pC pl (wpAny_bind (pC pu (wpAny_bind (wpAny_pure ?_)))));show wpAny _ _ (match Builtin.Slice.sliceAdjust lo hi 1 (n:Int) with|(lo,hi)=>pure (lo,(1:Int),Builtin.Slice.slicePlaces lo hi 1)) _ _ s;rw [yN lo hi n];show wpAny _ _ (pure (((sIx n 0 lo:Nat):Int),(1:Int),Builtin.Slice.slicePlaces ((sIx n 0 lo:Nat):Int) ((sIx n n hi:Nat):Int) 1)) _ _ s;rw [yO];exact wpAny_pure h
theorem K6 (xs:Array Value) (i k:Nat):((List.range k).filterMap fun (m:Nat)=>xs[((i:Int)+(m:Int)*1).toNat]?).toArray=((xs.toList.drop i).take k).toArray:=by
 have e:(fun (m:Nat)=>xs[((i:Int)+(m:Int)*1).toNat]?)=fun m=>xs[i+m]?:=by
  funext m
  have:((i:Int)+(m:Int)*1).toNat=i+m:=by lia
  rw [this]
 rw [e];have:=pick_run xs i k;rw [List.filterMap_map] at this;have e2:((fun x=>xs[x]?) ∘ fun x=>i+x)=fun m=>xs[i+m]?:=rfl
 rw [e2] at this;rw [this]
theorem lO {t sl:Addr} {items:Array Value} {vl vu:Value} {lo hi:Option Int} {Q:Value->Shared->Prop} (ht:IsTup s.heap t items) (hs:s.heap.IsSliceOf sl vl vu .none) (pl:IsPart vl lo) (pu:IsPart vu hi)
  (hw:¬(sIx items.size 0 lo=0/\sIx items.size items.size hi=items.size))
  (h:Q (.ref s.heap.objs.size) {s with heap:=s.heap.push {cls:=.type "tuple",data:=.seq ((items.toList.drop (sIx items.size 0 lo)).take (sIx items.size items.size hi-sIx items.size 0 lo)).toArray}})
  (hsz:items.size<=sizeLine):wpAny (model prog w) A (getItem (.ref t) (.ref sl)) Q E s:=by
 have htake:sizeOk (.seq ((items.toList.drop (sIx items.size 0 lo)).take (sIx items.size items.size hi-sIx items.size 0 lo)).toArray):=by
  show ((items.toList.drop (sIx items.size 0 lo)).take (sIx items.size items.size hi-sIx items.size 0 lo)).toArray.size<=sizeLine;rw [List.size_toArray,List.length_take,List.length_drop,Array.length_toList];lia
 have hj:sIx items.size items.size hi<=items.size:=W6 _ _ (Nat.le_refl _) hi;obtain ⟨os,hos,hcs,hds⟩:=id hs;have hTs:s.TypeIs (.ref sl) "slice":=⟨os,hos,hcs⟩
 unfold getItem
 try with_reducible refine wpAny_holding ?_
 first|refine wpAny_bind (wpAny_pure ?_)|skip
 refine wpAny_bind (wpAny_sequenceKey ht.typeIs (by decide) ?_);refine wpAny_bind (wpAny_callSpecial?_slot (name:=Str.ofString "__getitem__") ht.typeIs PyProof.Rows.slot_tuple_getitem
  (wpAny_call_entry PyProof.Rows.slot_tuple_getitem ht.typeIs entry_tuple_getitem ?_ (args_tuple_getitem _ _)))
 show wpAny _ _ (Builtin.Tuple.tupleItemsOf (.ref t) >>= _) _ _ s;refine wpAny_bind (tupleItemsOf_ ht ?_);refine wpAny_bind (wpAny_typeOf hTs ?_);rw [if_pos (by decide)];refine wpAny_bind (m9 hs pl pu ?_);have hno:¬((((sIx items.size 0 lo:Nat):Int)==0&&(1:Int)==1&&(sIx items.size items.size hi-sIx items.size 0 lo)==items.size)=true):=by
  intro q;rw [Bool.and_eq_true,Bool.and_eq_true] at q;have q1:((sIx items.size 0 lo:Nat):Int)=0:=eq_of_beq q.1.1;have q2:sIx items.size items.size hi-sIx items.size 0 lo=items.size:=eq_of_beq q.2;exact hw ⟨by lia,by lia⟩
 show wpAny _ _ (if (((sIx items.size 0 lo:Nat):Int)==0&&(1:Int)==1&&(sIx items.size items.size hi-sIx items.size 0 lo)==items.size)=true then _ else _) _ _ s;rw [if_neg hno,K6]
 first
  | exact wpAny_bind (m:=Builtin.Tuple.tupleExact _) (wpAny_newObj_type (wpAny_pure ⟨_,rfl,wpAny_pure h⟩) htake)
  | exact wpAny_bind (m:=Builtin.Tuple.tupleExact _) (wpAny_newObj_type (wpAny_bind (wpAny_pure (wpAny_pure ⟨_,rfl,wpAny_pure h⟩))) htake)
  | exact wpAny_bind (wpAny_bind (m:=Builtin.Tuple.tupleExact _) (wpAny_newObj_type (wpAny_pure (wpAny_pure ⟨_,rfl,wpAny_pure h⟩)) htake))
  | exact wpAny_bind (wpAny_bind (m:=Builtin.Tuple.tupleExact _) (wpAny_newObj_type (wpAny_pure ⟨_,rfl,wpAny_pure h⟩) htake))
end
end HT
namespace L2
open PySem PySem.Spec PyProof.Rows
abbrev TO:=St->Hp->(Option Int->Hp->Prop)->Prop
noncomputable def PO (X:Cx) (e:Option Expr) (t:TO):Prop:=
 ∀(pins:List (Addr×Obj)) (s:Shared) (σ:St) (H:Hp) (Q:Option Int->Hp->Prop),Inv X pins σ H s->t σ H Q->
  wpAny (model X.prog X.w) X.A (evalPart e X.env) (fun u s'=>∃o H',Inv X pins σ H' s'/\IsPart u o/\Q o H') X.xe s
def RV:TO:=fun _ H Q=>Q none H
def aB1 (t:TE):TO:=fun σ H Q=>t σ H fun x H1=>∃i,x=.int i/\Q (some i) H1
section
variable {X:Cx} {e:Expr} {te:TE} {lo hi:Option Expr} {tl th:TO} {pos p2:Pos}
theorem RX:PO X none RV:=by
 intro pins s σ H Q I h;rw [evalPart_none];exact wpAny_pure ⟨none,H,I,.none,h⟩
theorem RZ (h:PE X e te):PO X (some e) (aB1 te):=by
 intro pins s σ H Q I hw;rw [evalPart_some];refine thn (h pins s σ H _ I hw) fun u s1 ⟨x,H1,I1,r1,q1⟩=>?_
 obtain ⟨i,rfl,q⟩:=q1;obtain ⟨t,rfl⟩:=r1;exact ⟨some i,H1,I1,.int i t,q⟩
noncomputable def SlR (X:Cx) (r:V->Option Int->Option Int->Hp->VK->Prop):Prop:=
 ∀(pins:List (Addr×Obj)) (s:Shared) (σ:St) (H:Hp) (x:V) (v vl vu:Value) (lo hi:Option Int) (sl:Addr) (Q:VK),Inv X pins σ H s->RelV x v->s.heap.IsSliceOf sl vl vu .none->IsPart vl lo->IsPart vu hi->r x lo hi H Q->
  ∃T id,typeLookup (.type T) "__getitem__" = pure (some (.builtin id))/\s.TypeIs v T/\wpAny (model X.prog X.w) X.A (getItem v (.ref sl)) (EP X pins σ Q) X.xe s
noncomputable def tSl (r:V->Option Int->Option Int->Hp->VK->Prop) (te:TE) (tl th:TO):TE:=fun σ H Q=>te σ H fun x H1=>tl σ H1 fun l H2=>th σ H2 fun u H3=>r x l u H3 Q
theorem K7 {r:V->Option Int->Option Int->Hp->VK->Prop} (hr:SlR X r) (he:PE X e te) (hl:PO X lo tl) (hu:PO X hi th):PE X (.Subscript e (.Slice lo hi none p2) pos) (tSl r te tl th):=by
 intro pins s σ H Q I h;refine Subscript_ (thn (he pins s σ H _ I h) fun v s1 ⟨x,H1,I1,r1,q1⟩=>?_);refine wpAny_Slice (thn (hl pins s1 σ H1 _ I1 q1) fun vl s2 ⟨l,H2,I2,pl,q2⟩=>thn (hu pins s2 σ H2 _ I2 q2) fun vu s3 ⟨u,H3,I3,pu,q3⟩=>?_);rw [evalPart_none];refine wpAny_pure ?_;have I4:Inv X pins σ H3 {s3 with heap:=s3.heap.push {cls:=.type "slice",data:=.fields #[vl,vu,.none]}}:=I3.kept (t':=s3.toks) fun b ob q=>Heap.get?_push_of_some _ q
 obtain ⟨T,id,hT,ht,hg⟩:=hr pins {s3 with heap:=s3.heap.push {cls:=.type "slice",data:=.fields #[vl,vu,.none]}} σ H3 x v vl vu l u s3.heap.objs.size Q I4 r1 (Heap.IsSliceOf.new ..) pl pu q3;show wpAny (model X.prog X.w) X.A (subscriptTail e (.Slice lo hi none p2) v (.ref s3.heap.objs.size)) (EP X pins σ Q) X.xe {s3 with heap:=s3.heap.push {cls:=.type "slice",data:=.fields #[vl,vu,.none]}};exact tail_any (ops:=[.ref s3.heap.objs.size,v]) ht hT hg (by with_unfolding_all rfl)
noncomputable def CP (xs:List V) (lo hi:Option Int):List V:=(xs.drop (HT.sIx xs.length 0 lo)).take (HT.sIx xs.length xs.length hi-HT.sIx xs.length 0 lo)
theorem nU (xs:List V) (lo hi:Option Int):(CP xs lo hi).length<=xs.length:=by
 unfold CP;rw [List.length_take,List.length_drop];lia
noncomputable def aCe (K:PySem.W.Frag):V->Option Int->Option Int->Hp->VK->Prop:=fun x lo hi H Q=>∃a xs,x=.ref a/\SqT K H a xs/\
 ¬(HT.sIx xs.length 0 lo=0/\HT.sIx xs.length xs.length hi=xs.length)/\∀p,H p=none->Q (.ref p) (upd H p (.tup (CP xs lo hi)))
theorem W7:SlR X (aCe X.K):=by
 intro pins s σ H x v vl vu lo hi sl Q I rx hs pl pu h;obtain ⟨a,xs,rfl,hx,hw,q⟩:=h;cases rx;obtain ⟨its,r,ht,hz⟩:=I.tuple hx;have hlen:its.toArray.size=xs.length:=by rw [List.size_toArray];exact r.length.symm
 refine ⟨"tuple",_,PyProof.Rows.slot_tuple_getitem.lookup,ht.typeIs,?_⟩;refine HT.lO ht hs pl pu (by rw [hlen];exact hw) ?_ (by rw [hlen];exact hz);rw [hlen];refine ⟨.ref s.heap.objs.size,_,I.laid (t':=s.toks) (o:=.tup (CP xs lo hi)) (fun b ob q=>Heap.get?_push_of_some _ q) (Nat.le_refl _) ?_,rfl,q _ (I.hok.fresh (Nat.le_refl _))⟩;exact ⟨Nat.le_trans (nU xs lo hi) hz,_,(r.drop (HT.sIx xs.length 0 lo)).take (HT.sIx xs.length xs.length hi-HT.sIx xs.length 0 lo),g_.new _ _⟩
noncomputable def aB2 (K:PySem.W.Frag):R2:=fun x y H Q=>∃a b xs ys,x=.ref a/\y=.ref b/\SqT K H a xs/\SqT K H b ys/\xs≠[]/\xs.length+ys.length<=sizeLine/\
 (ys=[]->Q (.ref a) H)/\(ys≠[]->∀p,H p=none->Q (.ref p) (upd H p (.tup (xs++ys))))
theorem Vals.nW {xs:List V} {us:List Value} (r:Vals xs us):us=[]↔xs=[]:=by
 cases r with
 | nil=>simp
 | cons _ _=>simp
theorem R0:OpR X (binaryOp .Add) (aB2 X.K):=by
 intro pins s σ H x y v u Q I rx ry h;obtain ⟨a,b,xs,ys,rfl,rfl,ha,hb,hx,hz,q1,q2⟩:=h;cases rx;cases ry;obtain ⟨its,r1,p1,_⟩:=I.tuple ha;obtain ⟨its2,r2,p2,_⟩:=I.tuple hb;refine HT.RT p1 p2 (fun z=>hx (r1.nW.mp z)) (fun z=>⟨.ref a,H,I,rfl,q1 (r2.nW.mp z)⟩) (fun z=>?_) (by rw [<-r1.length,<-r2.length];exact hz);refine ⟨.ref s.heap.objs.size,_,I.laid (t':=s.toks) (o:=.tup (xs++ys)) (fun b ob q=>Heap.get?_push_of_some _ q) (Nat.le_refl _) ?_,rfl,q2 (fun w=>z (r2.nW.mpr w)) _ (I.hok.fresh (Nat.le_refl _))⟩;exact ⟨by rw [List.length_append];exact hz,_,r1.append r2,g_.new _ _⟩
end
end L2
namespace L2
open PySem PySem.Spec PyProof.Rows
noncomputable def ixN (n:Nat) (i:Int):Option Nat:=if 0<=i then (if i<n then some i.toNat else none) else if -(n:Int)<=i then some (i+n).toNat else none
noncomputable def atI {α:Type} (xs:List α) (i:Int):Option α:=(ixN xs.length i).bind fun j=>xs[j]?
theorem CQ {n:Nat} {i:Int} {j:Nat} (h:ixN n i=some j):seqIndex? i n=some j/\j<n/\-(n:Int)<=i/\i<n:=by
 unfold ixN at h;by_cases h0:0<=i
 ·rw [if_pos h0] at h;by_cases h1:i<n
  ·rw [if_pos h1] at h;have e:i.toNat=j:=Option.some.inj h;exact ⟨by rw [seqIndex_of h0 h1,e],by lia,by lia,h1⟩
  ·rw [if_neg h1] at h;cases h
 ·rw [if_neg h0] at h;by_cases h1:-(n:Int)<=i
  ·rw [if_pos h1] at h;have e:(i+n).toNat=j:=Option.some.inj h;exact ⟨by rw [seqIndex_neg (by lia) h1,e],by lia,h1,by lia⟩
  ·rw [if_neg h1] at h;cases h
theorem uG {α:Type} {xs:List α} {i:Int} {v:α} (h:atI xs i=some v):∃j,seqIndex? i xs.length=some j/\xs[j]?=some v/\j<xs.length/\-(xs.length:Int)<=i/\i<xs.length:=by
 unfold atI at h;cases e:ixN xs.length i with
 | none=>rw [e] at h;cases h
 | some j=>
  rw [e] at h;obtain ⟨h1,h2,h3,h4⟩:=CQ e;exact ⟨j,h1,h,h2,h3,h4⟩
noncomputable def uH (b:Expr):Prop:=∀o i,subscripted b false o i=operate [o,i] (getItem o i)
noncomputable def IxR (X:Cx) (r:R2):Prop:=
 ∀(value slice:Expr) (pins:List (Addr×Obj)) (s:Shared) (σ:St) (H:Hp) (x y:V) (v u:Value) (Q:VK),Inv X pins σ H s->RelV x v->RelV y u->r x y H Q->
  subscripted slice false v u=operate [v,u] (getItem v u)->wpAny (model X.prog X.w) X.A (subscriptTail value slice v u) (EP X pins σ Q) X.xe s
noncomputable def MtR (X:Cx) (id:String) (r:V->List V->Hp->VK->Prop):Prop:=
 ∀(pins:List (Addr×Obj)) (s:Shared) (σ:St) (H:Hp) (x:V) (xs:List V) (v:Value) (us:List Value) (Q:VK),Inv X pins σ H s->RelV x v->Vals xs us->r x xs H Q->
  wpAny (model X.prog X.w) X.A (call (.builtin id) (v::us)) (EP X pins σ Q) X.xe s
section
variable {X:Cx} {a b:Expr} {ta tb:TE} {pos:Pos}
theorem W8 {r:R2} (hr:IxR X r) (ha:PE X a ta) (hb:PE X b tb) (hs:uH b):PE X (.Subscript a b pos) (tOp r ta tb):=by
 intro pins s σ H Q I h;exact Subscript_ (aAt ha hb I h fun v u s2 x y H2 I2 rx ry q=>hr a b pins s2 σ H2 x y v u Q I2 rx ry q (hs _ _))
noncomputable def aCf (K:PySem.W.Frag):R2:=fun x y H Q=>∃p xs i v,x=.ref p/\y=.int i/\SqL K H p xs/\atI xs i=some v/\Q v H
noncomputable def aCg (K:PySem.W.Frag):R2:=fun x y H Q=>∃p xs i v,x=.ref p/\y=.int i/\SqT K H p xs/\atI xs i=some v/\Q v H
noncomputable def aCh:R2:=fun x y H Q=>∃z i c,x=.str z/\y=.int i/\z.length<=sizeLine/\atI z.cps.toList i=some c/\Q (.str ⟨#[c]⟩) H
theorem uI:IxR X (aCf X.K):=by
 intro value slice pins s σ H x y v u Q I rx ry h hs;obtain ⟨p,xs,i,z,rfl,rfl,hq,he,q⟩:=h;cases rx;obtain ⟨t,rfl⟩:=ry;obtain ⟨its,r,pl,hz⟩:=I.list hq;obtain ⟨j,h1,h2,h3,h4,h5⟩:=uG he;obtain ⟨w,ew,rw'⟩:=r.get h2;have hl:=r.length;have hn:=nQ;have fin:EP X pins σ Q w s:=⟨z,H,I,rw',q⟩
 by_cases h0:0<=i
 ·have hj:i.toNat=j:=by
   rw [seqIndex_of h0 h5] at h1;exact Option.some.inj h1
  exact item_listR pl.isList h0 (by lia) (by rw [hj];simpa using ew) fin hs
 ·have hj:(i+(its.toArray.size:Int)).toNat=j:=by
   rw [seqIndex_neg (by lia) h4] at h1;rw [List.size_toArray,<-hl];exact Option.some.inj h1
  exact subscriptTail_builtinR (x:=w) pl.isList.typeIs slot_list_getitem.lookup
   (wpAny_getItem_list_neg (Q:=fun r s'=>r=w/\EP X pins σ Q r s') pl.isList (by lia) (by rw [List.size_toArray] <;> lia) (by lia) (by rw [hj];simpa using ew) ⟨rfl,fin⟩) hs
theorem W9:IxR X (aCg X.K):=by
 intro value slice pins s σ H x y v u Q I rx ry h hs;obtain ⟨p,xs,i,z,rfl,rfl,hq,he,q⟩:=h;cases rx;obtain ⟨t,rfl⟩:=ry;obtain ⟨its,r,pl,hz⟩:=I.tuple hq;obtain ⟨j,h1,h2,h3,h4,h5⟩:=uG he;obtain ⟨w,ew,rw'⟩:=r.get h2;have hl:=r.length;have hn:=nQ;have fin:EP X pins σ Q w s:=⟨z,H,I,rw',q⟩
 exact subscriptTail_builtinR (x:=w) pl.typeIs slot_tuple_getitem.lookup
  (getItem_tuple (j:=j) (Q:=fun r s'=>r=w/\EP X pins σ Q r s') pl (by lia) (by lia) (by rw [List.size_toArray,<-hl];exact h1) (by simpa using ew) ⟨rfl,fin⟩) hs
theorem W_:IxR X aCh:=by
 intro value slice pins s σ H x y v u Q I rx ry h hs;obtain ⟨z,i,c,rfl,rfl,hz,he,q⟩:=h;obtain ⟨t,rfl⟩:=rx;obtain ⟨t',rfl⟩:=ry;obtain ⟨j,h1,h2,h3,h4,h5⟩:=uG he;have hl:z.cps.toList.length=z.length:=by simp [Str.length]
 rw [hl] at h1 h4 h5;have hn:=nQ;exact tail_any (typeIs_str s z t) slot_str_getitem.lookup (getItem_str (c:=c) (by
  have e1:decide (i < -(2 ^ 63:Int))=false:=decide_eq_false (by lia);have e2:decide (i >= 2 ^ 63)=false:=decide_eq_false (by lia);rw [e1,e2,Bool.or_false]) (by rw [h1];simpa using h2) ⟨.str ⟨#[c]⟩,H,I.tok _,⟨_,rfl⟩,q⟩) hs
theorem yP (its:List Value) (n j:Nat) (u:Value):Obj.mapSeq (·.setIfInBounds j u) {cls:=.type "list",data:=.seq its.toArray n}={cls:=.type "list",data:=.seq (its.set j u).toArray n}:=by
 simp [Obj.mapSeq]
theorem Inv.lst {pins:List (Addr×Obj)} {σ:St} {H:Hp} {s:Shared} {p:Addr} {xs:List V} (I:Inv X pins σ H s) (h:H p=some (.lst xs)) :
  ∃(its:List Value) (n:Nat),Vals xs its/\s.heap.get? p=some {cls:=.type "list",data:=.seq its.toArray n}/\xs.length<=sizeLine:=by
 obtain ⟨z,its,n,r,e⟩:=I.hok p _ h;exact ⟨its,n,r,e,z⟩
theorem Inv.XC {pins:List (Addr×Obj)} {σ:St} {H:Hp} {s:Shared} {p:Addr} {xs ys:List V} {its its':List Value} {n n':Nat} {f:Obj->Obj} (I:Inv X pins σ H s) (h:H p=some (.lst xs))
  (ho:s.heap.get? p=some {cls:=.type "list",data:=.seq its.toArray n}) (hf:f {cls:=.type "list",data:=.seq its.toArray n}={cls:=.type "list",data:=.seq its'.toArray n'}) (r:Vals ys its') (hz:ys.length<=sizeLine) (t:Nat) :
  Inv X pins σ (upd H p (.lst ys)) {s with heap:=s.heap.update p f,toks:=t}:=by
 have e:(s.heap.update p f).get? p=some {cls:=.type "list",data:=.seq its'.toArray n'}:=by
  rw [Heap.get?_update_self f ho (by rw [hf] <;> rfl),hf]
 refine I.write (x:=p) (e:=p) (by rw [h];trivial) (.inl rfl) (fun b u hb q=>(Heap.get?_update_other _ _ (Ne.symm hb)).trans q) ⟨_,e⟩ ?_;exact ⟨hz,its',n',r,e⟩
noncomputable def aB3:V->V->V->Hp->(Hp->Prop)->Prop:=fun o i v H Q=>∃p xs k j,o=.ref p/\i=.int k/\H p=some (.lst xs)/\ixN xs.length k=some j/\Q (upd H p (.lst (xs.set j v)))
theorem set_list:aC7 X aB3:=by
 intro pins s σ H o i v ov iv u Q I ro ri rv h;obtain ⟨p,xs,k,j,rfl,rfl,hp,hj,q⟩:=h;cases ro;obtain ⟨t,rfl⟩:=ri;obtain ⟨its,n,r,ho,hz⟩:=I.lst hp;obtain ⟨h1,h2,h3,h4⟩:=CQ hj;have hl:=r.length;have hn:=nQ;have I':Inv X pins σ (upd H p (.lst (xs.set j v))) {s with heap:=s.heap.update p (Obj.mapSeq (·.setIfInBounds j u))}:=
  I.XC hp ho (yP its n j u) (r.set rv j) (by rw [List.length_set];exact hz) s.toks
 by_cases h0:0<=k
 ·have hk:k.toNat=j:=by
   rw [seqIndex_of h0 h4] at h1;exact Option.some.inj h1
  exact PySem.W.ki_setAt ho h0 (by lia) (by rw [List.size_toArray,<-hl];exact h4) (by rw [hk];exact ⟨_,I',q⟩)
 ·have hk:(k+(its.toArray.size:Int)).toNat=j:=by
   rw [seqIndex_neg (by lia) h3] at h1;rw [List.size_toArray,<-hl];exact Option.some.inj h1
  exact PySem.W.ki_setBack ho (by lia) (by rw [List.size_toArray,<-hl];exact h3) (by lia) (by rw [hk];exact ⟨_,I',q⟩)
theorem q_ (lo hi:Option Int) (n:Nat):(sliceBounds lo hi none n).1=((HT.sIx n 0 lo:Nat):Int)/\(sliceBounds lo hi none n).2.1=((HT.sIx n n hi:Nat):Int)/\(sliceBounds lo hi none n).2.2=1:=by
 refine ⟨?_,?_,rfl⟩
 ·cases lo with
  | none=>simp [sliceBounds,HT.sIx]
  | some i=>
   simp only [sliceBounds,HT.sIx,Option.getD_none,show (1:Int) > 0 by decide,if_true];by_cases h:i<0
   ·simp only [h,if_true] <;> lia
   ·simp only [h,if_false] <;> lia
 ·cases hi with
  | none=>simp [sliceBounds,HT.sIx]
  | some i=>
   simp only [sliceBounds,HT.sIx,Option.getD_none,show (1:Int) > 0 by decide,if_true];by_cases h:i<0
   ·simp only [h,if_true] <;> lia
   ·simp only [h,if_false] <;> lia
theorem pP (its:List Value) (lo hi:Option Int):slicePick its.toArray lo hi none=((its.drop (HT.sIx its.length 0 lo)).take (HT.sIx its.length its.length hi-HT.sIx its.length 0 lo)).toArray:=by
 obtain ⟨h1,h2,h3⟩:=q_ lo hi its.toArray.size;unfold slicePick;rw [h1,h2,h3];simp only [sliceRange_one,pick_run,List.size_toArray] <;> rfl
noncomputable def aCi (K:PySem.W.Frag):V->Option Int->Option Int->Hp->VK->Prop:=fun x lo hi H Q=>∃a xs,x=.ref a/\SqL K H a xs/\∀p,H p=none->Q (.ref p) (upd H p (.lst (CP xs lo hi)))
theorem CT:SlR X (aCi X.K):=by
 intro pins s σ H x v vl vu lo hi sl Q I rx hs pl pu h;obtain ⟨a,xs,rfl,hx,q⟩:=h;cases rx;obtain ⟨its,r,ht,hz⟩:=I.list hx;have hlen:=r.length;refine ⟨"list",_,slot_list_getitem.lookup,ht.isList.typeIs,?_⟩;refine wpAny_getItem_list_slice ht.isList hs pl pu .none (by simp) ?_ (by rw [List.size_toArray] <;> lia);rw [pP,<-hlen];refine ⟨.ref s.heap.objs.size,_,I.laid (t':=s.toks) (o:=.lst (CP xs lo hi)) (fun b ob q=>Heap.get?_push_of_some _ q) (Nat.le_refl _) ?_,rfl,q _ (I.hok.fresh (Nat.le_refl _))⟩;exact ⟨Nat.le_trans (nU xs lo hi) hz,_,0,(r.drop (HT.sIx xs.length 0 lo)).take (HT.sIx xs.length xs.length hi-HT.sIx xs.length 0 lo),Heap.get?_push_size _ rfl⟩
theorem gJ:lN X (.builtin "len") (fun xs H Q=>∃p ys,xs=[.ref p]/\(SqL X.K H p ys\/SqT X.K H p ys)/\Q (.int ys.length) H):=by
 intro pins s σ H xs us Q I r h;obtain ⟨p,ys,rfl,hq,q⟩:=h;obtain ⟨u,rfl,rx⟩:=vals1 r;cases rx;have hn:=nQ;rcases hq with hq|hq
 ·obtain ⟨its,r',pl,hz⟩:=I.list hq;have hlen:=r'.length;exact Calls.call_len_list pl.isList (by simp only [List.size_toArray] <;> lia) ⟨.int ys.length,H,I.tok _,⟨s.toks+1,by rw [List.size_toArray,hlen]⟩,q⟩
 ·obtain ⟨its,r',pl,hz⟩:=I.tuple hq;have hlen:=r'.length;exact len_tuple pl (by simp only [List.size_toArray] <;> lia) ⟨.int ys.length,H,I.tok _,⟨s.toks+1,by rw [List.size_toArray,hlen]⟩,q⟩
theorem rA:lN X (.builtin "len") (fun xs H Q=>∃z,xs=[.str z]/\z.length<=sizeLine/\Q (.int z.length) H):=by
 intro pins s σ H xs us Q I r h;obtain ⟨z,rfl,hz,q⟩:=h;obtain ⟨u,rfl,t,rfl⟩:=vals1 r;have hn:=nQ;exact len_str (by lia) ⟨.int z.length,H,I.tok _,⟨_,rfl⟩,q⟩
theorem kO:lN X (.type "tuple") (fun xs H Q=>∃p ys,xs=[.ref p]/\((SqL X.K H p ys/\∀l,H l=none->Q (.ref l) (upd H l (.tup ys)))\/(SqT X.K H p ys/\Q (.ref p) H))):=by
 intro pins s σ H xs us Q I r h;obtain ⟨p,ys,rfl,h⟩:=h;obtain ⟨u,rfl,rx⟩:=vals1 r;cases rx;rcases h with ⟨hq,q⟩|⟨hq,q⟩
 ·obtain ⟨its,r',pl,hz⟩:=I.list hq;have hlen:=r'.length;refine call_tuple_list pl.isList (fun h' kp=>?_) (by simp only [List.size_toArray] <;> lia);have I1:Inv X pins σ H {s with heap:=h'}:=I.kept (t':=s.toks) kp;have I2:Inv X pins σ (upd H h'.objs.size (.tup ys)) {s with heap:=h'.push {cls:=.type "tuple",data:=.seq its.toArray}}:=
   I1.laid (t':=s.toks) (fun b o e=>Heap.get?_push_of_some _ e) (Nat.le_refl _) (show h_ X.prog X.w _ _ _ (.tup ys) from ⟨hz,its,r',g_.new _ _⟩)
  exact ⟨.ref h'.objs.size,_,I2,rfl,q _ (I1.hok.fresh (Nat.le_refl _))⟩
 ·obtain ⟨its,r',pl,hz⟩:=I.tuple hq;exact call_tuple_same pl ⟨.ref p,H,I,rfl,q⟩
noncomputable def tyV (K:PySem.W.Frag) (T:String) (x:V) (H:Hp):Prop:=match x with
 | .str _=>T = "str"
 | .int _=>T = "int"
 | .ref p=>(T = "list"/\∃xs,SqL K H p xs)\/(T = "tuple"/\((∃o,K.lookup p=some o/\o.cls=.type "tuple"/\o.dict=none)\/∃xs,H p=some (.tup xs)))\/
   (T = "dict"/\((∃kvs,H p=some (.dK kvs))\/∃kvs,H p=some (.dT kvs)))\/(T = "set"/\∃S n,H p=some (.set S n))
 | _=>False
theorem PK {pins:List (Addr×Obj)} {σ:St} {H:Hp} {s:Shared} {T:String} {x:V} {v:Value} (I:Inv X pins σ H s) (r:RelV x v) (ty:tyV X.K T x H) :
  s.TypeIs v T/\∀a,v=.ref a->∃ob,s.heap.get? a=some ob/\ob.dict=none:=by
 cases x with
 | str z=>
  obtain ⟨t,rfl⟩:=r;cases (show T = "str" from ty);exact ⟨typeIs_str s z t,fun _ e=>nomatch e⟩
 | int i=>
  obtain ⟨t,rfl⟩:=r;cases (show T = "int" from ty);exact ⟨typeIs_int s i t,fun _ e=>nomatch e⟩
 | ref p=>
  cases r;rcases ty with ⟨rfl,xs,hq⟩|⟨rfl,⟨o,hk,hc,hd⟩|⟨xs,hk⟩⟩|⟨rfl,hk⟩|⟨rfl,S,n,hk⟩
  ·obtain ⟨its,_,pl,_⟩:=I.list hq;refine ⟨pl.isList.typeIs,fun a e=>?_⟩;cases e;obtain ⟨o,n,e,c,hd,_⟩:=pl;exact ⟨o,e,hd⟩
  ·refine ⟨⟨o,I.kIn p o hk,hc⟩,fun a e=>?_⟩;cases e;exact ⟨o,I.kIn _ o hk,hd⟩
  ·obtain ⟨_,its,_,pl⟩:=I.hok p _ hk;refine ⟨(g_.tup pl).typeIs,fun a e=>?_⟩;cases e;exact g_.bare pl
  ·have z:∃o,s.heap.get? p=some o/\o.ExactDict:=by
    rcases hk with ⟨kvs,hk⟩|⟨kvs,hk⟩
    ·obtain ⟨_,_,_,_,o,_,_,e,ex,_⟩:=I.hok p _ hk;exact ⟨o,e,ex⟩
    ·obtain ⟨_,_,_,_,o,_,_,e,ex,_⟩:=I.hok p _ hk;exact ⟨o,e,ex⟩
   obtain ⟨o,e,ex⟩:=z;refine ⟨⟨o,e,ex.1⟩,fun a e2=>?_⟩;cases e2;exact ⟨o,e,ex.2.1⟩
  ·obtain ⟨o,_,_,_,e,ex,_⟩:=I.hok p _ hk;refine ⟨⟨o,e,ex.1⟩,fun a e2=>?_⟩;cases e2;exact ⟨o,e,ex.2.1⟩
 | _=>exact False.elim ty
noncomputable def aCj (K:PySem.W.Frag) (T:String) (r:V->List V->Hp->VK->Prop) (to:TE):TE:=fun σ H Q=>to σ H fun x H1=>tyV K T x H1/\r x [] H1 Q
noncomputable def tBM (K:PySem.W.Frag) (T:String) (r:V->List V->Hp->VK->Prop) (to:TE) (t:TA):TE:=fun σ H Q=>to σ H fun x H1=>tyV K T x H1/\t σ H1 fun xs H2=>r x xs H2 Q
variable {o e:Expr} {es:List Expr} {to:TE} {t:TA} {name:Str} {apos cpos:Pos} {T id:String} {r:V->List V->Hp->VK->Prop}
theorem PL (pa:PlainAttrs T) (slot:Slot T name id) (hty:typeOf (.builtin id)=pure (.type "method_descriptor")) (hm:MtR X id r) (ho:PE X o to)
  (hbase:attributeBase o name X.env (eval o X.env)=eval o X.env:=by rfl) (hline:(apos.endLine==cpos.line)=true:=by rfl):PE X (.Call (.Attribute o name apos) [] [] cpos) (aCj X.K T r to):=by
 intro pins s σ H Q I h;refine wpAny_Call_method0_late hbase hline (thn (ho pins s σ H _ I h) fun v s1 ⟨x,H1,I1,r1,ty,q1⟩=>?_);obtain ⟨h1,h2⟩:=PK I1 r1 ty;exact ⟨T,id,pa,slot,hty,h1,h2,Calls.callWith_builtin rfl (PySem.evalArgs_none (hm pins s1 σ H1 x [] v [] Q I1 r1 .nil q1))⟩
theorem R3 (pa:PlainAttrs T) (slot:Slot T name id) (hty:typeOf (.builtin id)=pure (.type "method_descriptor")) (hm:MtR X id r) (ho:PE X o to) (ha:PA X (e::es) t)
  (hbase:attributeBase o name X.env (eval o X.env)=eval o X.env:=by rfl)
  (hfew:((backTo cpos (starEach (e::es) X.env)).all (fun x=>!x.1)&&(backToKw cpos (keywordEach [] X.env)).all (fun x=>x.1.isSome)
   && decide ((e::es).length+([]:List Keyword).length+(if ([]:List Keyword).isEmpty then 0 else 1)<30))=true:=by rfl)
  (hline:(apos.endLine==cpos.line)=true:=by rfl) (hs:starEach (e::es) X.env=(false,eval e X.env)::starEach es X.env:=by rfl) (hplain:(backTo cpos (starEach es X.env)).any (·.1)=false:=by rfl) :
  PE X (.Call (.Attribute o name apos) (e::es) [] cpos) (tBM X.K T r to t):=by
 intro pins s σ H Q I h;refine wpAny_Call_method_late hbase hfew hline rfl (thn (ho pins s σ H _ I h) fun v s1 ⟨x,H1,I1,r1,ty,q1⟩=>?_);obtain ⟨h1,h2⟩:=PK I1 r1 ty;refine ⟨T,id,pa,slot,hty,h1,h2,?_⟩;have hA:=ha cpos pins s1 σ H1 _ I1 q1;rw [hs] at hA ⊢;refine Calls.callWith_builtin (by show (false||(backTo cpos (starEach es X.env)).any (·.1))=false;rw [hplain] <;> rfl) (Calls.evalArgs_plain ?_);exact thn hA fun us s2 ⟨vs,H2,I2,r2,q2⟩=>hm pins s2 σ H2 x vs v us Q I2 r1 r2 q2
end
end L2
namespace L2
open PySem PySem.Spec PyProof.Rows
noncomputable def MtM (X:Cx) (id:String) (r:V->List V->Hp->VK->Prop):Prop:=
 ∀(pins:List (Addr×Obj)) (s:Shared) (σ:St) (H:Hp) (x:V) (xs:List V) (v:Value) (us:List Value) (Q:VK),Inv X pins σ H s->RelV x v->Vals xs us->r x xs H Q->
  wpAny (model X.prog X.w) X.A (call (.builtin id) (v::us)) (EP X pins σ Q) X.xe s
theorem Vals.one:∀{x:V} {us:List Value},Vals [x] us->∃u,us=[u]/\RelV x u
 | _,_,.cons r .nil=>⟨_,rfl,r⟩
theorem Vals.zero:∀{us:List Value},Vals [] us->us=[]
 | _,.nil=>rfl
theorem Vals.dropLast {xs:List V} {us:List Value} (h:Vals xs us):Vals xs.dropLast us.dropLast:=by
 induction h with
 | nil=>exact .nil
 | cons r t ih=>
  cases t with
  | nil=>exact .nil
  | cons q t'=>exact .cons r ih
theorem yQ {α:Type} (l:List α):l.eraseIdx (l.length-1)=l.dropLast:=by
 induction l with
 | nil=>rfl
 | cons a r ih=>
  cases r with
  | nil=>rfl
  | cons b r=>
   have e:(a::b::r).length-1=((b::r).length-1)+1:=by
    have h1:(a::b::r).length=r.length+2:=rfl;have h2:(b::r).length=r.length+1:=rfl;lia
   rw [e,List.eraseIdx_cons_succ,ih]
   all_goals rfl
section
variable {X:Cx} {pins:List (Addr×Obj)} {σ:St} {H:Hp} {s:Shared} {l b:Addr} {xs ys zs:List V}
theorem Inv.aB4 {its its':List Value} {n:Nat} {f:Array Value->Array Value} {t':Nat} (I:Inv X pins σ H s) (hH:H l=some (.lst xs))
  (e:s.heap.get? l=some {cls:=.type "list",data:=.seq its.toArray n}) (hf:f its.toArray=its'.toArray) (hv:Vals ys its') (hz:ys.length<=sizeLine) :
  Inv X pins σ (upd H l (.lst ys)) {s with heap:=s.heap.update l (Obj.mapSeq f),toks:=t'}:=by
 have q:=PySem.IsL.update e f;rw [hf] at q;refine I.write (x:=l) (e:=l) (by rw [hH];exact trivial) (.inl rfl) (fun b' u hb hu=>(Heap.get?_update_other s.heap (Obj.mapSeq f) (Ne.symm hb)).trans hu) ⟨_,q⟩ ?_;exact ⟨hz,its',_,hv,q⟩
theorem Inv.aCk {its:List Value} {t':Nat} (I:Inv X pins σ H s) (hv:Vals ys its) (hz:ys.length<=sizeLine) :
  Inv X pins σ (upd H s.heap.objs.size (.lst ys)) {s with heap:=s.heap.push {cls:=.type "list",data:=.seq its.toArray},toks:=t'}:=
 I.laid (fun _ _ q=>Heap.get?_push_of_some _ q) (Nat.le_refl _) ⟨hz,its,0,hv,Heap.get?_push_size _ rfl⟩
theorem Inv.fresh (I:Inv X pins σ H s):H s.heap.objs.size=none:=I.hok.fresh (Nat.le_refl _)
theorem Inv.aAd (I:Inv X pins σ H s) (hH:H l=some (.lst xs)):xs.length<=sizeLine/\∃(its:List Value) (n:Nat),Vals xs its/\xs.length=its.length/\s.heap.get? l=some {cls:=.type "list",data:=.seq its.toArray n}:=by
 obtain ⟨z,its,n,r,e⟩:=I.hok l _ hH;exact ⟨z,its,n,r,r.length,e⟩
theorem K8 {n:Nat} (h:n<=sizeLine):Builtin.List.listTooLong n=false:=by
 unfold Builtin.List.listTooLong;exact decide_eq_false (by lia)
end
section
variable {X:Cx}
noncomputable def R4:V->List V->Hp->VK->Prop:=fun x vs H Q=>∃l xs y,x=.ref l/\vs=[y]/\H l=some (.lst xs)/\xs.length<sizeLine/\Q .non (upd H l (.lst (xs++[y])))
theorem rB:MtM X "list.append" R4:=by
 intro pins s σ H x vs v us Q I rx rv h;obtain ⟨l,xs,y,rfl,rfl,hH,hz,q⟩:=h;cases rx;obtain ⟨u,rfl,ru⟩:=rv.one;obtain ⟨z,its,n,r,hl,e⟩:=I.aAd hH;refine call_meets F.slot_list_append ⟨_,e,rfl⟩ F.entry_list_append (F.args_list_append_2 _ _) (PySem.list_append l its.toArray n u (by rw [List.size_toArray];lia)) ⟨e,?_⟩;refine ⟨.non,_,I.aB4 (its':=its++[u]) hH e (by simp) (r.append (.cons ru .nil)) ?_,rfl,q⟩;rw [List.length_append,List.length_singleton];lia
noncomputable def R5:V->List V->Hp->VK->Prop:=fun x vs H Q=>∃l b xs zs,x=.ref l/\vs=[.ref b]/\H l=some (.lst xs)/\H b=some (.lst zs)/\xs.length+zs.length<=sizeLine/\Q .non (upd H l (.lst (xs++zs)))
theorem CV:MtM X "list.extend" R5:=by
 intro pins s σ H x vs v us Q I rx rv h;obtain ⟨l,b,xs,zs,rfl,rfl,hH,hB,hz,q⟩:=h;cases rx;obtain ⟨u,rfl,ru⟩:=rv.one;cases ru;obtain ⟨z,its,n,r,hl,e⟩:=I.aAd hH;obtain ⟨z2,its2,n2,r2,hl2,e2⟩:=I.aAd hB;have hsz:its.toArray.size+its2.toArray.size<=sizeLine:=by rw [List.size_toArray,List.size_toArray];lia
 have hlong:¬(!its.toArray.isEmpty&&Builtin.List.listTooLong (its.toArray.size+its2.toArray.size))=true:=by
  rw [K8 hsz,Bool.and_false];exact Bool.false_ne_true
 refine call_meets F.slot_list_extend ⟨_,e,rfl⟩ F.entry_list_extend (F.args_list_extend_2 _ _)
  (AutoSeq1.list_extend_list_list_0 l its.toArray n b its2.toArray n2 hlong (by rw [List.size_toArray];lia) (by lia)) ⟨e,e2,?_⟩
 refine ⟨.non,_,I.aB4 (its':=its++its2) hH e (by simp) (r.append r2) ?_,rfl,q⟩;rw [List.length_append];lia
noncomputable def aCl:V->List V->Hp->VK->Prop:=fun x vs H Q=>∃l xs y,x=.ref l/\vs=[]/\H l=some (.lst xs)/\xs[xs.length-1]?=some y/\Q y (upd H l (.lst xs.dropLast))
theorem PN:MtM X "list.pop" aCl:=by
 intro pins s σ H x vs v us Q I rx rv h;obtain ⟨l,xs,y,rfl,rfl,hH,hy,q⟩:=h;cases rx;have hus:=rv.zero;subst hus;obtain ⟨z,its,n,r,hl,e⟩:=I.aAd hH;obtain ⟨u,hu,ru⟩:=r.get hy;have hy':its.toArray[its.toArray.size-1]?=some u:=by
  show its.toArray[its.length-1]?=some u;rw [<-Array.getElem?_toList,<-hl];exact hu
 refine call_meets F.slot_list_pop ⟨_,e,rfl⟩ F.entry_list_pop (F.args_list_pop_1 _) (MeetsSeq.list_pop_last l its.toArray n u hy' (by rw [List.size_toArray];lia)) ⟨e,?_⟩;refine ⟨y,_,I.aB4 (its':=its.dropLast) hH e ?_ r.dropLast ?_,ru,q⟩
 ·show its.toArray.eraseIdxIfInBounds (its.toArray.size-1)=its.dropLast.toArray;rw [List.size_toArray,List.eraseIdxIfInBounds_toArray,yQ]
 ·rw [List.length_dropLast];lia
end
section
variable {prog:Program} {w:World} {A:Around} {E:Value->Shared->Prop} {s:Shared}
end
section
variable {X:Cx}
end
end L2
namespace L2
open PySem PySem.Spec PyProof.Rows
section
variable {κ:Type} [DecidableEq κ]
noncomputable def pD (kvs:List (κ×V)) (k:κ):Option V:=(kvs.find? fun kv=>decide (kv.1=k)).map (·.2)
noncomputable def putK (kvs:List (κ×V)) (k:κ) (v:V):List (κ×V):=
 if (kvs.any fun kv=>decide (kv.1=k))=true then kvs.map (fun kv=>if kv.1=k then (kv.1,v) else kv) else kvs++[(k,v)]
theorem kW {p:κ×V} {r:List (κ×V)} {k:κ} (e:p.1=k):pD (p::r) k=some p.2:=by simp [pD,List.find?_cons,e]
theorem kY {p:κ×V} {r:List (κ×V)} {k:κ} (e:¬p.1=k):pD (p::r) k=pD r k:=by simp [pD,List.find?_cons,e]
theorem kZ (k:κ):∀kvs:List (κ×V),(kvs.any fun kv=>decide (kv.1=k))=(pD kvs k).isSome
 | []=>rfl
 | p::r=>by
  rw [List.any_cons];by_cases e:p.1=k
  ·simp only [kW e,decide_eq_true e,Bool.true_or,Option.isSome_some]
  ·rw [kY e,decide_eq_false e,Bool.false_or];exact kZ k r
theorem j5 (kvs:List (κ×V)) (k:κ) (v:V):(putK kvs k v).length<=kvs.length+1:=by
 unfold putK;split
 ·rw [List.length_map];lia
 ·rw [List.length_append,List.length_cons,List.length_nil];lia
theorem K9 {kvs:List (κ×V)} {k:κ} (v:V) (h:pD kvs k=none):putK kvs k v=kvs++[(k,v)]:=by
 unfold putK;rw [kZ,h];exact if_neg (by decide)
theorem KC.jA {o:Option V} {u:Option Value} (r:KC o u):o.isSome=u.isSome:=by
 cases o with
 | none=>cases u with
  | none=>rfl
  | some _=>exact (show False from r).elim
 | some _=>cases u with
  | none=>exact (show False from r).elim
  | some _=>rfl
theorem KV.val {kvs:List (κ×V)} {vs:List (κ×Value)} (r:KV kvs vs) (k:κ):KC (pD kvs k) (valueAt vs k):=by
 unfold KV at r;induction r with
 | nil=>exact True.intro
 | @cons p q ps qs h t ih=>
  obtain ⟨h1,h2⟩:=h;by_cases e:p.1=k
  ·have e':q.1=k:=h1.symm.trans e;have b:valueAt (q::qs) k=some q.2:=by simp [valueAt,List.find?_cons,e']
   rw [kW e,b];exact h2
  ·have e':¬q.1=k:=fun z=>e (h1.trans z)
   have b:valueAt (q::qs) k=valueAt qs k:=by simp [valueAt,List.find?_cons,e']
   rw [kY e,b];exact ih
theorem KV.any {kvs:List (κ×V)} {vs:List (κ×Value)} (r:KV kvs vs) (k:κ):(kvs.any fun kv=>decide (kv.1=k))=vs.any fun kv=>decide (kv.1=k):=by
 unfold KV at r;induction r with
 | nil=>rfl
 | cons h t ih=>rw [List.any_cons,List.any_cons,ih,h.1]
theorem KV.repl {kvs:List (κ×V)} {vs:List (κ×Value)} (r:KV kvs vs) (k:κ) {y:V} {u:Value} (ry:RelV y u) :
  KV (kvs.map fun kv=>if kv.1=k then (kv.1,y) else kv) (vs.map fun kv=>if kv.1=k then (kv.1,u) else kv):=by
 unfold KV at r ⊢;induction r with
 | nil=>exact .nil
 | @cons p q ps qs h t ih=>
  rw [List.map_cons,List.map_cons];refine .cons ?_ ih;obtain ⟨h1,h2⟩:=h;by_cases e:p.1=k
  ·rw [if_pos e,if_pos (h1.symm.trans e)];exact ⟨h1,ry⟩
  ·rw [if_neg e,if_neg (fun z=>e (h1.trans z))];exact ⟨h1,h2⟩
theorem KV.put {kvs:List (κ×V)} {vs:List (κ×Value)} (r:KV kvs vs) (k:κ) {y:V} {u:Value} (ry:RelV y u):KV (putK kvs k y) (stored vs k u):=by
 unfold putK stored;rw [r.any k];by_cases e:(vs.any fun kv=>decide (kv.1=k))=true
 ·rw [if_pos e,if_pos e];exact r.repl k ry
 ·rw [if_neg e,if_neg e];exact Paired.snoc r ⟨rfl,ry⟩
theorem KV.length {kvs:List (κ×V)} {vs:List (κ×Value)} (r:KV kvs vs):kvs.length=vs.length:=Paired.length r
end
theorem uJ {P:Program} {w:World} {k:Key} {u:Value} (r:RelV (kV k) u):(cZ P w).is k u=true:=by
 cases k with
 | inl i=>obtain ⟨t,e⟩:=(show ∃t,u=Value.int i t from r);subst e;exact uA P w i t
 | inr x=>obtain ⟨t,e⟩:=(show ∃t,u=Value.str x t from r);subst e;exact uB P w x t
theorem rC {P:Program} {w:World}:∀{ks:List Key} {us:List Value},Vals (ks.map kV) us->ItemsAre (cZ P w) ks us
 | [],_,r=>by rw [List.map_nil] at r;cases r;exact .nil
 | k::ks,_,r=>by
  rw [List.map_cons] at r;cases r with
  | cons h t=>exact .cons (uJ h) (rC t)
noncomputable abbrev KT (H:Hp):List (List Key×V)->List (List Key×Addr×Value)->Prop:=Paired fun p q=>p.1=q.1/\H q.2.1=some (.tup (p.1.map kV))/\RelV p.2 q.2.2
theorem KT.val {H:Hp} {kvs:List (List Key×V)} {xs:List (List Key×Addr×Value)} (r:KT H kvs xs) (k:List Key):KC (pD kvs k) ((atKey xs k).map (·.2)):=by
 induction r with
 | nil=>exact True.intro
 | @cons p q ps qs h t ih=>
  obtain ⟨h1,_,h2⟩:=h;by_cases e:p.1=k
  ·have e':q.1=k:=h1.symm.trans e;have b:atKey (q::qs) k=some q.2:=by simp [atKey,List.find?_cons,e']
   rw [kW e,b];exact h2
  ·have e':¬q.1=k:=fun z=>e (h1.trans z)
   have b:atKey (q::qs) k=atKey qs k:=by simp [atKey,List.find?_cons,e']
   rw [kY e,b];exact ih
theorem KT.repl {H:Hp} {kvs:List (List Key×V)} {xs:List (List Key×Addr×Value)} (r:KT H kvs xs) (k:List Key) {y:V} {u:Value} (ry:RelV y u) :
  KT H (kvs.map fun kv=>if kv.1=k then (kv.1,y) else kv) (xs.map (putAt k u)):=by
 induction r with
 | nil=>exact .nil
 | @cons p q ps qs h t ih=>
  rw [List.map_cons,List.map_cons];refine .cons ?_ ih;obtain ⟨h1,h2,h3⟩:=h;unfold putAt;by_cases e:p.1=k
  ·rw [if_pos e,if_pos (h1.symm.trans e)];exact ⟨h1,h2,ry⟩
  ·rw [if_neg e,if_neg (fun z=>e (h1.trans z))];exact ⟨h1,h2,h3⟩
theorem KT.put {H:Hp} {kvs:List (List Key×V)} {xs:List (List Key×Addr×Value)} (r:KT H kvs xs) (k:List Key) {b:Addr} {y:V} {u:Value} (hb:H b=some (.tup (k.map kV))) (ry:RelV y u) :
  KT H (putK kvs k y) (storedH xs k b u):=by
 have e:(kvs.any fun kv=>decide (kv.1=k))=(atKey xs k).isSome:=by
  rw [kZ,(r.val k).jA,Option.isSome_map]
 unfold putK storedH;rw [e];by_cases q:(atKey xs k).isSome=true
 ·rw [if_pos q,if_pos q];exact r.repl k ry
 ·rw [if_neg q,if_neg q];exact Paired.snoc r ⟨rfl,hb,ry⟩
theorem KT.keeps {H H':Hp} {kvs:List (List Key×V)} {xs:List (List Key×Addr×Value)} (r:KT H kvs xs) (ht:∀b ys,H b=some (.tup ys)->H' b=some (.tup ys)):KT H' kvs xs:=
 Paired.aAn r fun _ _ z=>⟨z.1,ht _ _ z.2.1,z.2.2⟩
section
variable {P:Program} {w:World} {H:Hp} {h:Heap} {a:Addr}
theorem XD {u:HO} (ok:HOk P w H h) (e:Rd H a u):h_ P w H h a u:=e.ok ok
theorem CW {kvs:List (Key×V)} (ok:HOk P w H h) (e:Rd H a (.dK kvs)):kvs.length<=sizeLine/\(a==sysModules)=false/\∃vs,KV kvs vs/\h.DictOf (cZ P w) a vs:=
 show h_ P w H h a (.dK kvs) from XD ok e
theorem R6 {kvs:List (Key×V)} (ok:HOk P w H h) (e:H a=some (.dK kvs)):kvs.length<=sizeLine/\(a==sysModules)=false/\∃vs,KV kvs vs/\h.DictOf (cZ P w) a vs:=CW ok (.inl e)
theorem rD {ks:List Key} (ok:HOk P w H h) (e:H a=some (.tup (ks.map kV))):(tupleKind (cZ P w)).is h ks a:=by
 obtain ⟨_,its,r,o,h1,h2,n,h3⟩:=(show h_ P w H h a (.tup (ks.map kV)) from ok a _ e)
 exact ⟨o,its.toArray,n,h1,h2,congrArg (·.1) h3,by simpa using rC r⟩
theorem CZ {kvs:List (List Key×V)} (ok:HOk P w H h) (e:Rd H a (.dT kvs)):kvs.length<=sizeLine/\(a==sysModules)=false/\
  ∃xs,KT H kvs xs/\h.DictOfH (tupleKind (cZ P w)) a xs:=by
 obtain ⟨z,y,xs,r,o,es,ep,h1,h2,h3,h4,h5⟩:=(show h_ P w H h a (.dT kvs) from XD ok e)
 refine ⟨z,y,xs,r,o,es,ep,h1,h2,h3,h4,fun x hx=>?_,h5⟩;have all:∀{l:List (List Key×V)} {m:List (List Key×Addr×Value)},KT H l m->∀x∈m,(tupleKind (cZ P w)).is h x.1 x.2.1:=by
  intro l m q;induction q with
  | nil=>intro x hx;exact nomatch hx
  | @cons p q ps qs hq t ih=>
   intro x hx;rcases List.mem_cons.mp hx with e|hx
   ·subst e;exact rD ok (by rw [<-hq.1];exact hq.2.1)
   ·exact ih x hx
 exact all r x hx
theorem R7 {kvs:List (List Key×V)} (ok:HOk P w H h) (e:H a=some (.dT kvs)):kvs.length<=sizeLine/\(a==sysModules)=false/\
  ∃xs,KT H kvs xs/\h.DictOfH (tupleKind (cZ P w)) a xs:=CZ ok (.inl e)
end
noncomputable def C_ (H:Hp) (a:Addr) (y:V) (r:Option V):Prop:=
 (∃kvs k,Rd H a (.dK kvs)/\y=kV k/\r=pD kvs k)\/∃kvs k b,Rd H a (.dT kvs)/\y=.ref b/\H b=some (.tup (k.map kV))/\r=pD kvs k
noncomputable def PP (H:Hp) (a:Addr) (y v:V) (H':Hp):Prop:=
 (∃kvs k,H a=some (.dK kvs)/\y=kV k/\kvs.length<sizeLine/\H'=upd H a (.dK (putK kvs k v)))\/
 ∃kvs k b,H a=some (.dT kvs)/\y=.ref b/\H b=some (.tup (k.map kV))/\kvs.length<sizeLine/\H'=upd H a (.dT (putK kvs k v))
theorem C_.k {H:Hp} {a:Addr} {kvs:List (Key×V)} {k:Key} (e:H a=some (.dK kvs)):C_ H a (kV k) (pD kvs k):=.inl ⟨kvs,k,.inl e,rfl,rfl⟩
theorem C_.t {H:Hp} {a b:Addr} {kvs:List (List Key×V)} {k:List Key} (e:H a=some (.dT kvs)) (eb:H b=some (.tup (k.map kV))):C_ H a (.ref b) (pD kvs k):=.inr ⟨kvs,k,b,.inl e,rfl,eb,rfl⟩
theorem PP.k {H:Hp} {a:Addr} {kvs:List (Key×V)} {k:Key} {v:V} (e:H a=some (.dK kvs)) (hl:kvs.length<sizeLine):PP H a (kV k) v (upd H a (.dK (putK kvs k v))):=.inl ⟨kvs,k,e,rfl,hl,rfl⟩
theorem PP.t {H:Hp} {a b:Addr} {kvs:List (List Key×V)} {k:List Key} {v:V} (e:H a=some (.dT kvs)) (eb:H b=some (.tup (k.map kV))) (hl:kvs.length<sizeLine) :
  PP H a (.ref b) v (upd H a (.dT (putK kvs k v))):=.inr ⟨kvs,k,b,e,rfl,eb,hl,rfl⟩
section
variable {X:Cx} {pins:List (Addr×Obj)} {σ:St} {H:Hp} {s:Shared} {a:Addr} {y v:V} {u r:Value} {o:Option V} {A:Around} {E:Value->Shared->Prop}
theorem Inv.big (I:Inv X pins σ H s):sysModules<s.heap.objs.size:=by
 have h:mainGlobals<s.heap.objs.size:=(I.mod.glob.keeps I.bk).lt;exact Nat.lt_trans (by decide) h
theorem DG {Q:Value->Shared->Prop} (hu:A.units+1<cLine) (I:Inv X pins σ H s) (g:C_ H a y (some v)) (ry:RelV y u) (h:∀w' s',Inv X pins σ H s'->RelV v w'->Q w' s') :
  wpAny (model X.prog X.w) A (getItem (.ref a) u) Q E s:=by
 rcases g with ⟨kvs,k,e,ey,l⟩|⟨kvs,k,b,e,ey,eb,l⟩
 ·subst ey;obtain ⟨z,hd,vs,rel,dd⟩:=CW I.hok e;obtain ⟨w',hw,rw'⟩:=KC.some_of (v:=v) (o:=valueAt vs k) (by rw [l];exact rel.val k);exact wpAny_getItem_of (uJ ry) dd.mapOf hw (h w' _ (I.tok _) rw')
 ·subst ey;cases (show u=Value.ref b from ry);obtain ⟨z,hd,xs,rel,dd⟩:=CZ I.hok e;obtain ⟨w',hw,rw'⟩:=KC.some_of (v:=v) (o:=(atKey xs k).map (·.2)) (by rw [l];exact rel.val k);obtain ⟨p,hp,hp2⟩:=Option.map_eq_some_iff.mp hw;refine wpAny_getItem_heap (tupleKind_room_in1 hu) (rD I.hok eb) dd hp ?_;rw [hp2];exact h w' _ (I.tok _) rw'
theorem aCm {Q:Value->Shared->Prop} (hu:A.units+1<cLine) (I:Inv X pins σ H s) (g:C_ H a y o) (ry:RelV y u) (h:∀s',Inv X pins σ H s'->Q (.bool o.isSome) s') :
  wpAny (model X.prog X.w) A (compareOp .In u (.ref a)) Q E s:=by
 rcases g with ⟨kvs,k,e,ey,l⟩|⟨kvs,k,b,e,ey,eb,l⟩
 ·subst ey;obtain ⟨z,hd,vs,rel,dd⟩:=CW I.hok e;refine wpAny_in_of (uJ ry) hd dd.mapOf ?_;rw [<-(rel.val k).jA,<-l];exact h _ (I.tok _)
 ·subst ey;cases (show u=Value.ref b from ry);obtain ⟨z,hd,xs,rel,dd⟩:=CZ I.hok e;refine wpAny_in_heap (tupleKind_room_in1 hu) (rD I.hok eb) hd dd ?_;have q:=(rel.val k).jA;rw [Option.isSome_map] at q;rw [<-q,<-l];exact h _ (I.tok _)
theorem R8 {Q:Value->Shared->Prop} (hu:A.units+1<cLine) (I:Inv X pins σ H s) (g:C_ H a y o) (ry:RelV y u) (h:∀s',Inv X pins σ H s'->Q (.bool (!o.isSome)) s') :
  wpAny (model X.prog X.w) A (compareOp .NotIn u (.ref a)) Q E s:=by
 rcases g with ⟨kvs,k,e,ey,l⟩|⟨kvs,k,b,e,ey,eb,l⟩
 ·subst ey;obtain ⟨z,hd,vs,rel,dd⟩:=CW I.hok e;refine wpAny_notIn_of (uJ ry) hd dd.mapOf ?_;rw [<-(rel.val k).jA,<-l];exact h _ (I.tok _)
 ·subst ey;cases (show u=Value.ref b from ry);obtain ⟨z,hd,xs,rel,dd⟩:=CZ I.hok e;refine wpAny_notIn_heap (tupleKind_room_in1 hu) (rD I.hok eb) hd dd ?_;have q:=(rel.val k).jA;rw [Option.isSome_map] at q;rw [<-q,<-l];exact h _ (I.tok _)
theorem DK {h':Heap} {t':Nat} {ob:HO} (I:Inv X pins σ H s) (mu:Mut (H a)) (hs:Heap.SameBut a s.heap h') (he:∃q,h'.get? a=some q) (new:h_ X.prog X.w (upd H a ob) h' a ob) :
  Inv X pins σ (upd H a ob) {s with heap:=h',toks:=t'}:=
 I.write (x:=a) (e:=a) mu (.inl rfl) (fun b q hb z=>(hs.2 b hb).trans z) he new
theorem PQ {P:Program} {w:World} {H':Hp} {h':Heap} {kvs:List (Key×V)} {vs:List (Key×Value)} (z:kvs.length<=sizeLine) (hd:(a==sysModules)=false) (rel:KV kvs vs) (dd:h'.DictOf (cZ P w) a vs) :
  h_ P w H' h' a (.dK kvs):=⟨z,hd,vs,rel,dd⟩
theorem DN {H':Hp} {Q:Unit->Shared->Prop} (hu:A.units+1<cLine) (I:Inv X pins σ H s) (g:PP H a y v H') (ry:RelV y u) (rv:RelV v r) (h:∀s',Inv X pins σ H' s'->Q () s') :
  wpAny (model X.prog X.w) A (setItem (.ref a) u r) Q E s:=by
 rcases g with ⟨kvs,k,e,ey,l,eH⟩|⟨kvs,k,b,e,ey,eb,l,eH⟩
 ·subst ey eH;obtain ⟨z,hd,vs,rel,dd⟩:=R6 I.hok e;have hz:vs.length<=sizeLine:=by rw [<-rel.length];exact z
  have hl:(putK kvs k v).length<=sizeLine:=by have:=j5 kvs k v;lia
  refine wpAny_setItem_pairs (hsz:=hz) (uJ ry) dd fun h' dd' hs=>h _ ?_
  have he:∃q,h'.get? a=some q:=let ⟨q,_,_,hq,_⟩:=dd';⟨q,hq⟩
  exact DK I (by rw [e];exact True.intro) hs he (PQ hl hd (rel.put k rv) dd')
 ·subst ey eH;cases (show u=Value.ref b from ry);obtain ⟨z,hd,xs,rel,dd⟩:=R7 I.hok e;have hz:xs.length<=sizeLine:=by rw [<-Paired.length rel];exact z
  have hl:(putK kvs k v).length<=sizeLine:=by have:=j5 kvs k v;lia
  refine wpAny_setItem_heap (hsz:=hz) (tupleKind_room_in1 hu) (rD I.hok eb) dd fun h' dd' hs=>h _ ?_
  obtain ⟨q,es,ep,hq,h2,h3,h4,_,h5⟩:=dd';refine DK I (by rw [e];exact True.intro) hs ⟨q,hq⟩ ⟨hl,hd,_,(rel.put k eb rv).keeps fun c ys ec=>?_,q,es,ep,hq,h2,h3,h4,h5⟩;rw [bT (RC ec e (fun z=>nomatch z))];exact ec
end
section
variable {X:Cx} {pins:List (Addr×Obj)} {σ:St} {H:Hp} {s:Shared} {a:Addr} {kvs:List (Key×V)} {k:Key} {u:Value} {A:Around} {E:Value->Shared->Prop}
end
theorem uK {X:Cx} {pins:List (Addr×Obj)} {σ:St} {H:Hp} {s:Shared} {a:Addr} {y:V} {o:Option V} (I:Inv X pins σ H s) (g:C_ H a y o):s.TypeIs (.ref a) "dict":=by
 rcases g with ⟨kvs,k,e,_,_⟩|⟨kvs,k,b,e,_,_,_⟩
 ·obtain ⟨_,_,vs,_,dd⟩:=CW I.hok e;exact dd.typeIs
 ·obtain ⟨_,_,xs,_,dd⟩:=CZ I.hok e;exact dd.typeIs
section
variable {X:Cx} {o i e value:Expr} {pos pos' tpos:Pos} {td ty tv:TE}
end
theorem K_ {P:Program} {w:World} {H:Hp} (h:Heap) (hb:sysModules<h.objs.size):h_ P w H (h.push {cls:=.type "dict",data:=.dict #[]}) h.objs.size (.dK []):=
 ⟨Nat.zero_le _,beq_eq_false_iff_ne.mpr (Ne.symm (Nat.ne_of_lt hb)),[],.nil,Heap.DictOf.new h⟩
def XF:TE:=fun _ H Q=>∀p,H p=none->Q (.ref p) (upd H p (.dK []))
section
variable {X:Cx} {pos:Pos}
theorem LC:PE X (.Dict [] [] pos) XF:=fun pins s σ H Q I h=>
 wpAny_Dict_empty ⟨.ref s.heap.objs.size,_,I.laid (a:=s.heap.objs.size) (o:=.dK []) (t':=s.toks) (fun _ _ q=>Heap.get?_push_of_some _ q) (Nat.le_refl _) (K_ s.heap I.big),rfl,h _ (I.hok.fresh (Nat.le_refl _))⟩
end
noncomputable def jB (kvs more:List (Key×V)):List (Key×V):=more.foldl (fun acc kv=>putK acc kv.1 kv.2) kvs
theorem KV.merge:∀{more:List (Key×V)} {rs:List (Key×Value)} {kvs:List (Key×V)} {vs:List (Key×Value)},KV more rs->KV kvs vs->KV (jB kvs more) (merged vs rs):=by
 intro more rs kvs vs r;unfold KV at r;induction r generalizing kvs vs with
 | nil=>intro q;exact q
 | @cons p q ps qs h t ih=>
  intro r0;have e:KV (putK kvs p.1 p.2) (stored vs q.1 q.2):=by
   have:=r0.put p.1 h.2;rw [<-h.1];exact this
  exact ih e
theorem k_:∀(more kvs:List (Key×V)),(jB kvs more).length<=kvs.length+more.length
 | [],kvs=>by show kvs.length<=kvs.length+0;lia
 | p::r,kvs=>by
  have h1:=k_ r (putK kvs p.1 p.2);have h2:=j5 kvs p.1 p.2;show (jB (putK kvs p.1 p.2) r).length<=_;rw [List.length_cons];lia
section
variable {X:Cx} {pins:List (Addr×Obj)} {σ:St} {H:Hp} {s:Shared} {a:Addr} {y d:V} {u r:Value} {o:Option V} {A:Around} {E:Value->Shared->Prop}
end
section
variable {X:Cx} {o e f:Expr} {apos cpos:Pos} {td ty tx:TE}
end
section
variable {X:Cx} {pins:List (Addr×Obj)} {σ:St} {H:Hp} {s:Shared} {a:Addr} {kvs:List (Key×V)} {A:Around} {E:Value->Shared->Prop}
end
section
variable {X:Cx} {pins:List (Addr×Obj)} {σ:St} {H:Hp} {s:Shared} {a:Addr} {y:V} {u:Value} {A:Around} {E:Value->Shared->Prop}
end
end L2
namespace Att
open PySem PySem.W PySem.Calls PyProof.Rows
theorem nY {P:Params} {h:Heap}:∀(ns:List Int) (vs:List Value),WellAll P h vs (ns.map WData.int)->IntsAre vs ns:=by
 intro ns;induction ns with
 | nil=>
  intro vs w;rw [List.map_nil] at w;cases w;exact .nil
 | cons n ns ih=>
  intro vs w;rw [List.map_cons] at w;cases w with
  | cons a b=>
   cases a;exact .cons _ _ (ih _ b)
theorem DP {l:OpenLaw} {n:Nat} (hn:l.most=some n) {P:Params} {h:Heap} {args:List WData} {vals:List Value}
  (hpre:l.row.toRowW.claim.pre args=true) (hwl:WellAll P h vals args) :
  ∃a vs ns,vals=[Value.ref a]/\args=[WData.list (ns.map WData.int)]/\h.get? a=some {cls:=.type "list",data:=.seq vs.toArray}/\IntsAre vs ns/\ns.length<=n:=by
 have hsh:WShape.hasAll [] args [.list .int]=true:=(pre_splitW hpre).1;have hc:l.pre.holds [] {args:=args}=true:=(pre_splitW hpre).2;obtain ⟨d,r,rfl,h1,h2⟩:=hasAllW_cons hsh;obtain rfl:=hasAllW_nil h2;obtain ⟨xs,rfl,h3⟩:=hasW_list h1;obtain ⟨ns,rfl⟩:=items_int h3;have hlen:ns.length<=n:=by
  unfold OpenLaw.pre at hc;have h4:(WTm.not (.lt (.lit (.int (n:Int))) (.len (.arg 0)))).holds [] {args:=[.list (ns.map .int)]}=true:=by
   have h4:=(holds_andW hc).1;rw [hn] at h4;exact h4
  have h5:=condW_of h4 (w_not (w_lt w_lit (w_len_list (w_arg rfl))));rw [List.length_map] at h5;refine Nat.le_of_not_lt fun q=>?_
  have q':(n:Int)<((ns.length:Nat):Int):=by lia
  first
   | (rw [decide_eq_true q'] at h5;exact absurd h5 (by decide))
   | (simp at h5;lia)
 cases hwl with
 | cons w1 w2=>
  cases w2;cases w1 with
  | list ho hall=>exact ⟨_,_,ns,rfl,rfl,ho,nY ns _ hall,hlen⟩
theorem DQ (l:OpenLaw) (args:List WData):l.row.toRowW.claim.post args (.bool true) args=true:=
 postW_of (r:=l.row.toRowW) (X:=(true==true))
  (show WShape.has [] (.bool true) .bool=true by first|rfl|decide|simp [WShape.has,WShape.arms,WShape.armsAll])
  (show (WTm.eq .res (.lit (.bool true))).value [] {args:=args,res:=some (.bool true),after:=args}=some (.bool (true==true)) from w_eq_bool (w_res rfl) w_lit) rfl
theorem uL {l:OpenLaw} {n:Nat} {q:Program} {loose:List Str} {XP:(Str->Option Value)->Heap->Prop} {YP:World->Heap->Prop} {d:DefRec}
  (hn:l.most=some n) (hdf:d.params.defaults=[])
  (call:∀(w:World) (s₀ s₁:Shared) (mg mb:Str->Option Value) (fa:Addr) (o:Obj) (pm cd doc:Value) (a:Addr) (vs:List Value) (ns:List Int),
   Ground q loose [] XP w s₀ mg mb s₁.heap->YP w s₁.heap->
   s₁.heap.get? fa=some o->o.data=.func (docDef d.name d.params d.body d.scope pm cd doc)->s₁.heap.CodeRec cd d.name->mg d.name=some (.ref fa)->
   s₁.heap.get? a=some {cls:=.type "list",data:=.seq vs.toArray}->IntsAre vs ns->ns.length<=n->s₁.gens=#[]->
   codeAny (model l.prog w) callerA (.call (.ref fa) ⟨[.ref a],[]⟩) (fun r s'=>r=.ok (.ret (.bool true))/\OldK s₁.heap s'.heap/\s'.os=s₁.os/\AllBare s'.gens) s₁) :
  WalkO q loose XP YP l.row.toRowW d [] (fun f vs=>PySem.call f vs):=by
 intro w s₀ s₁ mg mb G Y fa o pm cd doc dV kV ho hd hcd hD hmg hg args vals as hpre hlay hrd hwl hlo;obtain rfl:dV=.none:=Dflts.none hD hdf;obtain rfl:kV=.none:=Dflts.noKw hD;obtain ⟨a,vs,ns,rfl,rfl,hobj,hints,hlen⟩:=DP hn hpre hwl;refine enter_call (codeAny_mono (call w s₀ s₁ mg mb fa o pm cd doc a vs ns G Y ho (fd_plain hd) hcd hmg hobj hints hlen hg) fun r s' hq=>?_);obtain ⟨rfl,h2,h3,h4⟩:=hq;exact ⟨.inl ⟨.bool true,.bool true,[],rfl,fun _=>rfl,.bool true,DQ l _,fun _=>⟨List.Pairwise.nil,fun _ hm=>(nomatch hm)⟩⟩,h2,h3,h4⟩
section
variable {prog:Program} {w:World} {A:Around} {E:Value->Shared->Prop} {s:Shared} {K:Frag}
end
end Att
namespace L2
open PySem PySem.Spec PyProof.Rows
theorem jC:∀{vs:List Value} {ns:List Int},IntsAre vs ns->Vals (ns.map V.int) vs
 | _,_,.nil=>.nil
 | _,_,.cons n t h=>.cons ⟨t,rfl⟩ (jC h)
def Only (H:Hp):Prop:=∀b,H b=none\/∃o xs,H b=some (.frz o (.lst xs))
theorem LK {P:Program} {w:World} {K:PySem.W.Frag} {mg mb:Str->Option Value} {CX:CXT} {k:Nat} {fa a:Addr} {fd:FuncData} {x:Str} {sp:Sp} {s₁:Shared} {vs:List Value} {ns:List Int}
  (KX:K.In s₁.heap) (hns:s₁.heap.Ns mainGlobals mg) (hb:s₁.heap.Ns builtinsNs mb) (hbb:∀x:Str,x ≠ "__name__"->mb x=bootBuiltins x) (hlim:s₁.heap.NoLimit) (hg:s₁.gens=#[])
  (ha:s₁.heap.get? a=some {cls:=.type "list",data:=.seq vs.toArray}) (hi:IntsAre vs ns) (hl:ns.length<=sizeLine) (hr:m8 k callerA)
  (F:∀base:Heap,K.In base->base.Ns mainGlobals mg->vV P w K mg base CX k fa fd [x] sp) (hbind:∀(s:Shared) (u:Value),BindsTo s fd ⟨[u],[]⟩ [(x,u)])
  (hsp:∀H:Hp,Only H->SqL K H a (ns.map V.int)->sp [.ref a] H (fun v _=>v=.bl true) fun _ _ _=>False)
  (hCX:∀H e s',CX [] H s₁ (fun _ _ _=>False) e s'->False) :
  codeAny (model P w) callerA (.call (.ref fa) ⟨[.ref a],[]⟩) (fun r s'=>r=.ok (.ret (.bool true))/\OldK s₁.heap s'.heap/\s'.os=s₁.os/\AllBare s'.gens) s₁:=by
 have rv:=jC hi;have lenV:=hi.length
 -- from an abstract heap in which nothing but the script may be tracked
 have core:∀H:Hp,Only H->SqL K H a (ns.map V.int)->HOk P w H s₁.heap->(∀b,H b≠none->b=a)->(H a≠none->K.lookup a=none)->
   codeAny (model P w) callerA (.call (.ref fa) ⟨[.ref a],[]⟩) (fun r s'=>r=.ok (.ret (.bool true))/\OldK s₁.heap s'.heap/\s'.os=s₁.os/\AllBare s'.gens) s₁:=by
  intro H hO hS hok hA hK;have base_of:∀{b:Addr} {o:Obj},s₁.heap.get? b=some o->H b=none->(KQ s₁.heap H).get? b=some o:=fun e n=>KR e n
  have noA:∀{b:Addr} {o:Obj} {es:Array DictEntry} {ep:Nat},s₁.heap.get? b=some o->o.data=.dict es ep->H b=none:=fun {b o es ep} e d=>by
   cases q:H b with
   | none=>rfl
   | some u=>
    have e':b=a:=hA b (by rw [q];simp);subst e';rw [ha] at e;cases e;have d':Data.seq vs.toArray _=Data.dict es ep:=d;cases d'
  have nsK:∀{b:Addr} {m:Str->Option Value},s₁.heap.Ns b m->(KQ s₁.heap H).Ns b m:=fun {b m} ⟨o,es,ep,e,d,r⟩=>⟨o,es,ep,base_of e (noA e d),d,r⟩
  have hKb:K.In (KQ s₁.heap H):=fun b o e=>base_of (KX b o e) (by
   cases q:H b with
   | none=>rfl
   | some u=>
    have e':b=a:=hA b (by rw [q];simp);subst e';rw [hK (by rw [q];simp)] at e;cases e)
  have hM:Mod K mg (KQ s₁.heap H):=⟨hKb,nsK hns,⟨mb,nsK hb,hbb⟩,let ⟨mc,h1,h2⟩:=hlim;⟨mc,nsK h1,h2⟩⟩
  have e0:aAc P w K mg (KQ s₁.heap H) callerA [] s₁ H:=⟨rfl,hM,fun b o e=>RD e,Nat.le_of_eq (z8 _ _),trivial,fun b hb=>absurd (show b∈([]:List Addr) from hb) (by simp),hok,.of_eq hg⟩
  refine codeAny_mono ((F _ hKb (nsK hns)).run callerA [] s₁ H ⟨[.ref a],[]⟩ [.ref a] [.ref a] _ _ hr e0 (hbind s₁ (.ref a)) (.cons rfl .nil) (hsp H hO hS)) fun r s' h=>?_
  cases r with
  | error e=>exact (hCX H e s' h).elim
  | ok fl=>
   cases fl with
   | next=>exact False.elim h
   | brk=>exact False.elim h
   | cont=>exact False.elim h
   | ret u=>
    obtain ⟨v,H',os,bare,un,hok',r',q⟩:=h;have q':v=.bl true:=q;subst q';obtain rfl:u=Value.bool true:=r';refine ⟨rfl,OldK.of_keep fun b o e=>?_,os,bare⟩;cases q:H b with
    | none=>exact un.keep b o e q (by intro z;exact absurd (show b∈([]:List Addr) from z) (by simp)) (by simp)
    | some u=>
     rcases hO b with z|⟨ob,xs,z⟩
     ·rw [q] at z;cases z
     ·have z2:=un.frzs b ob _ z;obtain ⟨e1,_⟩:=hok b _ z;obtain ⟨e2,_⟩:=hok' b _ z2;rw [e] at e1;cases e1;exact e2
 cases hk:K.lookup a with
 | some o=>
  -- the script is one of the module's own objects
  have e:=KX a o hk;rw [ha] at e;cases e;refine core (fun _=>none) (fun _=>.inl rfl) (.inr ⟨_,vs.toArray,_,hk,rfl,rfl,rfl,by rw [List.size_toArray,lenV];exact hl,by simpa using rv⟩) (fun b u z=>by have z':(none:Option HO)=some u:=z;cases z') (fun b z=>absurd rfl z) fun z=>absurd rfl z
 | none=>
  refine core (fun b=>if b=a then some (.frz {cls:=.type "list",data:=.seq vs.toArray} (.lst (ns.map V.int))) else none) (fun b=>?_) (.inl (.inr ⟨{cls:=.type "list",data:=.seq vs.toArray},if_pos rfl⟩)) (fun b u z=>?_) (fun b z=>?_) fun _=>hk
  ·by_cases hb:b=a
   ·exact .inr ⟨_,_,if_pos hb⟩
   ·exact .inl (if_neg hb)
  ·by_cases hb:b=a
   ·have z':=(if_pos hb).symm.trans z;cases z';subst hb;exact ⟨ha,by rw [List.length_map];exact hl,vs,_,rv,ha⟩
   ·have z':=(if_neg hb).symm.trans z;cases z'
  ·by_cases hb:b=a
   ·exact hb
   ·exact absurd (if_neg hb) z
end L2
namespace L2
open PySem PySem.Spec PyProof.Rows
theorem R9 {l:PySem.W.OpenLaw} {n k:Nat} {q:Program} {loose:List Str} {XP:(Str->Option Value)->Heap->Prop} {YP:World->Heap->Prop} {d:DefRec} {K:Params->PySem.W.Frag} {CX:World->CXT} {sp:World->Sp} {x:Str}
  (hn:l.most=some n) (hn2:n<=sizeLine) (hdf:d.params.defaults=[]) (hr:m8 k callerA)
  (hY:∀(w:World) (h:Heap),YP w h->(K w.params).In h)
  (F:∀(w:World) (mg:Str->Option Value) (fa:Addr) (h:Heap),(K w.params).In h->h.Ns mainGlobals mg->mg d.name=some (.ref fa)->
   ∃fd:FuncData,(∀(s:Shared) (u:Value),BindsTo s fd ⟨[u],[]⟩ [(x,u)])/\
    ∀base:Heap,(K w.params).In base->base.Ns mainGlobals mg->vV l.prog w (K w.params) mg base (CX w) k fa fd [x] (sp w))
  (hsp:∀(w:World) (H:Hp) (a:Addr) (ns:List Int),ns.length<=n->Only H->SqL (K w.params) H a (ns.map V.int)->sp w [.ref a] H (fun v _=>v=.bl true) fun _ _ _=>False)
  (hCX:∀(w:World) (H:Hp) (s:Shared) (e:Value) (s':Shared),CX w [] H s (fun _ _ _=>False) e s'->False) :
  PySem.W.WalkO q loose XP YP l.row.toRowW d [] (fun f vs=>PySem.call f vs):=by
 refine Att.uL hn hdf fun w s₀ s₁ mg mb fa o pm cd doc a vs ns G Y ho hd hcd hmg hobj hints hlen hg=>?_
 have KX:=hY w _ Y;obtain ⟨fd,hb,hF⟩:=F w mg fa _ KX G.T.g hmg;exact LK KX G.T.g G.T.b G.T.builtins G.T.nolimit hg hobj hints (Nat.le_trans hlen hn2) hr hF hb (fun H hO hS=>hsp w H a ns hlen hO hS) fun H e s'=>hCX w H s₁ e s'
end L2
namespace L2
open PySem PySem.Spec PyProof.Rows
noncomputable def j6 (s:Stmt):Arguments:=match s with
 | .FunctionDef _ a _ _ _ _ _ _ _ _=>a
 | _=>{posonlyargs:=[],args:=[],vararg:=none,kwonlyargs:=[],kw_defaults:=[],kwarg:=none,defaults:=[]}
noncomputable def fM (s:Stmt):List Stmt:=match s with
 | .FunctionDef _ _ b _ _ _ _ _ _ _=>b
 | _=>[]
noncomputable def aP (s:Stmt):Scope:=match s with
 | .FunctionDef _ _ _ _ _ _ sc _ _ _=>sc
 | _=>{kind:=.function,names:=[],isGenerator:=false,isCoroutine:=false}
abbrev CX0:CXT:=fun _ _ _ _ _ _=>False
abbrev E0:XK:=fun _ _ _=>False
theorem XH {X:Cx}:B_ CX0 X E0:=fun _ _ _ _ _ _ _ h=>h.elim
structure Fun (K:PySem.W.Frag) (x qual:Str) (st:Stmt) (f:Addr) (fd:FuncData):Prop where
 ex:∃(oc:Value) (od:Option Addr) (kV doc pm:Value) (an:Option Addr) (cdv ct:Value) (osl:Array (Option Value)),
  fd=PySem.W.fnOf x qual (j6 st) (fM st) (aP st) .none kV doc pm an cdv ct/\K.lookup f=some ⟨oc,od,.func fd,osl⟩/\PySem.W.codeIn K cdv qual=true
 kp:PySem.W.keepIn K (.ref f)=true
section
variable {P:Program} {w:World} {K:PySem.W.Frag} {mg:Str->Option Value} {base:Heap}
theorem Fun.ok {x qual:Str} {st:Stmt} {f:Addr} {fd:FuncData} {N ps:List Str} {k:Nat} {sp:Sp} (F:Fun K x qual st f fd) (S:cT N ps (aP st)) (len:∀vs H Q E,sp vs H Q E->vs.length=ps.length)
  (hbody:∀(cdv:Value) (A:Around) (outer:List Env) (s:Shared) (H:Hp) (vs:List V) (Q:VK) (E:XK),m8 k (A.deeper (envOfC qual (aP st) s.heap.objs.size f cdv))->sp vs H Q E->
   ∃t,PSs (KD CX0 P w K mg base N qual (aP st) f cdv A outer s H E).nox (fM st) t/\t {nx:=fun _ H'=>Q .non H',rt:=Q} (start N vs) H):vV P w K mg base CX0 (k+1) f fd ps sp:=by
 obtain ⟨oc,od,kV,doc,pm,an,cdv,ct,osl,rfl,lk,hcd⟩:=F.ex;refine aB0 lk hcd S len fun A outer s H vs Q E hr hsp=>?_
 obtain ⟨t,h,q⟩:=hbody cdv A outer s H vs Q E hr hsp;exact ⟨t,h.nox,q⟩
theorem Fun.binds {x qual:Str} {st:Stmt} {f:Addr} {fd:FuncData} {ps:List Str} (F:Fun K x qual st f fd)
  (h:∀(kV doc pm:Value) (an:Option Addr) (cdv ct:Value) (us:List Value),us.length=ps.length->bindArgs (PySem.W.fnOf x qual (j6 st) (fM st) (aP st) .none kV doc pm an cdv ct) ⟨us,[]⟩=pure (ps.zip us)):Binds K fd ps []:=by
 obtain ⟨oc,od,kV,doc,pm,an,cdv,ct,osl,rfl,lk,hcd⟩:=F.ex;exact .all (h kV doc pm an cdv ct)
theorem PX {x qual:Str} {st:Stmt} {f:Addr} {oc:Value} {od an:Option Addr} {osl:Array (Option Value)} {kV doc pm cdv ct:Value} (l:K.lookup f=some ⟨oc,od,.func (PySem.W.fnOf x qual (j6 st) (fM st) (aP st) .none kV doc pm an cdv ct),osl⟩)
  (c:PySem.W.codeIn K cdv qual=true) (k:PySem.W.keepIn K (.ref f)=true):Fun K x qual st f (PySem.W.fnOf x qual (j6 st) (fM st) (aP st) .none kV doc pm an cdv ct):=⟨⟨oc,od,kV,doc,pm,an,cdv,ct,osl,rfl,l,c⟩,k⟩
end
section
variable {X:Cx}
end
def cH (H H':Hp):Prop:=∀b o,H b=some o->H' b=some o
theorem cH.refl (H:Hp):cH H H:=fun _ _ h=>h
theorem cH.trans {H H1 H2:Hp} (a:cH H H1) (b:cH H1 H2):cH H H2:=fun c o h=>b c o (a c o h)
theorem cH.free {H H':Hp} (e:cH H H') {l:Addr} (h:H' l=Option.none):H l=Option.none:=by
 cases q:H l with
 | none=>rfl
 | some o=>
  rw [e l o q] at h;cases h
section
variable {X:Cx}
end
section
variable {κ:Type} [DecidableEq κ]
theorem LQ {kvs:List (κ×V)} {k:κ} (h:pD kvs k=none):¬k∈kvs.map (·.1):=by
 intro m;obtain ⟨p,hp,e⟩:=List.mem_map.mp m;have q:(kvs.any fun kv=>decide (kv.1=k))=true:=List.any_eq_true.mpr ⟨p,hp,decide_eq_true e⟩;rw [kZ,h] at q;exact absurd q (by simp)
theorem DR:∀{l:List κ} {k:κ},l.Nodup->¬k∈l->(l++[k]).Nodup
 | [],k,_,_=>by simp
 | a::r,k,h,hk=>by
  obtain ⟨h1,h2⟩:=List.nodup_cons.mp h;show (a::(r++[k])).Nodup;refine List.nodup_cons.mpr ⟨fun m=>?_,DR h2 fun m=>hk (List.mem_cons.mpr (Or.inr m))⟩;rcases List.mem_append.mp m with q|q
  ·exact h1 q
  ·exact hk (List.mem_cons.mpr (Or.inl (List.mem_singleton.mp q).symm))
theorem R_ {kvs:List (κ×V)} {k:κ} (v:V) (hn:(kvs.map (·.1)).Nodup) (h:pD kvs k=none):((putK kvs k v).map (·.1)).Nodup:=by
 rw [K9 v h,List.map_append];exact DR hn (LQ h)
end
end L2
end
section
namespace TS
open PySem PyProof.Rows
end TS
end
section
namespace TS
open PySem PyProof.Rows
section
variable {prog:Program} {w:World} {A:Around} {E:Value->Shared->Prop} {s:Shared}
end
end TS
end
section
namespace TS
open PySem PyProof.Rows
section
variable {prog:Program} {w:World} {A:Around} {E:Value->Shared->Prop} {s:Shared} {kd:SortKind} {U:Keyed->Prop} {blt:Keyed->Keyed->Bool}
end
section
variable (blt:Keyed->Keyed->Bool)
variable {blt}
variable {a b out:Array Keyed} {ia ib:Nat}
end
end TS
end
section
namespace TS
open PySem PyProof.Rows
section
variable {prog:Program} {w:World} {A:Around} {E:Value->Shared->Prop} {s:Shared} {kd:SortKind} {U:Keyed->Prop} {blt:Keyed->Keyed->Bool}
end
end TS
end
section
namespace TS
open PySem PyProof.Rows
section
variable {blt:Keyed->Keyed->Bool}
variable {a b out:Array Keyed} {na nb:Nat}
variable {U:Keyed->Prop}
end
section
variable {prog:Program} {w:World} {A:Around} {E:Value->Shared->Prop} {s:Shared} {kd:SortKind} {U:Keyed->Prop} {blt:Keyed->Keyed->Bool}
end
end TS
end
section
namespace TS
open PySem PyProof.Rows
section
variable {blt:Keyed->Keyed->Bool} {U:Keyed->Prop}
end
section
variable {prog:Program} {w:World} {A:Around} {E:Value->Shared->Prop} {s:Shared} {kd:SortKind} {U:Keyed->Prop} {blt:Keyed->Keyed->Bool}
end
end TS
end
section
namespace TS
open PySem PyProof.Rows
section
variable {blt:Keyed->Keyed->Bool} {U:Keyed->Prop}
end
section
variable {prog:Program} {w:World} {A:Around} {E:Value->Shared->Prop} {s:Shared} {kd:SortKind} {U:Keyed->Prop} {blt:Keyed->Keyed->Bool}
end
end TS
end
section
namespace TS
open PySem PyProof.Rows
section
variable {blt:Keyed->Keyed->Bool} {U:Keyed->Prop}
end
section
variable {prog:Program} {w:World} {A:Around} {E:Value->Shared->Prop} {s:Shared} {kd:SortKind} {U:Keyed->Prop} {blt:Keyed->Keyed->Bool}
end
section
variable {blt:Keyed->Keyed->Bool} {U:Keyed->Prop}
end
end TS
end
section
namespace TS
open PySem PyProof.Rows
section
variable {prog:Program} {w:World} {A:Around} {E:Value->Shared->Prop} {s:Shared} {kd:SortKind} {U:Keyed->Prop} {blt:Keyed->Keyed->Bool}
end
end TS
end
section
namespace Mi
open PySem
inductive D where
 | uD|non|bl (b:Bool)|int (i:Int)|str (x:Str)
 | tup (xs:List D)|lst (xs:List D)|dct (kvs:List (D×D))|scr (xs:List D)|fdc (kvs:List (D×D))|cel (a:Nat) (xs:List D)
 deriving Inhabited
mutual
noncomputable def D.pure:D->Bool
 | .tup xs=>D.aU xs
 | .lst _=>false
 | .dct _=>false
 | .uD=>false
 | .scr xs=>D.aU xs
 | .fdc _=>false
 | .cel _ _=>false
 | _=>true
noncomputable def D.aU:List D->Bool
 | []=>true
 | x::xs=>x.pure&&D.aU xs
end
mutual
noncomputable def eqD:D->D->Bool
 | .non,.non=>true
 | .bl a,.bl b=>a==b
 | .int a,.int b=>a==b
 | .bl a,.int b=>(if a then (1:Int) else 0)==b
 | .int a,.bl b=>a==(if b then (1:Int) else 0)
 | .str a,.str b=>a==b
 | .tup xs,.tup ys=>oY xs ys
 | .lst xs,.lst ys=>oY xs ys
 | _,_=>false
noncomputable def oY:List D->List D->Bool
 | [],[]=>true
 | x::xs,y::ys=>eqD x y&&oY xs ys
 | _,_=>false
end
mutual
noncomputable def D.bK:Nat->D->Bool
 | n+1,.tup xs=>D.bY n xs
 | n+1,.lst xs=>D.bY n xs
 | 0,.tup _=>false
 | 0,.lst _=>false
 | _,.dct _=>false
 | _,.uD=>false
 | _,.scr _=>false
 | _,.fdc _=>false
 | _,.cel _ _=>false
 | _,_=>true
noncomputable def D.bY:Nat->List D->Bool
 | _,[]=>true
 | n,x::xs=>D.bK n x&&D.bY n xs
end
inductive jD where|lt|le|gt|ge
 deriving DecidableEq
noncomputable def jD.int:jD->Int->Int->Bool
 | .lt,a,b=>decide (a<b)|.le,a,b=>decide (a<=b)|.gt,a,b=>decide (b<a)|.ge,a,b=>decide (b<=a)
noncomputable def jD.nat:jD->Nat->Nat->Bool
 | .lt,a,b=>decide (a<b)|.le,a,b=>decide (a<=b)|.gt,a,b=>decide (b<a)|.ge,a,b=>decide (b<=a)
def LR (a b:Str):Bool:=decide (a.cps.toList<b.cps.toList)
noncomputable def jD.str:jD->Str->Str->Bool
 | .lt,a,b=>LR a b|.le,a,b=>!LR b a|.gt,a,b=>LR b a|.ge,a,b=>!LR a b
mutual
noncomputable def nG (o:jD):D->D->Option Bool
 | .int a,.int b=>some (o.int a b)
 | .str a,.str b=>some (o.str a b)
 | .tup xs,.tup ys=>fD o xs ys
 | _,_=>none
noncomputable def fD (o:jD):List D->List D->Option Bool
 | [],ys=>some (o.nat 0 ys.length)
 | x::xs,[]=>some (o.nat (x::xs).length 0)
 | x::xs,y::ys=>if eqD x y then fD o xs ys else nG o x y
end
inductive Res (α:Type) where
 | ok (a:α)|err (c:Str) (as:List D)|bad
noncomputable def Res.bind {α β:Type}:Res α->(α->Res β)->Res β
 | .ok a,f=>f a
 | .err c as,_=>.err c as
 | .bad,_=>.bad
noncomputable instance:Monad Res where
 pure:=.ok
 bind:=Res.bind
@[simp] theorem Res.aK {α β:Type} (a:α) (f:α->Res β):((Res.ok a) >>= f)=f a:=rfl
@[simp] theorem Res.aAe {α β:Type} (c:Str) (as:List D) (f:α->Res β):((Res.err c as:Res α) >>= f)=.err c as:=rfl
@[simp] theorem Res.aAf {α β:Type} (f:α->Res β):((Res.bad:Res α) >>= f)=.bad:=rfl
@[simp] theorem Res.pure_eq {α:Type} (a:α):(pure a:Res α)=.ok a:=rfl
theorem Res.SJ {α β:Type} {m:Res α} {f:α->Res β} {b:β} (h:(m >>= f)=.ok b):∃a,m=.ok a/\f a=.ok b:=by
 cases m with
 | ok a=>exact ⟨a,rfl,h⟩
 | err c as=>cases h
 | bad=>cases h
noncomputable def Res.ofOpt {α:Type}:Option α->Res α
 | some a=>.ok a
 | none=>.bad
@[simp] theorem Res.V5 {α:Type} (a:α):Res.ofOpt (some a)=.ok a:=rfl
theorem Res.iJ {α:Type} {o:Option α} {a:α} (h:Res.ofOpt o=.ok a):o=some a:=by
 cases o with
 | none=>cases h
 | some b=>cases h;rfl
def lim:Nat:=1000000
inductive Bop where|add|sub|mul|fdiv|mod|pow
 deriving DecidableEq
inductive Cop where|eq|ne|ord (o:jD)|isin|notin|isN|notN
 deriving DecidableEq
def iT (i:Int):Bool:=decide (-(2 ^ 64)<i)&&decide (i<2 ^ 64)
noncomputable def aN:Bop->D->D->Res D
 | .add,.int a,.int b=>.ok (.int (a+b))
 | .sub,.int a,.int b=>.ok (.int (a-b))
 | .mul,.int a,.int b=>if iT a||iT b then .ok (.int (a*b)) else .bad
 | .fdiv,.int a,.int b=>if decide (0<b)&&decide (b<1073741824) then .ok (.int (a / b)) else .bad
 | .mod,.int a,.int b=>if decide (0<b) then .ok (.int (a % b)) else .bad
 | .pow,.int a,.int b=>if decide (0<=b)&&decide (b<=1000000)&&decide (a.natAbs<2 ^ 64) then .ok (.int (a ^ b.toNat)) else .bad
 | .add,.str a,.str b=>if decide (a.length+b.length<=lim) then .ok (.str (a++b)) else .bad
 | .add,.lst a,.lst b=>if decide (a.length+b.length<=lim)&&D.aU a&&D.aU b then .ok (.lst (a++b)) else .bad
 | _,_,_=>.bad
noncomputable def aB5:D->Res Bool
 | .non=>.ok false
 | .bl b=>.ok b
 | .int i=>.ok (i != 0)
 | .str x=>if decide (x.length<=lim) then .ok ((x.length:Int) != 0) else .bad
 | .tup xs=>.ok (!xs.isEmpty)
 | .lst xs=>.ok (!xs.isEmpty)
 | .dct kvs=>.ok (!kvs.isEmpty)
 | .uD=>.bad
 | .fdc _=>.bad
 | .cel _ _=>.bad
 | .scr xs=>.ok (!xs.isEmpty)
noncomputable def nZ:D->Bool
 | .int _=>true
 | .str _=>true
 | _=>false
noncomputable def keyOk:D->Bool
 | .int _=>true
 | .str _=>true
 | .tup xs=>xs.all nZ
 | _=>false
noncomputable def isTup:D->Bool
 | .tup _=>true
 | _=>false
noncomputable def dZ:List (D×D)->D->Option D
 | [],_=>none
 | (k,v)::r,q=>if eqD k q then some v else dZ r q
noncomputable def putD:List (D×D)->D->D->List (D×D)
 | [],q,w=>[(q,w)]
 | (k,v)::r,q,w=>if eqD k q then (k,w)::r else (k,v)::putD r q w
noncomputable def zV (kvs:List (D×D)) (k:D):Bool:=keyOk k&&kvs.all (fun p=>isTup p.1==isTup k)
def aQ:Nat:=12
noncomputable def b8:Cop->D->D->Res D
 | .eq,a,b=>if a.bK aQ&&b.bK aQ then .ok (.bl (eqD a b)) else .bad
 | .ne,a,b=>if a.bK aQ&&b.bK aQ then .ok (.bl (!eqD a b)) else .bad
 | .ord o,a,b=>if a.bK aQ&&b.bK aQ then (match nG o a b with|some k=>.ok (.bl k)|none=>.bad) else .bad
 | .isin,a,.tup ys=>if a.bK aQ&&D.bY aQ ys then .ok (.bl (ys.any fun y=>eqD y a)) else .bad
 | .isin,a,.lst ys=>if a.bK aQ&&D.bY aQ ys then .ok (.bl (ys.any fun y=>eqD y a)) else .bad
 | .isin,a,.dct kvs=>if zV kvs a then .ok (.bl (dZ kvs a).isSome) else .bad
 | .notin,a,.tup ys=>if a.bK aQ&&D.bY aQ ys then .ok (.bl (!(ys.any fun y=>eqD y a))) else .bad
 | .notin,a,.lst ys=>if a.bK aQ&&D.bY aQ ys then .ok (.bl (!(ys.any fun y=>eqD y a))) else .bad
 | .notin,a,.dct kvs=>if zV kvs a then .ok (.bl (!(dZ kvs a).isSome)) else .bad
 | .isN,.scr _,.non=>.bad
 | .notN,.scr _,.non=>.bad
 | .isN,.fdc _,.non=>.bad
 | .notN,.fdc _,.non=>.bad
 | .isN,.cel _ _,.non=>.bad
 | .notN,.cel _ _,.non=>.bad
 | .isN,.non,.non=>.ok (.bl true)
 | .isN,a,.non=>.ok (.bl false)
 | .notN,.non,.non=>.ok (.bl false)
 | .notN,a,.non=>.ok (.bl true)
 | _,_,_=>.bad
noncomputable def ixD (n:Nat) (i:Int):Option Nat:=if 0<=i then (if i<n then some i.toNat else none) else if -(n:Int)<=i then some (i+n).toNat else none
noncomputable def getD (d i:D):Res D:=
 match d,i with
 | .tup xs,.int i=>Res.ofOpt ((ixD xs.length i).bind fun j=>xs[j]?)
 | .lst xs,.int i=>Res.ofOpt ((ixD xs.length i).bind fun j=>xs[j]?)
 | .scr xs,.int i=>Res.ofOpt ((ixD xs.length i).bind fun j=>xs[j]?)
 | .cel _ xs,.int i=>Res.ofOpt ((ixD xs.length i).bind fun j=>xs[j]?)
 | .str x,.int i=>if decide (x.length<=lim) then Res.ofOpt (((ixD x.cps.toList.length i).bind fun j=>x.cps.toList[j]?).map fun c=>D.str ⟨#[c]⟩) else .bad
 | .dct kvs,k=>if keyOk k then Res.ofOpt (dZ kvs k) else .bad
 | .fdc kvs,k=>if keyOk k then Res.ofOpt (dZ kvs k) else .bad
 | _,_=>.bad
noncomputable def vY (n d:Nat):Option Int->Nat
 | none=>d
 | some v=>if v<0 then (max (v+(n:Int)) 0).toNat else (min v (n:Int)).toNat
noncomputable def cutD {α:Type} (xs:List α) (lo hi:Option Int):List α:=(xs.drop (vY xs.length 0 lo)).take (vY xs.length xs.length hi-vY xs.length 0 lo)
inductive Ty where|int|str|bool|list|tuple|dict
 deriving DecidableEq
noncomputable def DW:Ty->D->Res Bool
 | _,.uD=>.bad
 | _,.scr _=>.bad
 | _,.fdc _=>.bad
 | _,.cel _ _=>.bad
 | .int,.int _=>.ok true
 | .int,.bl _=>.ok true
 | .bool,.bl _=>.ok true
 | .str,.str _=>.ok true
 | .tuple,.tup _=>.ok true
 | .list,.lst _=>.ok true
 | .dict,.dct _=>.ok true
 | _,_=>.ok false
def j7 (i:Int):Bool:=decide (-(2 ^ 62)<=i)&&decide (i<2 ^ 62)
noncomputable def asB:D->Res Bool
 | .bl b=>.ok b
 | _=>.bad
noncomputable def asI:D->Res Int
 | .int i=>.ok i
 | _=>.bad
inductive Fl where
 | nx (ρ:List D)|rt (d:D)|bk (ρ:List D)|ct (ρ:List D)
noncomputable def aCn:Fl->Res D
 | .rt d=>.ok d
 | .nx _=>.ok .non
 | _=>.bad
abbrev FE:=List D->Res D
abbrev FT:=List D->Res Bool
abbrev FA:=List D->Res (List D)
def bR (i:Nat):FE:=fun ρ=>match ρ.getD i .uD with|.uD=>.bad|d=>.ok d
def bC (d:D):FE:=fun _=>.ok d
abbrev oZ:FE := bR 0
abbrev dH:FE := bR 2
abbrev fL:FE := bR 1
abbrev fO:FE := bR 5
abbrev pF:FE := bR 6
abbrev gQ:FE := bR 14
abbrev cL:FE := bR 4
abbrev kI:FE := bR 7
abbrev j8:FE := bR 10
abbrev cF:FE := bR 3
abbrev gR:FE := bR 11
abbrev m_:FE := bR 8
abbrev nA:FE := bR 12
abbrev eU:FE := bR 13
abbrev iZ:FE := bR 9
abbrev rE:FE := bR 15
abbrev jW:FE := bR 20
abbrev nC:FE := bR 16
abbrev rF:FE := bR 17
abbrev o5:FE := bR 19
abbrev iI:FE := bC (.int 0)
abbrev cJ:FE := bC (.int 1)
abbrev gU:FE := bC (.int 3)
abbrev gW:FE := bC (.int 2)
abbrev XJ:FE := bC (.int 5)
abbrev aAg:FE := bC (.int 9)
abbrev KH:FE := bC (.int 6)
abbrev jX:FE := bC (.int 26)
abbrev SM:FE := bC (.int 8)
abbrev DX:FE := bC (.int 40)
abbrev vZ:FE := bC (.int 4)
abbrev yR:FE := bC (.int 12)
abbrev SN:FE := bC (.int 10)
abbrev L_:FE := bC (.int 13)
abbrev jE:FE := bC (.int 19)
abbrev v5:FE := bC (.int 120)
abbrev DY:FE := bC (.int 21)
abbrev D_:FE := bC (.int 20)
def b2 (f:D->D->Res D) (a b:FE):FE:=fun ρ=>do let x <- a ρ;let y <- b ρ;f x y
def b1 (f:D->Res D) (a:FE):FE:=fun ρ=>do let x <- a ρ;f x
def bTB (a:FE):FT:=fun ρ=>do let x <- a ρ;asB x
def EY (a:FT):FT:=fun ρ=>do let x <- a ρ;pure (!x)
def zW (a b:FT):FT:=fun ρ=>do let x <- a ρ;if x then b ρ else pure false
def bOr (a b:FT):FT:=fun ρ=>do let x <- a ρ;if x then pure true else b ρ
def aR:FA:=fun _=>.ok []
def aB (a:FE) (b:FA):FA:=fun ρ=>do let x <- a ρ;let xs <- b ρ;pure (x::xs)
noncomputable def fV (a:FA):FE:=fun ρ=>do let xs <- a ρ;if decide (xs.length<=lim) then pure (.tup xs) else .bad
noncomputable def iV (a:FA):FE:=fun ρ=>do let xs <- a ρ;if decide (xs.length<=lim) then pure (.lst xs) else .bad
def bD (f:List D->Res D) (a:FA):FE:=fun ρ=>do let xs <- a ρ;f xs
noncomputable def bM (f:D->List D->Res D) (o:FE) (a:FA):FE:=fun ρ=>do let x <- o ρ;let xs <- a ρ;f x xs
noncomputable def cN (a:FE):List D->Res (Option Int):=fun ρ=>do let x <- a ρ;let i <- asI x;pure (some i)
def eO:List D->Res (Option Int):=fun _=>.ok none
noncomputable def aCo:D->Res Bool
 | .dct _=>.bad
 | .scr _=>.bad
 | .fdc _=>.bad
 | d=>aB5 d
def bTr (a:FE):FT:=fun ρ=>do let x <- a ρ;aCo x
noncomputable def zX:D->Res D
 | .int i=>.ok (.int (-i))
 | _=>.bad
noncomputable def aAh:D->Option Int->Option Int->Res D
 | .lst xs,lo,hi=>if D.aU xs then .ok (.lst (cutD xs lo hi)) else .bad
 | .scr xs,lo,hi=>if D.aU xs then .ok (.lst (cutD xs lo hi)) else .bad
 | .tup xs,lo,hi=>if !D.aU xs||decide (vY xs.length 0 lo=0/\vY xs.length xs.length hi=xs.length) then .bad else .ok (.tup (cutD xs lo hi))
 | _,_,_=>.bad
noncomputable def lR (o:jD):List D->Res D
 | []=>.bad
 | x::xs=>if ((x::xs).all fun a=>a.bK aQ&&(x::xs).all fun b=>(nG o a b).isSome) then .ok (xs.foldl (fun m y=>if (nG o y m).getD false then y else m) x) else .bad
noncomputable def btD (o:jD) (ds:List D) (i j:Nat):Bool:=(nG o (ds.getD i .non) (ds.getD j .non)).getD false
noncomputable def rG (o:jD):List D->Res D
 | [.lst xs]=>lR o xs
 | [.tup xs]=>lR o xs
 | [a,b]=>lR o [a,b]
 | _=>.bad
noncomputable def jF:List D->Res D
 | [.tup xs]=>.ok (.int xs.length)
 | [.lst xs]=>.ok (.int xs.length)
 | [.scr xs]=>.ok (.int xs.length)
 | [.cel _ xs]=>.ok (.int xs.length)
 | [.str x]=>if decide (x.length<=lim) then .ok (.int x.length) else .bad
 | _=>.bad
noncomputable def dC:List D->Res D
 | [.tup xs]=>.ok (.tup xs)
 | [.lst xs]=>.ok (.tup xs)
 | _=>.bad
noncomputable def Ty.nm:Ty->String
 | .int => "int" | .str => "str" | .bool => "bool" | .list => "list" | .tuple => "tuple" | .dict => "dict"
def uM (t:Ty) (d:D):Res D:=do let k <- DW t d;pure (.bl k)
noncomputable def tZ (n:Nat) (f:List D->Res D):List D->Res D:=fun ds=>if decide (ds.length=n) then f ds else .bad
abbrev FI:=List D->Res (List D×Bool)
noncomputable def n6:D->Res (List D)
 | .lst xs=>.ok xs
 | .tup xs=>.ok xs
 | _=>.bad
noncomputable def gH:List D->Res (List D×Bool)
 | [.int n]=>if j7 n then .ok ((List.range n.toNat).map fun (k:Nat)=>D.int (0+(k:Int)),true) else .bad
 | _=>.bad
noncomputable def iW (f:FA) (g:List D->Res (List D×Bool)):FI:=fun ρ=>do let xs <- f ρ;g xs
def v6 (n:Nat) (ρ:List D):List D:=(List.range n).map fun i=>ρ.getD i .uD
def i_:D->Res (List D):=fun d=>.ok [d]
noncomputable def uN (n:Nat) (t:D->Res (List D)) (c:FT) (f:FE) (k:Bool) (ρ:List D) (acc:List D) (x:D):Res (List D):=do
 let bs <- t x
 let ok <- c (v6 n ρ++bs)
 if ok then (do
  let y <- f (v6 n ρ++bs)
  if k||y.pure then pure (acc++[y]) else .bad)
 else pure acc
noncomputable def nD (g:List D->D->Res (List D)):List D->List D->Res (List D)
 | acc,[]=>.ok acc
 | acc,x::xs=>do let a <- g acc x;nD g a xs
noncomputable def cG (n:Nat) (it:FI) (t:D->Res (List D)) (c:FT) (f:FE) (k:Bool):FE:=fun ρ=>do
 let xs <- it ρ
 if decide (xs.1.length<=lim) then (do
  let ys <- nD (uN n t c f k ρ) [] xs.1
  pure (.lst ys)) else .bad
def fG:FT:=fun _=>.ok true
abbrev FS:=List D->Res Fl
noncomputable def D.v7:D->Bool
 | .cel _ _=>false
 | _=>true
noncomputable def inner:D->Bool
 | .lst xs=>D.aU xs
 | .dct kvs=>D.aU (kvs.map (·.2))
 | .cel _ xs=>D.aU xs
 | _=>false
def lU:FS:=fun ρ=>.ok (.nx ρ)
noncomputable def bA (f g:FS):FS:=fun ρ=>do
 let r <- f ρ
 match r with
 | .nx ρ'=>g ρ'
 | r=>.ok r
noncomputable def bL (o:Bool) (i:Nat) (f:FE) (k:Bool):FS:=fun ρ=>do
 let d <- f ρ
 if (if o then k&&inner d else k||d.pure) then .ok (.nx (ρ.set i d)) else .bad
noncomputable def sAl (i j:Nat):FS:=fun ρ=>do
 let d <- bR j ρ
 .ok (.nx (ρ.set i d))
noncomputable def sIf (c:FT) (f g:FS):FS:=fun ρ=>do
 let k <- c ρ
 if k then f ρ else g ρ
noncomputable def rH (f:FE) (k:Bool):FS:=fun ρ=>do
 let d <- f ρ
 if k||d.pure then .ok (.rt d) else .bad
noncomputable def SQ (i:Nat):FS:=fun ρ=>do
 let d <- bR i ρ
 .ok (.rt d)
def rtX:Nat:=1000000
noncomputable def uO (f:FE) (k:Bool):FS:=fun ρ=>do
 let d <- f ρ
 if k||d.pure then .ok (.rt (.tup (d::ρ))) else .bad
noncomputable def pG (i:Nat):FS:=fun ρ=>do
 let d <- bR i ρ
 if d.v7 then .ok (.rt (.tup (d::ρ))) else .bad
noncomputable def pQ (i:Nat) (f:FE):FS:=fun ρ=>do
 let d <- f ρ
 match ρ.getD i .uD with
 | .lst xs=>if decide (xs.length<lim)&&d.pure then .ok (.nx (ρ.set i (.lst (xs++[d])))) else .bad
 | _=>.bad
noncomputable def zY (i:Nat) (f:FE) (g:FE):FS:=fun ρ=>do
 let d <- g ρ
 let k <- f ρ
 match ρ.getD i .uD with
 | .dct kvs=>if decide (kvs.length<lim)&&zV kvs k&&d.pure then .ok (.nx (ρ.set i (.dct (putD kvs k d)))) else .bad
 | _=>.bad
def tg1 (i:Nat):D->List D->Res (List D):=fun d ρ=>.ok (ρ.set i d)
noncomputable def uP:List Nat->List D->List D->List D
 | i::is,d::ds,ρ=>uP is ds (ρ.set i d)
 | _,_,ρ=>ρ
noncomputable def tgN (is:List Nat):D->List D->Res (List D)
 | .tup ds,ρ=>if decide (ds.length=is.length) then .ok (uP is ds ρ) else .bad
 | _,_=>.bad
noncomputable def nH (t:D->List D->Res (List D)) (body:FS):List D->List D->Res Fl
 | [],ρ=>.ok (.nx ρ)
 | x::xs,ρ=>do
  let ρ1 <- t x ρ
  let r <- body ρ1
  match r with
  | .nx ρ'=>nH t body xs ρ'
  | .ct ρ'=>nH t body xs ρ'
  | .bk ρ'=>.ok (.nx ρ')
  | .rt d=>.ok (.rt d)
noncomputable def E_ (it:FI) (t:D->List D->Res (List D)) (body:FS):FS:=fun ρ=>do
 let xs <- it ρ
 if xs.2 then nH t body xs.1 ρ else .bad
noncomputable def pR (i:Nat) (t:D->List D->Res (List D)) (body:FS):FS:=fun ρ=>do
 let d <- bR i ρ
 let xs <- n6 d
 nH t body xs ρ
noncomputable def fnS (n m:Nat) (f:FS):List D->Res D:=fun ds=>do
 let r <- f (ds++List.replicate (m-n) .uD)
 aCn r
end Mi
end
section
namespace Mi
open PySem
end Mi
end
section
namespace Mi
open PySem L2
class KFrag where
 K:PySem.W.Frag
variable [KFrag]
noncomputable def SX (H:Hp) (a:Addr) (xs:List V):Prop:=(∃o,H a=some (.frz o (.lst xs)))\/
 ∃(o:Obj) (its:Array Value) (n:Nat),KFrag.K.lookup a=some o/\o.cls=.type "list"/\o.dict=none/\o.data=.seq its n/\its.size<=sizeLine/\Vals xs its.toList
theorem SX.sq {H:Hp} {a:Addr} {xs:List V} {K:PySem.W.Frag} (h:SX H a xs) (hK:KFrag.K=K):SqL K H a xs:=by
 subst hK;rcases h with ⟨o,h⟩|h
 ·exact .inl (.inr ⟨o,h⟩)
 ·exact .inr h
noncomputable def kD:Key->D
 | .inl i=>.int i
 | .inr x=>.str x
noncomputable def zZ:HO->Bool
 | .lst _=>true
 | .dK _=>true
 | .dT _=>true
 | _=>false
mutual
inductive Rep (P:Addr->Prop) (H:Hp):V->D->Prop
 | non:Rep P H .non .non
 | bl (b:Bool):Rep P H (.bl b) (.bl b)
 | int (i:Int):Rep P H (.int i) (.int i)
 | str (x:Str):Rep P H (.str x) (.str x)
 | tup {a:Addr} {xs:List V} {ds:List D}:H a=some (.tup xs)->bH P H xs ds->Rep P H (.ref a) (.tup ds)
 | lst {a:Addr} {xs:List V} {ds:List D}:H a=some (.lst xs)->P a->bH P H xs ds->Rep P H (.ref a) (.lst ds)
 | cel {a:Addr} {xs:List V} {ds:List D}:H a=some (.lst xs)->P a->bH P H xs ds->Rep P H (.ref a) (.cel a ds)
 | frz {a:Addr} {xs:List V} {ds:List D}:SX H a xs->bH P H xs ds->Rep P H (.ref a) (.scr ds)
 | dK {a:Addr} {kvs:List (Key×V)} {ds:List (D×D)}:H a=some (.dK kvs)->P a->jG P H kvs ds->(kvs.map (·.1)).Nodup->Rep P H (.ref a) (.dct ds)
 | dT {a:Addr} {kvs:List (List Key×V)} {ds:List (D×D)}:H a=some (.dT kvs)->P a->lX P H kvs ds->(kvs.map (·.1)).Nodup->Rep P H (.ref a) (.dct ds)
 | fdK {a:Addr} {o:Obj} {kvs:List (Key×V)} {ds:List (D×D)}:H a=some (.frz o (.dK kvs))->jG P H kvs ds->(kvs.map (·.1)).Nodup->Rep P H (.ref a) (.fdc ds)
 | fdT {a:Addr} {o:Obj} {kvs:List (List Key×V)} {ds:List (D×D)}:H a=some (.frz o (.dT kvs))->lX P H kvs ds->(kvs.map (·.1)).Nodup->Rep P H (.ref a) (.fdc ds)
inductive bH (P:Addr->Prop) (H:Hp):List V->List D->Prop
 | nil:bH P H [] []
 | cons {v:V} {d:D} {vs:List V} {ds:List D}:Rep P H v d->bH P H vs ds->bH P H (v::vs) (d::ds)
inductive jG (P:Addr->Prop) (H:Hp):List (Key×V)->List (D×D)->Prop
 | nil:jG P H [] []
 | cons {k:Key} {v:V} {d:D} {r:List (Key×V)} {ds:List (D×D)}:Rep P H v d->jG P H r ds->jG P H ((k,v)::r) ((kD k,d)::ds)
inductive lX (P:Addr->Prop) (H:Hp):List (List Key×V)->List (D×D)->Prop
 | nil:lX P H [] []
 | cons {k:List Key} {v:V} {d:D} {r:List (List Key×V)} {ds:List (D×D)}:Rep P H v d->lX P H r ds->lX P H ((k,v)::r) ((.tup (k.map kD),d)::ds)
end
noncomputable def MF (P:Addr->Prop) (H H':Hp):Prop:=∀a o,H a=some o->(P a\/zZ o=false)->H' a=some o
theorem MF.same {P:Addr->Prop} {H H':Hp} (h:cH H H'):MF P H H':=fun a o e _=>h a o e
mutual
theorem Rep.keep {P P':Addr->Prop} {H H':Hp} (k:MF P H H') (m:∀a,P a->P' a):∀{v:V} {d:D},Rep P H v d->Rep P' H' v d
 | _,_,.non=>.non
 | _,_,.bl b=>.bl b
 | _,_,.int i=>.int i
 | _,_,.str x=>.str x
 | _,_,.tup e r=>.tup (k _ _ e (.inr rfl)) (bH.keep k m r)
 | _,_,.lst e p r=>.lst (k _ _ e (.inl p)) (m _ p) (bH.keep k m r)
 | _,_,.cel e p r=>.cel (k _ _ e (.inl p)) (m _ p) (bH.keep k m r)
 | _,_,.frz e r=>.frz (e.imp (fun ⟨o,e⟩=>⟨o,k _ _ e (.inr rfl)⟩) id) (bH.keep k m r)
 | _,_,.dK e p r n=>.dK (k _ _ e (.inl p)) (m _ p) (jG.keep k m r) n
 | _,_,.dT e p r n=>.dT (k _ _ e (.inl p)) (m _ p) (lX.keep k m r) n
 | _,_,.fdK e r n=>.fdK (k _ _ e (.inr rfl)) (jG.keep k m r) n
 | _,_,.fdT e r n=>.fdT (k _ _ e (.inr rfl)) (lX.keep k m r) n
theorem bH.keep {P P':Addr->Prop} {H H':Hp} (k:MF P H H') (m:∀a,P a->P' a):∀{v:List V} {d:List D},bH P H v d->bH P' H' v d
 | _,_,.nil=>.nil
 | _,_,.cons r t=>.cons (Rep.keep k m r) (bH.keep k m t)
theorem jG.keep {P P':Addr->Prop} {H H':Hp} (k:MF P H H') (m:∀a,P a->P' a):∀{v:List (Key×V)} {d:List (D×D)},jG P H v d->jG P' H' v d
 | _,_,.nil=>.nil
 | _,_,.cons r t=>.cons (Rep.keep k m r) (jG.keep k m t)
theorem lX.keep {P P':Addr->Prop} {H H':Hp} (k:MF P H H') (m:∀a,P a->P' a):∀{v:List (List Key×V)} {d:List (D×D)},lX P H v d->lX P' H' v d
 | _,_,.nil=>.nil
 | _,_,.cons r t=>.cons (Rep.keep k m r) (lX.keep k m t)
end
theorem Rep.mono {P P':Addr->Prop} {H:Hp} {v:V} {d:D} (r:Rep P H v d) (m:∀a,P a->P' a):Rep P' H v d:=r.keep (fun _ _ e _=>e) m
theorem bH.mono {P P':Addr->Prop} {H:Hp} {v:List V} {d:List D} (r:bH P H v d) (m:∀a,P a->P' a):bH P' H v d:=r.keep (fun _ _ e _=>e) m
theorem Rep.same {P:Addr->Prop} {H H':Hp} {v:V} {d:D} (r:Rep P H v d) (s:cH H H'):Rep P H' v d:=r.keep (.same s) fun _ h=>h
theorem bH.same {P:Addr->Prop} {H H':Hp} {v:List V} {d:List D} (r:bH P H v d) (s:cH H H'):bH P H' v d:=r.keep (.same s) fun _ h=>h
mutual
theorem Rep.bI {P P':Addr->Prop} {H:Hp}:∀{v:V} {d:D},Rep P H v d->d.pure=true->Rep P' H v d
 | _,_,.non,_=>.non
 | _,_,.bl b,_=>.bl b
 | _,_,.int i,_=>.int i
 | _,_,.str x,_=>.str x
 | _,_,.tup e r,h=>.tup e (bH.bI r (by rw [D.pure] at h;exact h))
 | _,_,.lst _ _ _,h=>by rw [D.pure] at h;cases h
 | _,_,.cel _ _ _,h=>by rw [D.pure] at h;cases h
 | _,_,.frz e r,h=>.frz e (bH.bI r (by rw [D.pure] at h;exact h))
 | _,_,.dK _ _ _ _,h=>by rw [D.pure] at h;cases h
 | _,_,.dT _ _ _ _,h=>by rw [D.pure] at h;cases h
 | _,_,.fdK _ _ _,h=>by rw [D.pure] at h;cases h
 | _,_,.fdT _ _ _,h=>by rw [D.pure] at h;cases h
theorem bH.bI {P P':Addr->Prop} {H:Hp}:∀{v:List V} {d:List D},bH P H v d->D.aU d=true->bH P' H v d
 | _,_,.nil,_=>.nil
 | _,_,.cons r t,h=>by
  rw [D.aU,Bool.and_eq_true] at h;exact .cons (Rep.bI r h.1) (bH.bI t h.2)
end
theorem bH.length {P:Addr->Prop} {H:Hp}:∀{v:List V} {d:List D},bH P H v d->v.length=d.length
 | _,_,.nil=>rfl
 | _,_,.cons _ t=>by rw [List.length_cons,List.length_cons,bH.length t]
theorem bH.get {P:Addr->Prop} {H:Hp}:∀{vs:List V} {ds:List D} {i:Nat} {d:D},bH P H vs ds->ds[i]?=some d->∃v,vs[i]?=some v/\Rep P H v d
 | _,_,_,_,.nil,e=>by simp at e
 | _,_,0,_,.cons r _,e=>by simp at e;subst e;exact ⟨_,rfl,r⟩
 | _,_,i+1,d,.cons _ t,e=>by
  obtain ⟨v,h1,h2⟩:=bH.get (i:=i) (d:=d) t (by simpa using e);exact ⟨v,by simpa using h1,h2⟩
theorem bH.at {P:Addr->Prop} {H:Hp}:∀{vs:List V} {ds:List D} {i:Nat} {v:V},bH P H vs ds->vs[i]?=some v->∃d,ds[i]?=some d/\Rep P H v d
 | _,_,_,_,.nil,e=>by simp at e
 | _,_,0,_,.cons r _,e=>by simp at e;subst e;exact ⟨_,rfl,r⟩
 | _,_,i+1,d,.cons _ t,e=>by
  obtain ⟨v,h1,h2⟩:=bH.at (i:=i) (v:=d) t (by simpa using e);exact ⟨v,by simpa using h1,h2⟩
theorem bH.append {P:Addr->Prop} {H:Hp}:∀{vs ws:List V} {ds es:List D},bH P H vs ds->bH P H ws es->bH P H (vs++ws) (ds++es)
 | _,_,_,_,.nil,s=>s
 | _,_,_,_,.cons r t,s=>.cons r (bH.append t s)
theorem bH.take {P:Addr->Prop} {H:Hp}:∀{vs:List V} {ds:List D} (n:Nat),bH P H vs ds->bH P H (vs.take n) (ds.take n)
 | _,_,0,_=>.nil
 | _,_,_+1,.nil=>.nil
 | _,_,n+1,.cons r t=>.cons r (bH.take n t)
theorem bH.drop {P:Addr->Prop} {H:Hp}:∀{vs:List V} {ds:List D} (n:Nat),bH P H vs ds->bH P H (vs.drop n) (ds.drop n)
 | _,_,0,r=>r
 | _,_,_+1,.nil=>.nil
 | _,_,n+1,.cons _ t=>bH.drop n t
theorem bH.set {P:Addr->Prop} {H:Hp} {v:V} {d:D} (r:Rep P H v d):∀{vs:List V} {ds:List D} (n:Nat),bH P H vs ds->bH P H (vs.set n v) (ds.set n d)
 | _,_,_,.nil=>.nil
 | _,_,0,.cons _ t=>.cons r t
 | _,_,n+1,.cons q t=>.cons q (bH.set r n t)
theorem bH.snoc {P:Addr->Prop} {H:Hp} {vs:List V} {ds:List D} {v:V} {d:D} (t:bH P H vs ds) (r:Rep P H v d):bH P H (vs++[v]) (ds++[d]):=t.append (.cons r .nil)
theorem Rep.uD {P:Addr->Prop} {H:Hp} {v:V}:¬Rep P H v .uD:=fun h=>by cases h
abbrev All:Addr->Prop:=fun _=>True
abbrev New (H:Hp):Addr->Prop:=fun a=>H a=none
theorem Rep.all {P:Addr->Prop} {H:Hp} {v:V} {d:D} (r:Rep P H v d):Rep All H v d:=r.mono fun _ _=>trivial
theorem bH.all {P:Addr->Prop} {H:Hp} {v:List V} {d:List D} (r:bH P H v d):bH All H v d:=r.mono fun _ _=>trivial
theorem cH.new {H H':Hp} (s:cH H H'):∀a,New H' a->New H a:=fun a h=>s.free h
theorem cH.upd {H:Hp} {a:Addr} {o:HO} (h:H a=none):cH H (upd H a o):=fun b u e=>by rw [bT (eQ e h)];exact e
noncomputable def ER (H:Hp) (σ:St) (ρ:List D):Prop:=∀i,ρ.getD i .uD≠.uD->∃v,σ[i]?=some (some v)/\Rep All H v (ρ.getD i .uD)
theorem ER.same {H H':Hp} {σ:St} {ρ:List D} (e:ER H σ ρ) (s:cH H H'):ER H' σ ρ:=fun i h=>by
 obtain ⟨v,h1,h2⟩:=e i h;exact ⟨v,h1,h2.same s⟩
section
variable (cf:Nat->List D->Res D) (ff:Nat->Bool)
end
theorem PE.imp {X:Cx} {e:PySem.Expr} {t t':TE} (h:PE X e t) (i:∀σ H Q,t' σ H Q->t σ H Q):PE X e t':=fun pins s σ H Q I q=>h pins s σ H Q I (i σ H Q q)
theorem PT.imp {X:Cx} {e:PySem.Expr} {t t':TT} (h:PT X e t) (i:∀σ H Q,t' σ H Q->t σ H Q):PT X e t':=fun pins s σ H Q I q=>h pins s σ H Q I (i σ H Q q)
theorem PA.imp {X:Cx} {e:List PySem.Expr} {t t':TA} (h:PA X e t) (i:∀σ H Q,t' σ H Q->t σ H Q):PA X e t':=fun pos pins s σ H Q I q=>h pos pins s σ H Q I (i σ H Q q)
end Mi
end
section
namespace L2
open PySem PySem.Spec PyProof.Rows
noncomputable def fP (own:List Str) (x:Str):Str:=if own.contains x then x++(" " : Str) else x
noncomputable def clF (env:Env):List (Str×NameKind)->List (Str×Addr)->List (Str×Addr)
 | [],acc=>acc
 | (n,k)::r,acc=>clF env r (if k==.free then (n,(env.cells.lookup n).getD 0)::acc else acc)
theorem lY {env:Env}:∀(names:List (Str×NameKind)) (acc:List (Str×Addr)),(∀y∈names,y.2=.free->∃c,env.cells.lookup y.1=some c)->
  (forIn names acc fun x cs=>(match x with
   | (name,kind)=>if (kind==.free)=true then cellOf env name >>= fun c=>pure (ForInStep.yield ((name,c)::cs)) else pure (ForInStep.yield cs):Sem (ForInStep (List (Str×Addr)))))=(pure (clF env names acc):Sem _)
 | [],acc,_=>by rw [List.forIn_nil];rfl
 | (n,k)::r,acc,h=>by
  rw [List.forIn_cons];by_cases hk:(k==.free)=true
  ·have hk':k=.free:=by simpa using hk
   obtain ⟨c,e⟩:=h (n,k) (List.mem_cons_self ..) hk';have e':cellOf env n=pure c:=by
    unfold cellOf;have e2:env.cells.lookup n=some c:=e;rw [e2]
   dsimp only;rw [if_pos hk,e',pure_bind,pure_bind];dsimp only;rw [lY r _ fun y hy=>h y (List.mem_cons_of_mem _ hy)];have e2:env.cells.lookup n=some c:=e;simp only [clF,hk,if_true,e2,Option.getD_some]
  ·dsimp only;rw [if_neg hk,pure_bind];dsimp only;rw [lY r _ fun y hy=>h y (List.mem_cons_of_mem _ hy)];simp only [clF,hk,Bool.false_eq_true,if_false]
theorem yS {env:Env} {scope:Scope} (h:∀y∈scope.names,y.2=.free->∃c,env.cells.lookup y.1=some c):closureFor scope env=pure (clF env scope.names []):=by
 unfold closureFor;have:=lY (env:=env) scope.names [] h;simp only [bind_pure] at *;exact this
theorem uQ {env:Env}:∀{names:List (Str×NameKind)} {acc:List (Str×Addr)} {x:Str} {c:Addr},(∀y∈names,y.2=.free->∃c,env.cells.lookup y.1=some c)->(∀x c,acc.lookup x=some c->env.cells.lookup x=some c)->
  (clF env names acc).lookup x=some c->env.cells.lookup x=some c
 | [],acc,x,c,_,h,e=>h x c e
 | (n,k)::r,acc,x,c,q,h,e=>by
  unfold clF at e;refine uQ (fun y hy=>q y (List.mem_cons_of_mem _ hy)) (fun y d hy=>?_) e;by_cases hk:(k==.free)=true
  ·rw [if_pos hk,List.lookup_cons] at hy;obtain ⟨c',e'⟩:=q (n,k) (List.mem_cons_self ..) (by simpa using hk);have e2:env.cells.lookup n=some c':=e';cases hyn:y==n with
   | true=>
    rw [hyn] at hy;have:y=n:=by simpa using hyn
    subst this;rw [e2] at hy;simp only [Option.getD_some] at hy;rw [e2];exact hy
   | false=>rw [hyn] at hy;exact h y d hy
  ·rw [if_neg hk] at hy;exact h y d hy
theorem FJ {env:Env}:∀{names:List (Str×NameKind)} {acc:List (Str×Addr)} {x:Str},(∃c,acc.lookup x=some c)->∃c,(clF env names acc).lookup x=some c
 | [],_,_,h=>h
 | (n,k)::r,acc,x,⟨c,h⟩=>by
  unfold clF;refine FJ ?_;by_cases hk:(k==.free)=true
  ·rw [if_pos hk,List.lookup_cons];cases x==n with
   | true=>exact ⟨_,rfl⟩
   | false=>exact ⟨c,h⟩
  ·rw [if_neg hk];exact ⟨c,h⟩
theorem uR {env:Env}:∀{names:List (Str×NameKind)} {acc:List (Str×Addr)} {x:Str},(x,NameKind.free)∈names->∃c,(clF env names acc).lookup x=some c
 | (n,k)::r,acc,x,h=>by
  unfold clF;rcases List.mem_cons.mp h with e|h
  ·cases e;refine FJ ?_;rw [if_pos (by decide),List.lookup_cons];simp
  ·exact uR h
structure b_ (N:List Str) (sc scope:Scope) (own:List Str):Prop where
 kind:scope.kind=.function
 nocell:∀y∈scope.names,y.2≠.cell
 names:∀y∈scope.names,y.2=.local->scope.names.lookup y.1=some .local
 free:∀y∈scope.names,y.2=.free->sc.names.lookup y.1=some .cell\/sc.names.lookup y.1=some .free
 ownl:∀x∈own,scope.names.lookup x=some .local
 hid:∀x∈own,scope.names.lookup (x++(" " : Str))=none
 loc:∀y∈scope.names,y.2=.local->y.1∈own\/y.1∉N
structure cA (X X':Cx) (scope:Scope) (own:List Str):Prop where
 prog:X'.prog=X.prog
 w:X'.w=X.w
 K:X'.K=X.K
 mg:X'.mg=X.mg
 base:X'.base=X.base
 A:X'.A=X.A
 N:X'.N=X.N.map (fP own)++own
 scope:X'.env.scope=relabel scope X.env
 calm:X'.calm=X.calm
 xe:X'.xe=fun _ _=>False
noncomputable def v8 (X:Cx) (scope:Scope) (cl:List (Str×Addr)) (C:Addr) (own:List Str) (s₂:Shared) (H₂:Hp) (fp:List Addr):Cx:=
 {X with N:=X.N.map (fP own)++own,s₀:=s₂,H₀:=H₂,env:=compEnvC scope cl C X.env,outer:=X.stack,stack:=X.stack,ex:=fp,fn:=fun _=>false,pn:=[],xe:=fun _ _=>False}
theorem FN {X:Cx} {scope:Scope} {cl:List (Str×Addr)} {C:Addr} {own:List Str} {s₂:Shared} {H₂:Hp} {fp:List Addr}:cA X (v8 X scope cl C own s₂ H₂ fp) scope own:=
 ⟨rfl,rfl,rfl,rfl,rfl,rfl,rfl,rfl,rfl,rfl⟩
noncomputable def Ext (σ σ2:St):Prop:=σ2.length=σ.length/\∀(i:Nat) v,σ[i]?=some (some v)->σ2[i]?=some (some v)
noncomputable def uT (wi:TI) (g:TG) (tc:TT) (te:TE) (m:Nat):TE:=fun σ H Q=>wi σ H fun J H1=>∀p,H1 p=none->
 ∃W:Nat->Nat->List V->Hp->Prop,(∃n,W 0 n [] (upd H1 p (.lst [])))/\∀i n ys H,W i n ys H->H p=some (.lst ys)/\((J.stop i H/\Q (.ref p) H)\/(J.go i H/\ys.length<sizeLine/\
  ∀x H2,J.yld i H x H2->g x (σ++List.replicate m none) H2 fun σ2 H3=>Ext (σ++List.replicate m none) σ2/\tc σ2 H3 fun b H4=>if b=true then te σ2 H4 fun y H5=>H5 p=some (.lst ys)/\∃n',n'<n/\W (i+1) n' (ys++[y]) (upd H5 p (.lst (ys++[y])))
   else ∃n',n'<n/\W (i+1) n' ys H4))
section
variable {X:Cx} {scope:Scope} {own:List Str}
theorem Inv.comp {pins:List (Addr×Obj)} {σ:St} {H2:Hp} {s2:Shared} {fp:List Addr} {h1:Heap} {t1:Nat} (I:Inv X pins σ H2 s2) (S:b_ X.N X.env.scope scope own) (hf:∀b∈fp,BP X pins H2 b)
  (hfx:∀b∈fp,b<s2.heap.objs.size) (hns:h1.Ns (s2.heap.objs.size+1) (fun _=>none))
  (hk:∀b o,s2.heap.get? b=some o->h1.get? b=some o) (hacc:h1.get? s2.heap.objs.size=some {cls:=.type "list",data:=.seq #[]}) :
  Inv (v8 X scope (clF X.env scope.names []) (s2.heap.objs.size+1) own s2 H2 fp) [] (σ++List.replicate own.length none) (upd H2 s2.heap.objs.size (.lst [])) {s2 with heap:=h1,toks:=t1}:=by
 have hD:H2 s2.heap.objs.size=none:=I.hok.fresh (Nat.le_refl _);have hC:H2 (s2.heap.objs.size+1)=none:=I.hok.fresh (Nat.le_succ _);have cells:∀y∈scope.names,y.2=.free->∃c,X.env.cells.lookup y.1=some c:=fun y hy hk=>I.ok.has y.1 (S.free y hy hk)
 have sub:∀x c,(clF X.env scope.names []).lookup x=some c->X.env.cells.lookup x=some c:=fun x c e=>uQ cells (fun _ _ h=>by simp at h) e
 have relk:∀x,(relabel scope X.env).names.lookup x=some .cell\/(relabel scope X.env).names.lookup x=some .free->(x,NameKind.free)∈scope.names:=by
  intro x hx;have go:∀(l:List (Str×NameKind)),(∀y∈l,y.2≠.cell)->((l.map fun (n,k)=>if (k==NameKind.free&&X.env.scope.kind==.function&&X.env.kindOf n==some .cell) then (n,NameKind.cell) else (n,k)).lookup x=some .cell\/(l.map fun (n,k)=>if (k==NameKind.free&&X.env.scope.kind==.function&&X.env.kindOf n==some .cell) then (n,NameKind.cell) else (n,k)).lookup x=some .free)->(x,NameKind.free)∈l:=by
   intro l;induction l with
   | nil=>intro _ h;rcases h with h|h <;> simp at h
   | cons p l ih=>
    obtain ⟨n,k⟩:=p;intro nc h;rw [List.map_cons] at h;dsimp only at h;by_cases hc:(k==NameKind.free&&X.env.scope.kind==.function&&X.env.kindOf n==some .cell)=true
    ·rw [if_pos hc] at h;rw [List.lookup_cons] at h;cases e:x==n with
     | true=>
      have:x=n:=by simpa using e
      subst this;simp only [Bool.and_eq_true] at hc;have:k=.free:=by simpa using hc.1.1
      subst this;exact List.mem_cons_self ..
     | false=>
      rw [e] at h;exact List.mem_cons_of_mem _ (ih (fun y hy=>nc y (List.mem_cons_of_mem _ hy)) h)
    ·rw [if_neg hc] at h;rw [List.lookup_cons] at h;cases e:x==n with
     | true=>
      have:x=n:=by simpa using e
      subst this;rw [e] at h;dsimp only at h;rcases h with h|h
      ·exact absurd (Option.some.inj h) (nc (x,k) (List.mem_cons_self ..))
      ·have:=Option.some.inj h;subst this;exact List.mem_cons_self ..
     | false=>
      rw [e] at h;exact List.mem_cons_of_mem _ (ih (fun y hy=>nc y (List.mem_cons_of_mem _ hy)) h)
  exact go scope.names S.nocell hx
 have hne:s2.heap.objs.size≠s2.heap.objs.size+1:=Nat.ne_of_lt (Nat.lt_succ_self _);have hlt:∀b o,s2.heap.get? b=some o->b<s2.heap.objs.size:=fun b o e=>Heap.lt_size e
 have hstk:∀b∈frs X.stack,b<s2.heap.objs.size:=fun b hb=>by
  obtain ⟨_,o,ho,_⟩:=I.stack.mem hb;exact hlt b o ho
 refine ⟨⟨I.mod,?_,I.ok.glob,I.ok.blt,Nat.le_succ _,fun x y c e1 e2=>I.ok.inj x y c (sub x c e1) (sub y c e2),fun x hx=>?_,fun _ _ h=>(by cases h),I.ok.hd,I.ok.frames,.inl rfl,fun b hb=>?_,fun b o e=>I.bs b o e,?_,fun b o e hb=>?_,fun b hb hz=>?_,I.stack,I.z_⟩,
  rfl,I.bare,Un.laid hk (Nat.le_refl _) hD,?_,fun x c e=>?_,?_,fun x c e=>?_,fun p hp=>(by simp [v8] at hp),?_,?_⟩
 ·exact S.kind
 ·have hx':(relabel scope X.env).names.lookup x=some .cell\/(relabel scope X.env).names.lookup x=some .free:=hx;exact uR (relk x hx')
 ·refine ⟨Nat.ne_of_lt (Nat.lt_succ_of_lt (hfx b hb)),fun x c e z=>?_⟩;exact (hf b hb).2.2.2.2.1 x c (sub x c e) z
 ·exact Nat.le_trans I.ok.bsz I.sz
 ·rcases (hf b hb).2.2.2.1 with z|z
  ·exact I.ok.noex b o e z
  ·exact absurd (Nat.lt_of_lt_of_le (Heap.lt_size e) (Nat.le_trans I.ok.bsz z)) (Nat.lt_irrefl _)
 ·rcases List.mem_cons.mp (I.vP b hz) with z'|z'
  ·exact (hf b hb).2.1 z'
  ·exact (hf b hb).2.2.1 z'
 ·refine ⟨_,hns,fun i x v e1 e2 e3=>?_⟩;have hi:i<σ.length:=by
   rcases Nat.lt_or_ge i σ.length with h|h
   ·exact h
   ·rw [List.getElem?_append_right h,List.getElem?_replicate] at e2;split at e2 <;> cases e2
  rw [List.getElem?_append_left hi] at e2;have hiN:i<X.N.length:=by rw [<-I.len];exact hi
  have e1':(X.N.map (fP own))[i]?=some x:=by
   have:(X.N.map (fP own)++own)[i]?=some x:=e1;rwa [List.getElem?_append_left (by rw [List.length_map];exact hiN)] at this
  rw [List.getElem?_map] at e1';obtain ⟨y,hy,ey⟩:=Option.map_eq_some_iff.mp e1';have hyN:y∈X.N:=List.mem_of_getElem? hy;have e3':(relabel scope X.env).names.lookup x=some .local\/(relabel scope X.env).names.lookup x=some .cell\/(relabel scope X.env).names.lookup x=some .free:=e3;have keys:∀z k,(relabel scope X.env).names.lookup z=some k->∃k',scope.names.lookup z=some k'/\(k=.local->k'=.local):=by
   intro z k;show (scope.names.map fun (n,k)=>if (k==NameKind.free&&X.env.scope.kind==.function&&X.env.kindOf n==some .cell) then (n,NameKind.cell) else (n,k)).lookup z=some k->_;generalize scope.names=l;induction l with
   | nil=>intro h;simp at h
   | cons p l ih=>
    obtain ⟨n,k0⟩:=p;intro h;rw [List.map_cons] at h;dsimp only at h;by_cases hc:(k0==NameKind.free&&X.env.scope.kind==.function&&X.env.kindOf n==some .cell)=true
    ·rw [if_pos hc,List.lookup_cons] at h;rw [List.lookup_cons];cases e:z==n with
     | true=>
      rw [e] at h;dsimp only at h;cases h;exact ⟨k0,rfl,fun q=>by cases q⟩
     | false=>rw [e] at h;exact ih h
    ·rw [if_neg hc,List.lookup_cons] at h;rw [List.lookup_cons];cases e:z==n with
     | true=>
      rw [e] at h;dsimp only at h;cases h;exact ⟨_,rfl,fun q=>q⟩
     | false=>rw [e] at h;exact ih h
  by_cases hown:own.contains y=true
  ·exfalso;have ex:x=y++(" " : Str):=by rw [<-ey];unfold fP;rw [if_pos hown]
   have hn:=S.hid y (by simpa using hown);rw [<-ex] at hn;rcases e3' with q|q|q
   all_goals
    obtain ⟨k',hk',_⟩:=keys _ _ q;rw [hn] at hk';cases hk'
  ·have ex:x=y:=by rw [<-ey];unfold fP;rw [if_neg hown]
   subst ex;rcases e3' with q|q
   ·exfalso;obtain ⟨k',hk',hl⟩:=keys _ _ q;have:=hl rfl;subst this;rcases S.loc _ (PySem.mem_of_lookup hk') rfl with z|z
    ·exact hown (by simpa using z)
    ·exact z hyN
   ·have hfr:=relk x q;have hv:=S.free _ hfr rfl;obtain ⟨m,_,hl⟩:=I.loc;obtain ⟨u,ru,lk⟩:=hl i x v hy e2 (.inr hv);refine ⟨u,ru,.inr ⟨q,?_⟩⟩;rcases lk with ⟨z,_⟩|⟨_,c,hc,o,ho,hd⟩
    ·have z':X.env.scope.names.lookup x=some .local:=z;rcases hv with hv|hv <;> (rw [z'] at hv;cases hv)
    ·obtain ⟨c',hc'⟩:=uR (env:=X.env) (acc:=[]) hfr;have:=sub x c' hc';rw [hc] at this;cases this;exact ⟨c,hc',o,hk c o ho,hd⟩
 ·obtain ⟨v,z⟩:=I.cell x c (sub x c e);obtain ⟨o,ho,hd⟩:=z;exact ⟨v,o,hk c o ho,hd⟩
 ·show upd H2 _ _ (s2.heap.objs.size+1)=none;rw [bT (Ne.symm hne)];exact hC
 ·obtain ⟨v,o,ho,_⟩:=I.cell x c (sub x c e);show upd H2 _ _ c=none;rw [bT (Nat.ne_of_lt (hlt c o ho))];exact I.freeC x c (sub x c e)
 ·exact I.hok.laid hk (Nat.le_refl _) ⟨Nat.zero_le _,[],0,.nil,hacc⟩
 ·show (σ++List.replicate own.length none).length=(X.N.map (fP own)++own).length;rw [List.length_append,List.length_append,List.length_replicate,List.length_map,I.len]
end
section
variable {X:Cx} {scope:Scope} {own:List Str}
noncomputable def cI (X':Cx) (σ:St) (fp:List Addr) (tn:Nat->Heap->Prop) (W:Nat->Nat->List V->Hp->Prop) (n:Nat) (s:Shared):Prop:=∃i ys H',Inv X' [] σ H' s/\tn i s.heap/\(∀b∈fp,H' b=none)/\W i n ys H'
noncomputable abbrev cE (X X':Cx) (use:Option (Value->Sem Unit)) (QQ:Value->Shared->Prop) (p:Addr):Value->Shared->Prop:=notedBy (model X.prog X.w) X.A X'.env fun e s'=>compPost (model X.prog X.w) X.A X.xe use QQ (.ref p) (p+1) (.error e) s'
noncomputable def cB (X':Cx) (σ:St) (fp:List Addr) (tn:Nat->Heap->Prop) (W:Nat->Nat->List V->Hp->Prop) (n i:Nat) (h:Heap):Prop:=∀{ys':List V} {H9:Hp} {s9:Shared} {σ9:St},Ext σ σ9->Inv X' ([]++nP fp h) σ9 H9 s9->(∃n',n'<n/\W (i+1) n' ys' H9)->∃m,m<n/\cI X' σ fp tn W m s9
theorem uU {elt iter tg:Expr} {ifs:List Expr} {wi:TI} {g:TG} {tc:TT} {te:TE} {pos ps:Pos} {use:Option (Value->Sem Unit)} {QQ:Value->Shared->Prop} {pins:List (Addr×Obj)} {s:Shared} {σ:St} {H:Hp} {R:VK} (S:b_ X.N X.env.scope scope own) (hcalm:X.calm=true) (hi:PI X tg iter wi)
  (hg:∀X',cA X X' scope own->PG X' tg g) (hc:(ifs=[]/\tc=fun _ H Q=>Q true H)\/∃c,ifs=[c]/\∀X',cA X X' scope own->PT X' c tc) (he:∀X',cA X X' scope own->PE X' elt te)
  (hs:∀x,foldedSetIterable iter X.env x=pure x) (I:Inv X pins σ H s) (h:uT wi g tc te own.length σ H R)
  (last:∀{p C:Addr} {H5:Hp} {s6:Shared} {m6:Str->Option Value},Inv X pins σ H5 s6->BP X pins H5 C->s6.heap.Ns C m6->R (.ref p) H5->compPost (model X.prog X.w) X.A X.xe use QQ (.ref p) C (.ok .next) s6) :
  wpAny (model X.prog X.w) X.A (comprehension (.ListComp elt [⟨tg,iter,ifs,0⟩] scope pos) scope X.env ps (newList []) false (eval iter X.env) use) QQ X.xe s:=by
 have cells:∀y∈scope.names,y.2=.free->∃c,X.env.cells.lookup y.1=some c:=fun y hy hk=>I.ok.has y.1 (S.free y hy hk)
 refine wpAny_comprehension_free rfl hs (yS cells) S.kind S.names (thn (hi pins s σ H _ I h) fun xv s1 h1=>thn h1 fun itv s2 h2=>?_);obtain ⟨it,fp,tn,J,H2,e,I2,T,st2,f2,hW⟩:=h2;subst e;have hD:H2 s2.heap.objs.size=none:=I2.hok.fresh (Nat.le_refl _);obtain ⟨W,⟨n0,w0⟩,turn⟩:=hW _ hD;have hfx:∀b∈fp,b<s2.heap.objs.size:=fun b hb=>by
  obtain ⟨o,ho,_⟩:=T.obj 0 _ st2 b hb;exact Heap.lt_size ho
 refine wpAny_newObj_type (wpAny_newFunctionEnv S.nocell (by intro y hy;simp at hy) (fun h₁ hns₁ hsb₁=>?_) S.kind);dsimp only at hns₁ hsb₁ ⊢;have hC:(s2.heap.push {cls:=.type "list",dict:=none,data:=.seq ([]:List Value).toArray}).objs.size=s2.heap.objs.size+1:=Heap.size_push ..;have hne:s2.heap.objs.size≠s2.heap.objs.size+1:=Nat.ne_of_lt (Nat.lt_succ_self _);rw [hC] at hns₁ hsb₁ ⊢;have old:∀b o,s2.heap.get? b=some o->h₁.get? b=some o:=fun b o e=>hsb₁.extBut b o (Nat.ne_of_lt (Nat.lt_succ_of_lt (Heap.lt_size e))) (Heap.get?_push_of_some _ (Heap.get?_push_of_some _ e))
 have hacc:h₁.get? s2.heap.objs.size=some {cls:=.type "list",data:=.seq #[]}:=hsb₁.extBut _ _ hne (Heap.get?_push_of_some _ (Heap.get?_push_size _ rfl));have I4:=Inv.comp (t1:=s2.toks+([]:List (Str×Value)).length) I2 S f2 hfx hns₁ old hacc;generalize hX':v8 X scope (clF X.env scope.names []) (s2.heap.objs.size+1) own s2 H2 fp=X' at I4;have cc:cA X X' scope own:=by rw [<-hX'];exact FN
 have eenv:X'.env=compEnvC scope (clF X.env scope.names []) (s2.heap.objs.size+1) X.env:=by rw [<-hX'];rfl
 have eA:X'.A=X.A:=cc.A;have ep:X'.prog=X.prog:=cc.prog;have ew:X'.w=X.w:=cc.w;have efs:X'.fs=frs X.stack:=by rw [<-hX'];rfl
 have eex:X'.ex=fp:=by rw [<-hX'];rfl
 have es0:X'.s₀=s2:=by rw [<-hX'];rfl
 have eH0:X'.H₀=H2:=by rw [<-hX'];rfl
 have epn:X'.pn=[]:=by rw [<-hX'];rfl
 have eK:X'.K=X.K:=cc.K;have exe:=cc.xe;have ecalm:X'.calm=true:=cc.calm.trans hcalm
 -- the iterator's records within the block
 have fpok:∀{H':Hp},(∀b∈fp,H' b=none)->∀b∈fp,BP X' [] H' b:=fun {H'} hn b hb=>by
  obtain ⟨_,f1,f3,_,f5,_⟩:=f2 b hb;refine ⟨hn b hb,?_,?_,.inl (by rw [eex];exact hb),fun x c e=>?_,fun p hp=>by rw [epn] at hp;simp at hp⟩
  ·rw [eenv];exact Nat.ne_of_lt (Nat.lt_succ_of_lt (hfx b hb))
  ·rw [efs];intro z;rcases List.mem_cons.mp (I2.vP b z) with z|z
   ·exact f1 z
   ·exact f3 z
  ·rw [eenv] at e;exact f5 x c (uQ cells (fun _ _ h=>by simp at h) e)
 have st4:tn 0 h₁:=T.keep _ _ _ st2 fun b _ o e=>old b o e
 have fr4:∀b∈fp,(upd H2 s2.heap.objs.size (.lst [])) b=none:=fun b hb=>by rw [bT (Nat.ne_of_lt (hfx b hb))];exact (f2 b hb).1
 have loop:∀s4:Shared,s4={s2 with heap:=h₁,toks:=s2.toks+([]:List (Str×Value)).length}->
   codeAny (model X.prog X.w) X.A (.compLoop (.ListComp elt [⟨tg,iter,ifs,0⟩] scope pos) 0 (.ref it) (.ref s2.heap.objs.size) X'.env)
    (compPost (model X.prog X.w) X.A X.xe use QQ (.ref s2.heap.objs.size) (s2.heap.objs.size+1)) s4:=by
  rintro s4 rfl;have put:∀(n i:Nat) (ys:List V) (s7:Shared) (σ8:St) (H8:Hp) (s8:Shared),cB X' (σ++List.replicate own.length none) fp tn W n i s7.heap->Inv X' ([]++nP fp s7.heap) σ8 H8 s8->Ext (σ++List.replicate own.length none) σ8->ys.length<sizeLine->(te σ8 H8 fun y H5=>H5 s2.heap.objs.size=some (.lst ys)/\∃n',n'<n/\W (i+1) n' (ys++[y]) (upd H5 s2.heap.objs.size (.lst (ys++[y]))))->
    wpAny (model X.prog X.w) X.A (eval elt X'.env) (fun x s₄=>wpAny (model X.prog X.w) X.A (call (.builtin "list.append") [.ref s2.heap.objs.size,x]) (fun _ s₅=>∃m,m<n/\cI X' (σ++List.replicate own.length none) fp tn W m s₅) (cE X X' use QQ s2.heap.objs.size) s₄) (cE X X' use QQ s2.heap.objs.size) s8:=by
   intro n i ys s7 σ8 H8 s8 back I8 ext8 hlen q8;have he':=he X' cc _ s8 _ H8 _ I8 q8;rw [ep,ew,eA,exe] at he';refine wpAny_mono he' (fun yv s10 ⟨y,H10,I10,r10,p10,q10⟩=>?_) fun _ _ z=>False.elim z
   have hm:=rB (X:=X') _ s10 σ8 H10 (.ref s2.heap.objs.size) [y] (.ref s2.heap.objs.size) [yv] (fun _ H11=>∃n',n'<n/\W (i+1) n' (ys++[y]) H11) I10 rfl (.cons r10 .nil) ⟨s2.heap.objs.size,ys,y,rfl,rfl,p10,hlen,q10⟩;rw [ep,ew,eA,exe] at hm;exact wpAny_mono hm (fun _ s11 ⟨_,H11,I11,_,q11⟩=>back ext8 I11 q11) fun _ _ z=>False.elim z
  have key:∀(PO:Nat->Shared->Prop),(∀(n i:Nat) (ys:List V) (s7:Shared) (σ8:St) (H8:Hp) (s8:Shared),cB X' (σ++List.replicate own.length none) fp tn W n i s7.heap->Inv X' ([]++nP fp s7.heap) σ8 H8 s8->Ext (σ++List.replicate own.length none) σ8->ys.length<sizeLine->(tc σ8 H8 fun b H4=>if b=true then te σ8 H4 fun y H5=>H5 s2.heap.objs.size=some (.lst ys)/\∃n',n'<n/\W (i+1) n' (ys++[y]) (upd H5 s2.heap.objs.size (.lst (ys++[y]))) else ∃n',n'<n/\W (i+1) n' ys H4)->PO n s8)->
    ∀n s5,(cI X' (σ++List.replicate own.length none) fp tn W n s5)->wpAny (model X.prog X.w) X.A (pyNext (.ref it)) (fun r s₁=>match r with
     | none=>compPost (model X.prog X.w) X.A X.xe use QQ (.ref s2.heap.objs.size) (s2.heap.objs.size+1) (.ok .next) s₁
     | some v=>wpAny (model X.prog X.w) X.A (letOwnedTupleGo tg (.ref it) v) (fun _ s₀=>wpAny (model X.prog X.w) X.A (assign tg X'.env v) (fun _ s₂=>PO n s₂) (cE X X' use QQ s2.heap.objs.size) s₀) (cE X X' use QQ s2.heap.objs.size) s₁) (cE X X' use QQ s2.heap.objs.size) s5:=by
   intro PO hPO;rintro n s5 ⟨i,ys,H5,I5,st5,fr5,w5⟩;obtain ⟨hacc5,tr⟩:=turn i n ys H5 w5;rcases tr with ⟨stop,q⟩|⟨go,hlen,step⟩
   ·have done:=T.done X' ep ew eK ecalm i [] s5 _ H5 (cE X X' use QQ s2.heap.objs.size) I5 (fpok fr5) st5 stop;rw [eA] at done;refine thn done fun r s6 ⟨hr,I6⟩=>?_
    subst hr;obtain ⟨m6,hn6,_⟩:=id I6.loc;rw [eenv] at hn6;have u6:Un (frs X.stack) fp H2 H5 s2.heap s6.heap:=by
     have:=I6.base;rw [efs,eex,eH0,es0] at this;exact this
    have hCn:H5 (s2.heap.objs.size+1)=none:=by
     have:=I6.free;rw [eenv] at this;exact this
    have hok6:HOk X.prog X.w H5 s6.heap:=by
     have:=I6.hok;rw [ep,ew] at this;exact this
    have hos:s6.os=s2.os:=by have:=I6.os;rw [es0] at this;exact this
    obtain ⟨hh,gg,dd,tt,oo⟩:=s6;obtain rfl:oo=s2.os:=hos;have fin:=Inv.call (h':=hh) (g':=gg) (d':=dd) (t':=tt) (ch:=fp) I2 u6 hok6 I6.bare fun b hb=>⟨(f2 b hb).2.2.2.1,(f2 b hb).2.1,(f2 b hb).2.2.2.2.1,(f2 b hb).2.2.2.2.2⟩
    refine last fin ⟨hCn,Nat.ne_of_gt (Nat.lt_succ_of_lt I2.lt),I2.aBq (Nat.le_succ _),.inr (Nat.le_trans I2.sz (Nat.le_succ _)),fun x c e z=>?_,fun p hp z=>?_⟩ hn6 q
    ·obtain ⟨v,qq⟩:=I2.cell x c e;exact absurd (Nat.lt_succ_of_lt qq.lt) (by rw [z];exact Nat.lt_irrefl _)
    ·exact absurd (Nat.lt_succ_of_lt (Heap.lt_size (I2.pin p hp).1)) (by rw [z];exact Nat.lt_irrefl _)
   ·have item:=T.item X' ep ew eK ecalm i [] s5 _ H5 (cE X X' use QQ s2.heap.objs.size) I5 (fpok fr5) st5 go;rw [eA] at item;refine thn item fun r s6 ⟨u,hr,h6⟩=>?_
    subst hr;refine thn h6 fun _ s7 ⟨x,H7,I7,r7,y7,st7,fr7⟩=>?_
    have I7':=I7.pinned (fpok fr7) (T.obj _ _ st7);have hg':=hg X' cc _ s7 _ H7 x u _ I7' r7 (step x H7 y7);rw [ep,ew,eA,exe] at hg';refine wpAny_mono hg' (fun _ s8 ⟨σ8,H8,I8,ext8,q8⟩=>?_) fun _ _ z=>False.elim z
    have back:cB X' (σ++List.replicate own.length none) fp tn W n i s7.heap:=by
     rintro ys' H9 s9 σ9 ex9 I9 ⟨n',hn',w9⟩;refine ⟨n',hn',i+1,ys',H9,(I9.weak ex9.1.symm ex9.2).kJ,T.keep _ _ _ st7 fun b hb o e=>(I9.pin (b,o) (List.mem_append_right _ (List.mem_append_right _ (jP hb e)))).1,fun b hb=>?_,w9⟩;obtain ⟨o,e,d⟩:=T.obj _ _ st7 b hb;exact (I9.pin (b,o) (List.mem_append_right _ (List.mem_append_right _ (jP hb e)))).2.1
    exact hPO n i ys s7 σ8 H8 s8 back I8 ext8 hlen q8
  rcases hc with ⟨rfl,rfl⟩|⟨c,rfl,hc⟩
  ·refine PySem.W.kcp_loop _ (key _ fun n i ys s7 σ8 H8 s8 back I8 ext8 hlen q8=>?_) n0 ⟨0,[],_,I4,st4,fr4,w0⟩;simp only [if_true] at q8;exact put n i ys s7 σ8 H8 s8 back I8 ext8 hlen q8
  ·refine PySem.W.kct_loop _ (key _ fun n i ys s7 σ8 H8 s8 back I8 ext8 hlen q8=>?_) n0 ⟨0,[],_,I4,st4,fr4,w0⟩;have hc':=hc X' cc _ s8 _ H8 _ I8 q8;rw [ep,ew,eA,exe] at hc';refine wpAny_mono hc' (fun b s9 ⟨H9,I9,q9⟩=>?_) fun _ _ z=>False.elim z
   cases b with
   | false=>
    simp only [Bool.false_eq_true,if_false] at q9 ⊢;exact back ext8 I9 q9
   | true=>
    simp only [if_true] at q9 ⊢;exact put n i ys s7 σ8 H9 s9 back I9 ext8 hlen q9
 have l4:=loop _ rfl;rw [eenv] at l4;exact codeAny_compStart_list l4 (T.self X.A 0 _ _ _ st4 l4)
theorem v9 {pins:List (Addr×Obj)} {σ:St} {Q:VK} {p C:Addr} {H5:Hp} {s6:Shared} {m6:Str->Option Value} (f:Inv X pins σ H5 s6) (k:BP X pins H5 C) (n:s6.heap.Ns C m6) (q:Q (.ref p) H5):compPost (model X.prog X.w) X.A X.xe none (EP X pins σ Q) (.ref p) C (.ok .next) s6:=
 ⟨m6,n,fun h' sb=>⟨.ref p,H5,Inv.turned (t':=s6.toks) f (fun b o hb e=>sb.extBut b o hb e) k.1 k.2.1 k.2.2.2.1 k.2.2.2.2.1 k.2.2.2.2.2,rfl,q⟩⟩
theorem FP {elt iter tg c:Expr} {wi:TI} {g:TG} {tc:TT} {te:TE} {pos:Pos} (S:b_ X.N X.env.scope scope own) (hcalm:X.calm=true) (hi:PI X tg iter wi)
  (hg:∀X',cA X X' scope own->PG X' tg g) (hc:∀X',cA X X' scope own->PT X' c tc) (he:∀X',cA X X' scope own->PE X' elt te)
  (hs:∀x,foldedSetIterable iter X.env x=pure x):PE X (.ListComp elt [⟨tg,iter,[c],0⟩] scope pos) (uT wi g tc te own.length):=by
 intro pins s σ H Q I h;rw [eval_ListComp];exact uU S hcalm hi hg (.inr ⟨c,rfl,hc⟩) he hs I h v9
theorem MJ {elt iter tg:Expr} {wi:TI} {g:TG} {te:TE} {pos:Pos} (S:b_ X.N X.env.scope scope own) (hcalm:X.calm=true) (hi:PI X tg iter wi)
  (hg:∀X',cA X X' scope own->PG X' tg g) (he:∀X',cA X X' scope own->PE X' elt te)
  (hs:∀x,foldedSetIterable iter X.env x=pure x):PE X (.ListComp elt [⟨tg,iter,[],0⟩] scope pos) (uT wi g (fun _ H Q=>Q true H) te own.length):=by
 intro pins s σ H Q I h;rw [eval_ListComp];exact uU S hcalm hi hg (.inl ⟨rfl,rfl⟩) he hs I h v9
end
end L2
end
section
namespace Mi
open PySem L2 PySem.SeqAt
variable [KFrag]
theorem gK {X:Cx} {pins:List (Addr×Obj)} {σ:St} {H:Hp} {s:Shared} {a:Addr} {xs:List V} (I:Inv X pins σ H s) (e:H a=some (.tup xs)):∃its:List Value,Vals xs its/\s.heap.IsTuple a its.toArray:=by
 obtain ⟨_,its,r,p⟩:xs.length<=sizeLine/\∃its:List Value,Vals xs its/\g_ s.heap a its.toArray:=I.hok a _ e;exact ⟨its,r,p.tup⟩
theorem iU {X:Cx} {pins:List (Addr×Obj)} {σ:St} {H:Hp} {s:Shared} {a:Addr} {xs:List V} (I:Inv X pins σ H s) (e:SqL X.K H a xs):∃its:List Value,Vals xs its/\s.heap.IsList a its.toArray:=by
 obtain ⟨its,r,p,_⟩:=I.list e;exact ⟨its,r,p.isList⟩
theorem Rep.fH {P:Addr->Prop} {H:Hp} {K:PySem.W.Frag} {v:V} {ds:List D} (r:Rep P H v (.lst ds)):∃a xs,v=.ref a/\SqL K H a xs/\bH P H xs ds:=by
 cases r with
 | lst e p r=>exact ⟨_,_,rfl,.inl (.inl e),r⟩
theorem Rep.eV {P:Addr->Prop} {H:Hp} {v:V} {ds:List D} (r:Rep P H v (.tup ds)):∃a xs,v=.ref a/\H a=some (.tup xs)/\bH P H xs ds:=by
 cases r with
 | tup e r=>exact ⟨_,_,rfl,e,r⟩
mutual
theorem pU:∀(n:Nat) (d:D),d.bK n=true->eqD d d=true
 | _,.non,_=>rfl
 | _,.bl b,_=>by simp [eqD]
 | _,.int i,_=>by simp [eqD]
 | _,.str x,_=>by simp [eqD]
 | n+1,.tup xs,h=>by rw [D.bK] at h;rw [eqD];exact n8 n xs h
 | n+1,.lst xs,h=>by rw [D.bK] at h;rw [eqD];exact n8 n xs h
 | 0,.tup xs,h=>by simp [D.bK] at h
 | 0,.lst xs,h=>by simp [D.bK] at h
 | n,.dct _,h=>by cases n <;> simp [D.bK] at h
 | n,.uD,h=>by cases n <;> simp [D.bK] at h
 | n,.scr _,h=>by cases n <;> simp [D.bK] at h
 | n,.fdc _,h=>by cases n <;> simp [D.bK] at h
 | n,.cel _ _,h=>by cases n <;> simp [D.bK] at h
theorem n8:∀(n:Nat) (ds:List D),D.bY n ds=true->oY ds ds=true
 | _,[],_=>rfl
 | n,d::ds,h=>by
  rw [D.bY,Bool.and_eq_true] at h;rw [oY,pU n d h.1,n8 n ds h.2];rfl
end
mutual
theorem Rep.inj {P P':Addr->Prop} {H:Hp}:∀(n:Nat) {v:V} {d e:D},d.bK n=true->e.bK n=true->Rep P H v d->Rep P' H v e->d=e
 | _,_,_,_,_,_,.non,.non=>rfl
 | _,_,_,_,_,_,.bl _,.bl _=>rfl
 | _,_,_,_,_,_,.int _,.int _=>rfl
 | _,_,_,_,_,_,.str _,.str _=>rfl
 | n+1,_,.tup ds,_,h,h',.tup e1 r1,q=>by
  cases q with
  | tup e2 r2=>
   rw [e1] at e2;cases e2;rw [D.bK] at h h';rw [bH.inj n h h' r1 r2]
  | lst e2 _ _=>rw [e1] at e2;cases e2
  | frz e2 _=>simp [D.bK] at h'
  | fdK e2 _ _=>simp [D.bK] at h'
  | cel e2 _ _=>simp [D.bK] at h'
  | fdT e2 _ _=>simp [D.bK] at h'
  | dK e2 _ _ _=>rw [e1] at e2;cases e2
  | dT e2 _ _ _=>rw [e1] at e2;cases e2
 | n+1,_,.lst ds,_,h,h',.lst e1 p r1,q=>by
  cases q with
  | tup e2 r2=>rw [e1] at e2;cases e2
  | lst e2 _ r2=>
   rw [e1] at e2;cases e2;rw [D.bK] at h h';rw [bH.inj n h h' r1 r2]
  | frz e2 _=>simp [D.bK] at h'
  | fdK e2 _ _=>simp [D.bK] at h'
  | cel e2 _ _=>simp [D.bK] at h'
  | fdT e2 _ _=>simp [D.bK] at h'
  | dK e2 _ _ _=>rw [e1] at e2;cases e2
  | dT e2 _ _ _=>rw [e1] at e2;cases e2
 | 0,_,.tup ds,_,h,_,_,_=>by simp [D.bK] at h
 | 0,_,.lst ds,_,h,_,_,_=>by simp [D.bK] at h
 | n,_,.dct _,_,h,_,_,_=>by cases n <;> simp [D.bK] at h
 | n,_,.scr _,_,h,_,_,_=>by cases n <;> simp [D.bK] at h
 | n,_,.fdc _,_,h,_,_,_=>by cases n <;> simp [D.bK] at h
 | n,_,.cel _ _,_,h,_,_,_=>by cases n <;> simp [D.bK] at h
theorem bH.inj {P P':Addr->Prop} {H:Hp}:∀(n:Nat) {v:List V} {d e:List D},D.bY n d=true->D.bY n e=true->bH P H v d->bH P' H v e->d=e
 | _,_,_,_,_,_,.nil,.nil=>rfl
 | n,_,_,_,h,h',.cons r t,.cons r' t'=>by
  rw [D.bY,Bool.and_eq_true] at h h';rw [Rep.inj n h.1 h'.1 r r',bH.inj n h.2 h'.2 t t']
end
theorem lZ:∀(xs ys:List D),oY xs ys=((List.range (min xs.length ys.length)).all (fun j=>eqD (xs.getD j .non) (ys.getD j .non))&&xs.length==ys.length)
 | [],[]=>by simp [oY]
 | [],y::ys=>by simp [oY]
 | x::xs,[]=>by simp [oY]
 | x::xs,y::ys=>by
  have e:min (x::xs).length (y::ys).length=min xs.length ys.length+1:=by simp only [List.length_cons];lia
  rw [oY,lZ xs ys,e,List.range_succ_eq_map,List.all_cons,List.all_map,Bool.and_assoc]
  congr 1
  simp [Function.comp_def]
theorem fJ {n:Nat}:∀{ds:List D} {j:Nat},D.bY n ds=true->j<ds.length->(ds.getD j .non).bK n=true
 | [],j,_,h=>by simp at h
 | d::ds,0,h,_=>by rw [D.bY,Bool.and_eq_true] at h;exact h.1
 | d::ds,j+1,h,hj=>by
  rw [D.bY,Bool.and_eq_true] at h;simpa using fJ (ds:=ds) (j:=j) h.2 (by simpa using hj)
theorem bH.getD {P:Addr->Prop} {H:Hp} {vs:List V} {ds:List D} {j:Nat} (r:bH P H vs ds) (hj:j<ds.length):∃v,vs[j]?=some v/\Rep P H v (ds.getD j .non):=by
 obtain ⟨v,h1,h2⟩:=r.get (i:=j) (d:=ds.getD j .non) (by simp [hj]);exact ⟨v,h1,h2⟩
section
variable {X:Cx} {pins:List (Addr×Obj)} {σ:St} {H:Hp} {s:Shared}
theorem v_ (I:Inv X pins σ H s):∀(n:Nat) (A:Around) {x y:V} {a b:D} {u v:Value},A.units+n<cLine->a.bK n=true->b.bK n=true->Rep All H x a->Rep All H y b->RelV x u->RelV y v->
  RcAt A s u v (eqD a b)/\RcNeAt A s u v (!eqD a b)/\EqAt A s u v (eqD a b):=by
 intro n;induction n with
 | zero=>
  intro A x y a b u v hu ha hb rx ry ru rv;cases rx with
  | non=>
   cases ru;cases ry with
   | non=>cases rv;exact ⟨RcAt.none_none,RcNeAt.none_none,EqAt.same _⟩
   | bl _=>cases rv;exact ⟨RcAt.none_bool _,RcNeAt.none_bool _,EqAt.none_bool _⟩
   | int _=>obtain ⟨t,rfl⟩:=rv;exact ⟨RcAt.none_int _ _,RcNeAt.none_int _ _,EqAt.none_int _ _⟩
   | str _=>obtain ⟨t,rfl⟩:=rv;exact ⟨RcAt.none_str _ _,RcNeAt.none_str _ _,EqAt.none_str _ _⟩
   | _=>simp [D.bK] at hb
  | bl _=>
   cases ru;cases ry with
   | non=>cases rv;exact ⟨RcAt.bool_none _,RcNeAt.bool_none _,EqAt.bool_none _⟩
   | bl _=>cases rv;exact ⟨RcAt.bool_bool _ _,RcNeAt.bool_bool _ _,EqAt.bool_bool _ _⟩
   | int _=>obtain ⟨t,rfl⟩:=rv;exact ⟨RcAt.bool_int _ _ _,RcNeAt.bool_int _ _ _,EqAt.bool_int _ _ _⟩
   | str _=>obtain ⟨t,rfl⟩:=rv;exact ⟨RcAt.bool_str _ _ _,RcNeAt.bool_str _ _ _,EqAt.bool_str _ _ _⟩
   | _=>simp [D.bK] at hb
  | int _=>
   obtain ⟨t,rfl⟩:=ru;cases ry with
   | non=>cases rv;exact ⟨RcAt.int_none _ _,RcNeAt.int_none _ _,EqAt.int_none _ _⟩
   | bl _=>cases rv;exact ⟨RcAt.int_bool _ _ _,RcNeAt.int_bool _ _ _,EqAt.int_bool _ _ _⟩
   | int _=>obtain ⟨t',rfl⟩:=rv;exact ⟨RcAt.int_int _ _ _ _,RcNeAt.int_int _ _ _ _,EqAt.int_int _ _ _ _⟩
   | str _=>obtain ⟨t',rfl⟩:=rv;exact ⟨RcAt.int_str _ _ _ _,RcNeAt.int_str _ _ _ _,EqAt.int_str _ _ _ _⟩
   | _=>simp [D.bK] at hb
  | str _=>
   obtain ⟨t,rfl⟩:=ru;cases ry with
   | non=>cases rv;exact ⟨RcAt.str_none _ _,RcNeAt.str_none _ _,EqAt.str_none _ _⟩
   | bl _=>cases rv;exact ⟨RcAt.str_bool _ _ _,RcNeAt.str_bool _ _ _,EqAt.str_bool _ _ _⟩
   | int _=>obtain ⟨t',rfl⟩:=rv;exact ⟨RcAt.str_int _ _ _ _,RcNeAt.str_int _ _ _ _,EqAt.str_int _ _ _ _⟩
   | str _=>obtain ⟨t',rfl⟩:=rv;exact ⟨RcAt.str_str _ _ _ _,RcNeAt.str_str _ _ _ _,EqAt.str_str _ _ _ _⟩
   | _=>simp [D.bK] at hb
  | _=>simp [D.bK] at ha
 | succ n ih=>
  intro A x y a b u v hu ha hb rx ry ru rv;have hu0:A.units<cLine:=by lia
  have hu1:A.in1.units+n<cLine:=by show A.units+1+n<cLine;lia
  cases a with
  | uD=>exact absurd rx Rep.uD
  | dct _=>simp [D.bK] at ha
  | scr _=>simp [D.bK] at ha
  | fdc _=>simp [D.bK] at ha
  | cel _ _=>simp [D.bK] at ha
  | non=>
   cases rx;cases ru;cases b with
   | uD=>exact absurd ry Rep.uD
   | dct _=>simp [D.bK] at hb
   | scr _=>simp [D.bK] at hb
   | fdc _=>simp [D.bK] at hb
   | cel _ _=>simp [D.bK] at hb
   | non=>cases ry;cases rv;exact ⟨RcAt.none_none,RcNeAt.none_none,EqAt.same _⟩
   | bl _=>cases ry;cases rv;exact ⟨RcAt.none_bool _,RcNeAt.none_bool _,EqAt.none_bool _⟩
   | int _=>cases ry;obtain ⟨t2,rfl⟩:=rv;exact ⟨RcAt.none_int _ _,RcNeAt.none_int _ _,EqAt.none_int _ _⟩
   | str _=>cases ry;obtain ⟨t2,rfl⟩:=rv;exact ⟨RcAt.none_str _ _,RcNeAt.none_str _ _,EqAt.none_str _ _⟩
   | tup es=>
    obtain ⟨q,ys,rfl,e2,r2⟩:=ry.eV;cases rv;obtain ⟨its2,vr2,h2⟩:=gK I e2;exact ⟨RcAt.none_tuple h2 hu0,RcNeAt.none_tuple h2 hu0,EqAt.none_tuple h2 hu0⟩
   | lst es=>
    obtain ⟨q,ys,rfl,e2,r2⟩:=ry.fH (K:=X.K);cases rv;obtain ⟨its2,vr2,h2⟩:=iU I e2;exact ⟨RcAt.none_list h2 hu0,RcNeAt.none_list h2 hu0,EqAt.none_list h2 hu0⟩
  | bl _=>
   cases rx;cases ru;cases b with
   | uD=>exact absurd ry Rep.uD
   | dct _=>simp [D.bK] at hb
   | scr _=>simp [D.bK] at hb
   | fdc _=>simp [D.bK] at hb
   | cel _ _=>simp [D.bK] at hb
   | non=>cases ry;cases rv;exact ⟨RcAt.bool_none _,RcNeAt.bool_none _,EqAt.bool_none _⟩
   | bl _=>cases ry;cases rv;exact ⟨RcAt.bool_bool _ _,RcNeAt.bool_bool _ _,EqAt.bool_bool _ _⟩
   | int _=>cases ry;obtain ⟨t2,rfl⟩:=rv;exact ⟨RcAt.bool_int _ _ _,RcNeAt.bool_int _ _ _,EqAt.bool_int _ _ _⟩
   | str _=>cases ry;obtain ⟨t2,rfl⟩:=rv;exact ⟨RcAt.bool_str _ _ _,RcNeAt.bool_str _ _ _,EqAt.bool_str _ _ _⟩
   | tup es=>
    obtain ⟨q,ys,rfl,e2,r2⟩:=ry.eV;cases rv;obtain ⟨its2,vr2,h2⟩:=gK I e2;exact ⟨RcAt.bool_tuple _ h2 hu0,RcNeAt.bool_tuple _ h2 hu0,EqAt.bool_tuple _ h2 hu0⟩
   | lst es=>
    obtain ⟨q,ys,rfl,e2,r2⟩:=ry.fH (K:=X.K);cases rv;obtain ⟨its2,vr2,h2⟩:=iU I e2;exact ⟨RcAt.bool_list _ h2 hu0,RcNeAt.bool_list _ h2 hu0,EqAt.bool_list _ h2 hu0⟩
  | int _=>
   cases rx;obtain ⟨t1,rfl⟩:=ru;cases b with
   | uD=>exact absurd ry Rep.uD
   | dct _=>simp [D.bK] at hb
   | scr _=>simp [D.bK] at hb
   | fdc _=>simp [D.bK] at hb
   | cel _ _=>simp [D.bK] at hb
   | non=>cases ry;cases rv;exact ⟨RcAt.int_none _ _,RcNeAt.int_none _ _,EqAt.int_none _ _⟩
   | bl _=>cases ry;cases rv;exact ⟨RcAt.int_bool _ _ _,RcNeAt.int_bool _ _ _,EqAt.int_bool _ _ _⟩
   | int _=>cases ry;obtain ⟨t2,rfl⟩:=rv;exact ⟨RcAt.int_int _ _ _ _,RcNeAt.int_int _ _ _ _,EqAt.int_int _ _ _ _⟩
   | str _=>cases ry;obtain ⟨t2,rfl⟩:=rv;exact ⟨RcAt.int_str _ _ _ _,RcNeAt.int_str _ _ _ _,EqAt.int_str _ _ _ _⟩
   | tup es=>
    obtain ⟨q,ys,rfl,e2,r2⟩:=ry.eV;cases rv;obtain ⟨its2,vr2,h2⟩:=gK I e2;exact ⟨RcAt.int_tuple _ _ h2 hu0,RcNeAt.int_tuple _ _ h2 hu0,EqAt.int_tuple _ _ h2 hu0⟩
   | lst es=>
    obtain ⟨q,ys,rfl,e2,r2⟩:=ry.fH (K:=X.K);cases rv;obtain ⟨its2,vr2,h2⟩:=iU I e2;exact ⟨RcAt.int_list _ _ h2 hu0,RcNeAt.int_list _ _ h2 hu0,EqAt.int_list _ _ h2 hu0⟩
  | str _=>
   cases rx;obtain ⟨t1,rfl⟩:=ru;cases b with
   | uD=>exact absurd ry Rep.uD
   | dct _=>simp [D.bK] at hb
   | scr _=>simp [D.bK] at hb
   | fdc _=>simp [D.bK] at hb
   | cel _ _=>simp [D.bK] at hb
   | non=>cases ry;cases rv;exact ⟨RcAt.str_none _ _,RcNeAt.str_none _ _,EqAt.str_none _ _⟩
   | bl _=>cases ry;cases rv;exact ⟨RcAt.str_bool _ _ _,RcNeAt.str_bool _ _ _,EqAt.str_bool _ _ _⟩
   | int _=>cases ry;obtain ⟨t2,rfl⟩:=rv;exact ⟨RcAt.str_int _ _ _ _,RcNeAt.str_int _ _ _ _,EqAt.str_int _ _ _ _⟩
   | str _=>cases ry;obtain ⟨t2,rfl⟩:=rv;exact ⟨RcAt.str_str _ _ _ _,RcNeAt.str_str _ _ _ _,EqAt.str_str _ _ _ _⟩
   | tup es=>
    obtain ⟨q,ys,rfl,e2,r2⟩:=ry.eV;cases rv;obtain ⟨its2,vr2,h2⟩:=gK I e2;exact ⟨RcAt.str_tuple _ _ h2 hu0,RcNeAt.str_tuple _ _ h2 hu0,EqAt.str_tuple _ _ h2 hu0⟩
   | lst es=>
    obtain ⟨q,ys,rfl,e2,r2⟩:=ry.fH (K:=X.K);cases rv;obtain ⟨its2,vr2,h2⟩:=iU I e2;exact ⟨RcAt.str_list _ _ h2 hu0,RcNeAt.str_list _ _ h2 hu0,EqAt.str_list _ _ h2 hu0⟩
  | tup ds=>
   obtain ⟨p,xs,rfl,e1,r1⟩:=rx.eV;cases ru;obtain ⟨its1,vr1,h1⟩:=gK I e1;rw [D.bK] at ha;cases b with
   | uD=>exact absurd ry Rep.uD
   | dct _=>simp [D.bK] at hb
   | scr _=>simp [D.bK] at hb
   | fdc _=>simp [D.bK] at hb
   | cel _ _=>simp [D.bK] at hb
   | non=>cases ry;cases rv;exact ⟨RcAt.tuple_none h1 hu0,RcNeAt.tuple_none h1 hu0,EqAt.tuple_none h1 hu0⟩
   | bl _=>cases ry;cases rv;exact ⟨RcAt.tuple_bool _ h1 hu0,RcNeAt.tuple_bool _ h1 hu0,EqAt.tuple_bool _ h1 hu0⟩
   | int _=>cases ry;obtain ⟨t2,rfl⟩:=rv;exact ⟨RcAt.tuple_int _ _ h1 hu0,RcNeAt.tuple_int _ _ h1 hu0,EqAt.tuple_int _ _ h1 hu0⟩
   | str _=>cases ry;obtain ⟨t2,rfl⟩:=rv;exact ⟨RcAt.tuple_str _ _ h1 hu0,RcNeAt.tuple_str _ _ h1 hu0,EqAt.tuple_str _ _ h1 hu0⟩
   | tup es=>
    obtain ⟨q,ys,rfl,e2,r2⟩:=ry.eV;cases rv;obtain ⟨its2,vr2,h2⟩:=gK I e2;rw [D.bK] at hb;have z1:its1.toArray.size=ds.length:=by rw [List.size_toArray,<-vr1.length,r1.length]
    have z2:its2.toArray.size=es.length:=by rw [List.size_toArray,<-vr2.length,r2.length]
    have he:∀j (g1:j<its1.toArray.size) (g2:j<its2.toArray.size),EqAt A.in1 s its1.toArray[j] its2.toArray[j] (eqD (ds.getD j .non) (es.getD j .non)):=fun j g1 g2=>by
     obtain ⟨v1,w1,rr1⟩:=r1.getD (j:=j) (by lia);obtain ⟨v2,w2,rr2⟩:=r2.getD (j:=j) (by lia);obtain ⟨u1,k1,l1⟩:=vr1.get w1;obtain ⟨u2,k2,l2⟩:=vr2.get w2;have m1:its1.toArray[j]=u1:=by
      rw [List.getElem?_eq_getElem (by simpa using g1)] at k1;simpa using Option.some.inj k1
     have m2:its2.toArray[j]=u2:=by
      rw [List.getElem?_eq_getElem (by simpa using g2)] at k2;simpa using Option.some.inj k2
     rw [m1,m2];exact (ih A.in1 hu1 (fJ ha (by lia)) (fJ hb (by lia)) rr1 rr2 l1 l2).2.2
    have ee:eqD (.tup ds) (.tup es)=((List.range (min its1.toArray.size its2.toArray.size)).all (fun j=>eqD (ds.getD j .non) (es.getD j .non))&&its1.toArray.size==its2.toArray.size):=by
     rw [eqD,lZ,z1,z2]
    have r0:=RcAt.tuples h1 h2 hu0 he;have r0':=RcNeAt.tuples h1 h2 hu0 he;rw [<-ee] at r0 r0';refine ⟨r0,r0',?_⟩;by_cases hpq:p=q
    ·subst hpq;have hab:(D.tup ds)=(.tup es):=Rep.inj (n+1) (by rw [D.bK];exact ha) (by rw [D.bK];exact hb) rx ry;rw [<-hab,pU (n+1) _ (by rw [D.bK];exact ha)];exact EqAt.same _
    ·exact EqAt.of_refs hpq r0
   | lst es=>
    obtain ⟨q,ys,rfl,e2,r2⟩:=ry.fH (K:=X.K);cases rv;obtain ⟨its2,vr2,h2⟩:=iU I e2;exact ⟨RcAt.tuple_list h1 h2 hu0,RcNeAt.tuple_list h1 h2 hu0,EqAt.tuple_list h1 h2 hu0⟩
  | lst ds=>
   obtain ⟨p,xs,rfl,e1,r1⟩:=rx.fH (K:=X.K);cases ru;obtain ⟨its1,vr1,h1⟩:=iU I e1;rw [D.bK] at ha;cases b with
   | uD=>exact absurd ry Rep.uD
   | dct _=>simp [D.bK] at hb
   | scr _=>simp [D.bK] at hb
   | fdc _=>simp [D.bK] at hb
   | cel _ _=>simp [D.bK] at hb
   | non=>cases ry;cases rv;exact ⟨RcAt.list_none h1 hu0,RcNeAt.list_none h1 hu0,EqAt.list_none h1 hu0⟩
   | bl _=>cases ry;cases rv;exact ⟨RcAt.list_bool _ h1 hu0,RcNeAt.list_bool _ h1 hu0,EqAt.list_bool _ h1 hu0⟩
   | int _=>cases ry;obtain ⟨t2,rfl⟩:=rv;exact ⟨RcAt.list_int _ _ h1 hu0,RcNeAt.list_int _ _ h1 hu0,EqAt.list_int _ _ h1 hu0⟩
   | str _=>cases ry;obtain ⟨t2,rfl⟩:=rv;exact ⟨RcAt.list_str _ _ h1 hu0,RcNeAt.list_str _ _ h1 hu0,EqAt.list_str _ _ h1 hu0⟩
   | tup es=>
    obtain ⟨q,ys,rfl,e2,r2⟩:=ry.eV;cases rv;obtain ⟨its2,vr2,h2⟩:=gK I e2;exact ⟨RcAt.list_tuple h1 h2 hu0,RcNeAt.list_tuple h1 h2 hu0,EqAt.list_tuple h1 h2 hu0⟩
   | lst es=>
    obtain ⟨q,ys,rfl,e2,r2⟩:=ry.fH (K:=X.K);cases rv;obtain ⟨its2,vr2,h2⟩:=iU I e2;rw [D.bK] at hb;have z1:its1.toArray.size=ds.length:=by rw [List.size_toArray,<-vr1.length,r1.length]
    have z2:its2.toArray.size=es.length:=by rw [List.size_toArray,<-vr2.length,r2.length]
    have he:∀j (g1:j<its1.toArray.size) (g2:j<its2.toArray.size),EqAt A.in1 s its1.toArray[j] its2.toArray[j] (eqD (ds.getD j .non) (es.getD j .non)):=fun j g1 g2=>by
     obtain ⟨v1,w1,rr1⟩:=r1.getD (j:=j) (by lia);obtain ⟨v2,w2,rr2⟩:=r2.getD (j:=j) (by lia);obtain ⟨u1,k1,l1⟩:=vr1.get w1;obtain ⟨u2,k2,l2⟩:=vr2.get w2;have m1:its1.toArray[j]=u1:=by
      rw [List.getElem?_eq_getElem (by simpa using g1)] at k1;simpa using Option.some.inj k1
     have m2:its2.toArray[j]=u2:=by
      rw [List.getElem?_eq_getElem (by simpa using g2)] at k2;simpa using Option.some.inj k2
     rw [m1,m2];exact (ih A.in1 hu1 (fJ ha (by lia)) (fJ hb (by lia)) rr1 rr2 l1 l2).2.2
    have r00:RcAt A s (.ref p) (.ref q) (eqD (.lst ds) (.lst es))/\RcNeAt A s (.ref p) (.ref q) (!eqD (.lst ds) (.lst es)):=by
     rw [eqD,lZ];by_cases hz:ds.length=es.length
     ·have r0:=RcAt.lists h1 h2 (by lia) hu0 he;have r0':=RcNeAt.lists h1 h2 (by lia) hu0 he;rw [z1] at r0 r0';rw [show min ds.length es.length=ds.length by lia,show (ds.length==es.length)=true by simpa using hz,Bool.and_true];exact ⟨r0,r0'⟩
     ·have hz':(its1.toArray.size != its2.toArray.size)=true:=by rw [z1,z2];simpa using hz
      rw [show (ds.length==es.length)=false by simpa using hz,Bool.and_false];exact ⟨RcAt.lists_lengths h1 h2 hz' hu0,RcNeAt.lists_lengths h1 h2 hz' hu0⟩
    obtain ⟨r0,r0'⟩:=r00;refine ⟨r0,r0',?_⟩;by_cases hpq:p=q
    ·subst hpq;have hab:(D.lst ds)=(.lst es):=Rep.inj (n+1) (by rw [D.bK];exact ha) (by rw [D.bK];exact hb) rx ry;rw [<-hab,pU (n+1) _ (by rw [D.bK];exact ha)];exact EqAt.same _
    ·exact EqAt.of_refs hpq r0
end
end Mi
end
section
namespace Mi
open PySem L2 PySem.SeqAt
open PySem.AutoSeq1 (wpAny_loadPart')
open PySem.MeetsSeq PySem.MeetsSeq2 PySem.MeetsSeq3
variable [KFrag]
noncomputable def jD.op:jD->CmpOp
 | .lt=>.Lt|.le=>.LtE|.gt=>.Gt|.ge=>.GtE
noncomputable def wA (op:CmpOp) (A:Around) (s:Shared) (u v:Value) (b:Bool):Prop:=
 ∀(prog:Program) (w:World) (E:Value->Shared->Prop) (Q:Value->Shared->Prop),Q (.bool b) s->wpAny (model prog w) A (richCompare op u v) Q E s
noncomputable def C2 (o:jD) (A:Around) (s:Shared) (vs ws:List Value) (xs ys:List D):Prop:=
 vs.length=xs.length/\ws.length=ys.length/\∀(j:Nat) (v w:Value) (x y:D),vs[j]?=some v->ws[j]?=some w->xs[j]?=some x->ys[j]?=some y->
  EqAt A s v w (eqD x y)/\(eqD x y=false->∀k,nG o x y=some k->wA o.op A s v w k)
theorem C2.tail {o:jD} {A:Around} {s:Shared} {v w:Value} {vs ws:List Value} {x y:D} {xs ys:List D} (h:C2 o A s (v::vs) (w::ws) (x::xs) (y::ys)):C2 o A s vs ws xs ys:=
 ⟨by simpa using h.1,by simpa using h.2.1,fun j a b c d e1 e2 e3 e4=>h.2.2 (j+1) a b c d (by simpa using e1) (by simpa using e2) (by simpa using e3) (by simpa using e4)⟩
theorem yU (l b:Addr) (items items2:Array Value) (n n2:Nat) (dd dd2:Option Addr) (sl sl2:Array (Option Value)) (xs ys:List D) (res:Bool) (hr:fD .lt xs ys=some res) :
  Meets (Builtin.«tuple.__lt__» ⟨[.ref l,.ref b],[]⟩)
   (fun A R s=>s.heap.get? l=some {cls:=.type "tuple",dict:=dd,data:=.seq items n,slots:=sl}/\s.heap.get? b=some {cls:=.type "tuple",dict:=dd2,data:=.seq items2 n2,slots:=sl2}/\
    C2 .lt A.in1 s items.toList items2.toList xs ys/\R (.ok (.ret (.bool res))) s):=
 .of_wp fun prog w A R s h=>by
  obtain ⟨hp,g,d,tk,os⟩:=s;obtain ⟨hl,hb,hC,h⟩:=h;have f2:=AutoSeq1.sub_tuple_tuple;have z1:items.size=xs.length:=by rw [<-hC.1];simp
  have z2:items2.size=ys.length:=by rw [<-hC.2.1];simp
  wp_walk using wpAny_loadPart' hl,wpAny_loadPart' hb,wpAny_forIn_list _ (fun rest b s'=>b.1=none/\s'=⟨hp,g,d,tk,os⟩/\∃(vs ws:List Value) (xs' ys':List D),rest=vs.zip ws/\
   C2 .lt A.in1 ⟨hp,g,d,tk,os⟩ vs ws xs' ys'/\xs'.length+items2.size=ys'.length+items.size/\fD .lt xs' ys'=some res) _
  case turn=>
   rintro ⟨y,x⟩ rest b s' ⟨hb',rfl,vs,ws,xs',ys',hz,hC',hlen,hR⟩;cases vs with
   | nil=>rw [List.zip_nil_left] at hz;cases hz
   | cons v vs=>
    cases ws with
    | nil=>rw [List.zip_nil_right] at hz;cases hz
    | cons w' ws=>
     rw [List.zip_cons_cons] at hz;injection hz with hyx hrest
     injection hyx with hy hx
     subst hy hx;cases xs' with
     | nil=>exact absurd hC'.1 (by simp)
     | cons x0 xs'=>
      cases ys' with
      | nil=>exact absurd hC'.2.1 (by simp)
      | cons y0 ys'=>
       rw [fD] at hR;simp only [List.length_cons] at hlen;obtain ⟨he,hlt⟩:=hC'.2.2 0 _ _ _ _ rfl rfl rfl rfl;refine wpAny_bind (he prog w _ _ ?_);cases e:eqD x0 y0 with
       | true=>
        rw [e] at hR;simp only [if_true] at hR
        wp_walk
        exact ⟨rfl,rfl,_,_,_,_,hrest,hC'.tail,by lia,hR⟩
       | false=>
        rw [e] at hR;simp only [Bool.false_eq_true,if_false] at hR;have hri:∀(E:Value->Shared->Prop) (Q:Value->Shared->Prop),Q (.bool res) ⟨hp,g,d,tk,os⟩->wpAny (model prog w) A.in1 (richCompare .Lt _ _) Q E ⟨hp,g,d,tk,os⟩:=fun E Q q=>hlt e res hR prog w E Q q
        wp_walk using hri
        exact ⟨_,rfl,by simpa using h⟩
  case fin=>
   rintro ⟨b1,b2⟩ s' ⟨hb',rfl,vs,ws,xs',ys',hz,hC',hlen,hR⟩;simp only at hb';subst hb';have hv:res=decide (items.size<items2.size):=by
    cases xs' with
    | nil=>
     rw [fD] at hR;have:=Option.some.inj hR;rw [<-this];simp only [List.length_nil] at hlen;simp only [jD.nat]
     congr 1
     simp only [eq_iff_iff];lia
    | cons x0 xs'=>
     cases ys' with
     | nil=>
      rw [fD] at hR;have:=Option.some.inj hR;rw [<-this];simp only [List.length_nil,List.length_cons] at hlen;simp only [jD.nat,List.length_cons]
      congr 1
      simp only [eq_iff_iff];lia
     | cons y0 ys'=>
      exfalso;cases vs with
      | nil=>exact absurd hC'.1 (by simp)
      | cons v vs=>
       cases ws with
       | nil=>exact absurd hC'.2.1 (by simp)
       | cons w' ws=>rw [List.zip_cons_cons] at hz;cases hz
   rw [hv] at h
   wp_walk
   exact ⟨_,rfl,by simpa [Builtin.Tuple.tupleCompareSizes] using h⟩
  case h=>
   exact ⟨rfl,rfl,items.toList,items2.toList,xs,ys,rfl,hC,by lia,hr⟩
theorem wA.XM {A:Around} {s:Shared} {l b:Addr} {items items2:Array Value} {xs ys:List D} {res:Bool} (hl:s.heap.IsTuple l items) (hb:s.heap.IsTuple b items2) (hC:C2 .lt A.in1 s items.toList items2.toList xs ys) (hr:fD .lt xs ys=some res) (hu:A.units<cLine) :
  wA .Lt A s (.ref l) (.ref b) res:=fun prog w E Q h=>by
 obtain ⟨⟨cls,dd,data,sl⟩,ho,hc,n,hd⟩:=id hl;obtain ⟨⟨cls2,dd2,data2,sl2⟩,ho2,hc2,n2,hd2⟩:=id hb;simp only at hc hd hc2 hd2;subst hc hd hc2 hd2;exact richCompare_meets_room (op:=.Lt) ⟨_,ho,rfl⟩ ⟨_,ho2,rfl⟩ PySem.F.slot_tuple_lt PySem.F.entry_tuple_lt (PySem.F.args_tuple_lt_2 _ _) (yU l b items items2 n n2 dd dd2 sl sl2 xs ys res hr)
  ⟨ho,ho2,hC,show Value.bool res≠Value.notImplemented/\Q (.bool res) s from ⟨(fun x=>nomatch x),h⟩⟩ hu
theorem yV (l b:Addr) (items items2:Array Value) (n n2:Nat) (dd dd2:Option Addr) (sl sl2:Array (Option Value)) (xs ys:List D) (res:Bool) (hr:fD .le xs ys=some res) :
  Meets (Builtin.«tuple.__le__» ⟨[.ref l,.ref b],[]⟩)
   (fun A R s=>s.heap.get? l=some {cls:=.type "tuple",dict:=dd,data:=.seq items n,slots:=sl}/\s.heap.get? b=some {cls:=.type "tuple",dict:=dd2,data:=.seq items2 n2,slots:=sl2}/\
    C2 .le A.in1 s items.toList items2.toList xs ys/\R (.ok (.ret (.bool res))) s):=
 .of_wp fun prog w A R s h=>by
  obtain ⟨hp,g,d,tk,os⟩:=s;obtain ⟨hl,hb,hC,h⟩:=h;have f2:=AutoSeq1.sub_tuple_tuple;have z1:items.size=xs.length:=by rw [<-hC.1];simp
  have z2:items2.size=ys.length:=by rw [<-hC.2.1];simp
  wp_walk using wpAny_loadPart' hl,wpAny_loadPart' hb,wpAny_forIn_list _ (fun rest b s'=>b.1=none/\s'=⟨hp,g,d,tk,os⟩/\∃(vs ws:List Value) (xs' ys':List D),rest=vs.zip ws/\
   C2 .le A.in1 ⟨hp,g,d,tk,os⟩ vs ws xs' ys'/\xs'.length+items2.size=ys'.length+items.size/\fD .le xs' ys'=some res) _
  case turn=>
   rintro ⟨y,x⟩ rest b s' ⟨hb',rfl,vs,ws,xs',ys',hz,hC',hlen,hR⟩;cases vs with
   | nil=>rw [List.zip_nil_left] at hz;cases hz
   | cons v vs=>
    cases ws with
    | nil=>rw [List.zip_nil_right] at hz;cases hz
    | cons w' ws=>
     rw [List.zip_cons_cons] at hz;injection hz with hyx hrest
     injection hyx with hy hx
     subst hy hx;cases xs' with
     | nil=>exact absurd hC'.1 (by simp)
     | cons x0 xs'=>
      cases ys' with
      | nil=>exact absurd hC'.2.1 (by simp)
      | cons y0 ys'=>
       rw [fD] at hR;simp only [List.length_cons] at hlen;obtain ⟨he,hlt⟩:=hC'.2.2 0 _ _ _ _ rfl rfl rfl rfl;refine wpAny_bind (he prog w _ _ ?_);cases e:eqD x0 y0 with
       | true=>
        rw [e] at hR;simp only [if_true] at hR
        wp_walk
        exact ⟨rfl,rfl,_,_,_,_,hrest,hC'.tail,by lia,hR⟩
       | false=>
        rw [e] at hR;simp only [Bool.false_eq_true,if_false] at hR;have hri:∀(E:Value->Shared->Prop) (Q:Value->Shared->Prop),Q (.bool res) ⟨hp,g,d,tk,os⟩->wpAny (model prog w) A.in1 (richCompare .LtE _ _) Q E ⟨hp,g,d,tk,os⟩:=fun E Q q=>hlt e res hR prog w E Q q
        wp_walk using hri
        exact ⟨_,rfl,by simpa using h⟩
  case fin=>
   rintro ⟨b1,b2⟩ s' ⟨hb',rfl,vs,ws,xs',ys',hz,hC',hlen,hR⟩;simp only at hb';subst hb';have hv:res=decide (items.size<=items2.size):=by
    cases xs' with
    | nil=>
     rw [fD] at hR;have:=Option.some.inj hR;rw [<-this];simp only [List.length_nil] at hlen;simp only [jD.nat]
     congr 1
     simp only [eq_iff_iff];lia
    | cons x0 xs'=>
     cases ys' with
     | nil=>
      rw [fD] at hR;have:=Option.some.inj hR;rw [<-this];simp only [List.length_nil,List.length_cons] at hlen;simp only [jD.nat,List.length_cons]
      congr 1
      simp only [eq_iff_iff];lia
     | cons y0 ys'=>
      exfalso;cases vs with
      | nil=>exact absurd hC'.1 (by simp)
      | cons v vs=>
       cases ws with
       | nil=>exact absurd hC'.2.1 (by simp)
       | cons w' ws=>rw [List.zip_cons_cons] at hz;cases hz
   rw [hv] at h
   wp_walk
   exact ⟨_,rfl,by simpa [Builtin.Tuple.tupleCompareSizes] using h⟩
  case h=>
   exact ⟨rfl,rfl,items.toList,items2.toList,xs,ys,rfl,hC,by lia,hr⟩
theorem wA.XN {A:Around} {s:Shared} {l b:Addr} {items items2:Array Value} {xs ys:List D} {res:Bool} (hl:s.heap.IsTuple l items) (hb:s.heap.IsTuple b items2) (hC:C2 .le A.in1 s items.toList items2.toList xs ys) (hr:fD .le xs ys=some res) (hu:A.units<cLine) :
  wA .LtE A s (.ref l) (.ref b) res:=fun prog w E Q h=>by
 obtain ⟨⟨cls,dd,data,sl⟩,ho,hc,n,hd⟩:=id hl;obtain ⟨⟨cls2,dd2,data2,sl2⟩,ho2,hc2,n2,hd2⟩:=id hb;simp only at hc hd hc2 hd2;subst hc hd hc2 hd2;exact richCompare_meets_room (op:=.LtE) ⟨_,ho,rfl⟩ ⟨_,ho2,rfl⟩ PySem.F.slot_tuple_le PySem.F.entry_tuple_le (PySem.F.args_tuple_le_2 _ _) (yV l b items items2 n n2 dd dd2 sl sl2 xs ys res hr)
  ⟨ho,ho2,hC,show Value.bool res≠Value.notImplemented/\Q (.bool res) s from ⟨(fun x=>nomatch x),h⟩⟩ hu
theorem yW (l b:Addr) (items items2:Array Value) (n n2:Nat) (dd dd2:Option Addr) (sl sl2:Array (Option Value)) (xs ys:List D) (res:Bool) (hr:fD .gt xs ys=some res) :
  Meets (Builtin.«tuple.__gt__» ⟨[.ref l,.ref b],[]⟩)
   (fun A R s=>s.heap.get? l=some {cls:=.type "tuple",dict:=dd,data:=.seq items n,slots:=sl}/\s.heap.get? b=some {cls:=.type "tuple",dict:=dd2,data:=.seq items2 n2,slots:=sl2}/\
    C2 .gt A.in1 s items.toList items2.toList xs ys/\R (.ok (.ret (.bool res))) s):=
 .of_wp fun prog w A R s h=>by
  obtain ⟨hp,g,d,tk,os⟩:=s;obtain ⟨hl,hb,hC,h⟩:=h;have f2:=AutoSeq1.sub_tuple_tuple;have z1:items.size=xs.length:=by rw [<-hC.1];simp
  have z2:items2.size=ys.length:=by rw [<-hC.2.1];simp
  wp_walk using wpAny_loadPart' hl,wpAny_loadPart' hb,wpAny_forIn_list _ (fun rest b s'=>b.1=none/\s'=⟨hp,g,d,tk,os⟩/\∃(vs ws:List Value) (xs' ys':List D),rest=vs.zip ws/\
   C2 .gt A.in1 ⟨hp,g,d,tk,os⟩ vs ws xs' ys'/\xs'.length+items2.size=ys'.length+items.size/\fD .gt xs' ys'=some res) _
  case turn=>
   rintro ⟨y,x⟩ rest b s' ⟨hb',rfl,vs,ws,xs',ys',hz,hC',hlen,hR⟩;cases vs with
   | nil=>rw [List.zip_nil_left] at hz;cases hz
   | cons v vs=>
    cases ws with
    | nil=>rw [List.zip_nil_right] at hz;cases hz
    | cons w' ws=>
     rw [List.zip_cons_cons] at hz;injection hz with hyx hrest
     injection hyx with hy hx
     subst hy hx;cases xs' with
     | nil=>exact absurd hC'.1 (by simp)
     | cons x0 xs'=>
      cases ys' with
      | nil=>exact absurd hC'.2.1 (by simp)
      | cons y0 ys'=>
       rw [fD] at hR;simp only [List.length_cons] at hlen;obtain ⟨he,hlt⟩:=hC'.2.2 0 _ _ _ _ rfl rfl rfl rfl;refine wpAny_bind (he prog w _ _ ?_);cases e:eqD x0 y0 with
       | true=>
        rw [e] at hR;simp only [if_true] at hR
        wp_walk
        exact ⟨rfl,rfl,_,_,_,_,hrest,hC'.tail,by lia,hR⟩
       | false=>
        rw [e] at hR;simp only [Bool.false_eq_true,if_false] at hR;have hri:∀(E:Value->Shared->Prop) (Q:Value->Shared->Prop),Q (.bool res) ⟨hp,g,d,tk,os⟩->wpAny (model prog w) A.in1 (richCompare .Gt _ _) Q E ⟨hp,g,d,tk,os⟩:=fun E Q q=>hlt e res hR prog w E Q q
        wp_walk using hri
        exact ⟨_,rfl,by simpa using h⟩
  case fin=>
   rintro ⟨b1,b2⟩ s' ⟨hb',rfl,vs,ws,xs',ys',hz,hC',hlen,hR⟩;simp only at hb';subst hb';have hv:res=decide (items2.size<items.size):=by
    cases xs' with
    | nil=>
     rw [fD] at hR;have:=Option.some.inj hR;rw [<-this];simp only [List.length_nil] at hlen;simp only [jD.nat]
     congr 1
     simp only [eq_iff_iff];lia
    | cons x0 xs'=>
     cases ys' with
     | nil=>
      rw [fD] at hR;have:=Option.some.inj hR;rw [<-this];simp only [List.length_nil,List.length_cons] at hlen;simp only [jD.nat,List.length_cons]
      congr 1
      simp only [eq_iff_iff];lia
     | cons y0 ys'=>
      exfalso;cases vs with
      | nil=>exact absurd hC'.1 (by simp)
      | cons v vs=>
       cases ws with
       | nil=>exact absurd hC'.2.1 (by simp)
       | cons w' ws=>rw [List.zip_cons_cons] at hz;cases hz
   rw [hv] at h
   wp_walk
   exact ⟨_,rfl,by simpa [Builtin.Tuple.tupleCompareSizes] using h⟩
  case h=>
   exact ⟨rfl,rfl,items.toList,items2.toList,xs,ys,rfl,hC,by lia,hr⟩
theorem wA.XQ {A:Around} {s:Shared} {l b:Addr} {items items2:Array Value} {xs ys:List D} {res:Bool} (hl:s.heap.IsTuple l items) (hb:s.heap.IsTuple b items2) (hC:C2 .gt A.in1 s items.toList items2.toList xs ys) (hr:fD .gt xs ys=some res) (hu:A.units<cLine) :
  wA .Gt A s (.ref l) (.ref b) res:=fun prog w E Q h=>by
 obtain ⟨⟨cls,dd,data,sl⟩,ho,hc,n,hd⟩:=id hl;obtain ⟨⟨cls2,dd2,data2,sl2⟩,ho2,hc2,n2,hd2⟩:=id hb;simp only at hc hd hc2 hd2;subst hc hd hc2 hd2;exact richCompare_meets_room (op:=.Gt) ⟨_,ho,rfl⟩ ⟨_,ho2,rfl⟩ PySem.F.slot_tuple_gt PySem.F.entry_tuple_gt (PySem.F.args_tuple_gt_2 _ _) (yW l b items items2 n n2 dd dd2 sl sl2 xs ys res hr)
  ⟨ho,ho2,hC,show Value.bool res≠Value.notImplemented/\Q (.bool res) s from ⟨(fun x=>nomatch x),h⟩⟩ hu
theorem yX (l b:Addr) (items items2:Array Value) (n n2:Nat) (dd dd2:Option Addr) (sl sl2:Array (Option Value)) (xs ys:List D) (res:Bool) (hr:fD .ge xs ys=some res) :
  Meets (Builtin.«tuple.__ge__» ⟨[.ref l,.ref b],[]⟩)
   (fun A R s=>s.heap.get? l=some {cls:=.type "tuple",dict:=dd,data:=.seq items n,slots:=sl}/\s.heap.get? b=some {cls:=.type "tuple",dict:=dd2,data:=.seq items2 n2,slots:=sl2}/\
    C2 .ge A.in1 s items.toList items2.toList xs ys/\R (.ok (.ret (.bool res))) s):=
 .of_wp fun prog w A R s h=>by
  obtain ⟨hp,g,d,tk,os⟩:=s;obtain ⟨hl,hb,hC,h⟩:=h;have f2:=AutoSeq1.sub_tuple_tuple;have z1:items.size=xs.length:=by rw [<-hC.1];simp
  have z2:items2.size=ys.length:=by rw [<-hC.2.1];simp
  wp_walk using wpAny_loadPart' hl,wpAny_loadPart' hb,wpAny_forIn_list _ (fun rest b s'=>b.1=none/\s'=⟨hp,g,d,tk,os⟩/\∃(vs ws:List Value) (xs' ys':List D),rest=vs.zip ws/\
   C2 .ge A.in1 ⟨hp,g,d,tk,os⟩ vs ws xs' ys'/\xs'.length+items2.size=ys'.length+items.size/\fD .ge xs' ys'=some res) _
  case turn=>
   rintro ⟨y,x⟩ rest b s' ⟨hb',rfl,vs,ws,xs',ys',hz,hC',hlen,hR⟩;cases vs with
   | nil=>rw [List.zip_nil_left] at hz;cases hz
   | cons v vs=>
    cases ws with
    | nil=>rw [List.zip_nil_right] at hz;cases hz
    | cons w' ws=>
     rw [List.zip_cons_cons] at hz;injection hz with hyx hrest
     injection hyx with hy hx
     subst hy hx;cases xs' with
     | nil=>exact absurd hC'.1 (by simp)
     | cons x0 xs'=>
      cases ys' with
      | nil=>exact absurd hC'.2.1 (by simp)
      | cons y0 ys'=>
       rw [fD] at hR;simp only [List.length_cons] at hlen;obtain ⟨he,hlt⟩:=hC'.2.2 0 _ _ _ _ rfl rfl rfl rfl;refine wpAny_bind (he prog w _ _ ?_);cases e:eqD x0 y0 with
       | true=>
        rw [e] at hR;simp only [if_true] at hR
        wp_walk
        exact ⟨rfl,rfl,_,_,_,_,hrest,hC'.tail,by lia,hR⟩
       | false=>
        rw [e] at hR;simp only [Bool.false_eq_true,if_false] at hR;have hri:∀(E:Value->Shared->Prop) (Q:Value->Shared->Prop),Q (.bool res) ⟨hp,g,d,tk,os⟩->wpAny (model prog w) A.in1 (richCompare .GtE _ _) Q E ⟨hp,g,d,tk,os⟩:=fun E Q q=>hlt e res hR prog w E Q q
        wp_walk using hri
        exact ⟨_,rfl,by simpa using h⟩
  case fin=>
   rintro ⟨b1,b2⟩ s' ⟨hb',rfl,vs,ws,xs',ys',hz,hC',hlen,hR⟩;simp only at hb';subst hb';have hv:res=decide (items2.size<=items.size):=by
    cases xs' with
    | nil=>
     rw [fD] at hR;have:=Option.some.inj hR;rw [<-this];simp only [List.length_nil] at hlen;simp only [jD.nat]
     congr 1
     simp only [eq_iff_iff];lia
    | cons x0 xs'=>
     cases ys' with
     | nil=>
      rw [fD] at hR;have:=Option.some.inj hR;rw [<-this];simp only [List.length_nil,List.length_cons] at hlen;simp only [jD.nat,List.length_cons]
      congr 1
      simp only [eq_iff_iff];lia
     | cons y0 ys'=>
      exfalso;cases vs with
      | nil=>exact absurd hC'.1 (by simp)
      | cons v vs=>
       cases ws with
       | nil=>exact absurd hC'.2.1 (by simp)
       | cons w' ws=>rw [List.zip_cons_cons] at hz;cases hz
   rw [hv] at h
   wp_walk
   exact ⟨_,rfl,by simpa [Builtin.Tuple.tupleCompareSizes] using h⟩
  case h=>
   exact ⟨rfl,rfl,items.toList,items2.toList,xs,ys,rfl,hC,by lia,hr⟩
theorem wA.XR {A:Around} {s:Shared} {l b:Addr} {items items2:Array Value} {xs ys:List D} {res:Bool} (hl:s.heap.IsTuple l items) (hb:s.heap.IsTuple b items2) (hC:C2 .ge A.in1 s items.toList items2.toList xs ys) (hr:fD .ge xs ys=some res) (hu:A.units<cLine) :
  wA .GtE A s (.ref l) (.ref b) res:=fun prog w E Q h=>by
 obtain ⟨⟨cls,dd,data,sl⟩,ho,hc,n,hd⟩:=id hl;obtain ⟨⟨cls2,dd2,data2,sl2⟩,ho2,hc2,n2,hd2⟩:=id hb;simp only at hc hd hc2 hd2;subst hc hd hc2 hd2;exact richCompare_meets_room (op:=.GtE) ⟨_,ho,rfl⟩ ⟨_,ho2,rfl⟩ PySem.F.slot_tuple_ge PySem.F.entry_tuple_ge (PySem.F.args_tuple_ge_2 _ _) (yX l b items items2 n n2 dd dd2 sl sl2 xs ys res hr)
  ⟨ho,ho2,hC,show Value.bool res≠Value.notImplemented/\Q (.bool res) s from ⟨(fun x=>nomatch x),h⟩⟩ hu
section
variable {X:Cx} {pins:List (Addr×Obj)} {σ:St} {H:Hp} {s:Shared}
theorem FQ (I:Inv X pins σ H s) (o:jD):∀(n:Nat) (A:Around) {x y:V} {a b:D} {u v:Value} {k:Bool},A.units+n<cLine->a.bK n=true->b.bK n=true->Rep All H x a->Rep All H y b->RelV x u->RelV y v->
  nG o a b=some k->wA o.op A s u v k:=by
 intro n;induction n with
 | zero=>
  intro A x y a b u v k hu ha hb rx ry ru rv hk;cases a with
  | int i=>
   cases b with
   | int j=>
    cases rx;cases ry;obtain ⟨t,rfl⟩:=ru;obtain ⟨t',rfl⟩:=rv;rw [nG] at hk;have:=Option.some.inj hk;subst this;cases o with
    | lt=>exact fun prog w E Q h=>(PyProof.Rows.lt_int h:wpAny (model prog w) A (compareOp .Lt (.int i t) (.int j t')) Q E s)
    | le=>exact fun prog w E Q h=>(PyProof.Rows.le_int h:wpAny (model prog w) A (compareOp .LtE (.int i t) (.int j t')) Q E s)
    | gt=>exact fun prog w E Q h=>(PyProof.Rows.gt_int h:wpAny (model prog w) A (compareOp .Gt (.int i t) (.int j t')) Q E s)
    | ge=>exact fun prog w E Q h=>(PyProof.Rows.ge_int h:wpAny (model prog w) A (compareOp .GtE (.int i t) (.int j t')) Q E s)
   | _=>simp [nG] at hk
  | str i=>
   cases b with
   | str j=>
    cases rx;cases ry;obtain ⟨t,rfl⟩:=ru;obtain ⟨t',rfl⟩:=rv;rw [nG] at hk;have:=Option.some.inj hk;subst this;cases o with
    | lt=>exact fun prog w E Q h=>(PyProof.Rows.lt_str h:wpAny (model prog w) A (compareOp .Lt (.str i t) (.str j t')) Q E s)
    | le=>exact fun prog w E Q h=>(PySem.P.le_str h:wpAny (model prog w) A (compareOp .LtE (.str i t) (.str j t')) Q E s)
    | gt=>exact fun prog w E Q h=>(PySem.P.gt_str h:wpAny (model prog w) A (compareOp .Gt (.str i t) (.str j t')) Q E s)
    | ge=>exact fun prog w E Q h=>(PySem.P.ge_str h:wpAny (model prog w) A (compareOp .GtE (.str i t) (.str j t')) Q E s)
   | _=>simp [nG] at hk
  | tup _=>simp [D.bK] at ha
  | _=>cases b <;> simp [nG] at hk
 | succ n ih=>
  intro A x y a b u v k hu ha hb rx ry ru rv hk;have hu0:A.units<cLine:=by lia
  have hu1:A.in1.units+n<cLine:=by show A.units+1+n<cLine;lia
  cases a with
  | int i=>
   cases b with
   | int j=>
    cases rx;cases ry;obtain ⟨t,rfl⟩:=ru;obtain ⟨t',rfl⟩:=rv;rw [nG] at hk;have:=Option.some.inj hk;subst this;cases o with
    | lt=>exact fun prog w E Q h=>(PyProof.Rows.lt_int h:wpAny (model prog w) A (compareOp .Lt (.int i t) (.int j t')) Q E s)
    | le=>exact fun prog w E Q h=>(PyProof.Rows.le_int h:wpAny (model prog w) A (compareOp .LtE (.int i t) (.int j t')) Q E s)
    | gt=>exact fun prog w E Q h=>(PyProof.Rows.gt_int h:wpAny (model prog w) A (compareOp .Gt (.int i t) (.int j t')) Q E s)
    | ge=>exact fun prog w E Q h=>(PyProof.Rows.ge_int h:wpAny (model prog w) A (compareOp .GtE (.int i t) (.int j t')) Q E s)
   | _=>simp [nG] at hk
  | str i=>
   cases b with
   | str j=>
    cases rx;cases ry;obtain ⟨t,rfl⟩:=ru;obtain ⟨t',rfl⟩:=rv;rw [nG] at hk;have:=Option.some.inj hk;subst this;cases o with
    | lt=>exact fun prog w E Q h=>(PyProof.Rows.lt_str h:wpAny (model prog w) A (compareOp .Lt (.str i t) (.str j t')) Q E s)
    | le=>exact fun prog w E Q h=>(PySem.P.le_str h:wpAny (model prog w) A (compareOp .LtE (.str i t) (.str j t')) Q E s)
    | gt=>exact fun prog w E Q h=>(PySem.P.gt_str h:wpAny (model prog w) A (compareOp .Gt (.str i t) (.str j t')) Q E s)
    | ge=>exact fun prog w E Q h=>(PySem.P.ge_str h:wpAny (model prog w) A (compareOp .GtE (.str i t) (.str j t')) Q E s)
   | _=>simp [nG] at hk
  | tup ds=>
   cases b with
   | tup es=>
    obtain ⟨p,xs,rfl,e1,r1⟩:=rx.eV;cases ru;obtain ⟨its1,vr1,h1⟩:=gK I e1;obtain ⟨q,ys,rfl,e2,r2⟩:=ry.eV;cases rv;obtain ⟨its2,vr2,h2⟩:=gK I e2;rw [D.bK] at ha hb;rw [nG] at hk;have hC:∀o',o'=o->C2 o' A.in1 s its1.toArray.toList its2.toArray.toList ds es:=by
     rintro o' rfl;refine ⟨by rw [List.toList_toArray,<-vr1.length,r1.length],by rw [List.toList_toArray,<-vr2.length,r2.length],fun j v w x y a1 a2 a3 a4=>?_⟩;rw [List.toList_toArray] at a1 a2;obtain ⟨v1,w1,rr1⟩:=r1.get a3;obtain ⟨v2,w2,rr2⟩:=r2.get a4;obtain ⟨u1,k1,l1⟩:=vr1.get w1;obtain ⟨u2,k2,l2⟩:=vr2.get w2;rw [a1] at k1;cases k1;rw [a2] at k2;cases k2;have g1:x.bK n=true:=by
      have:=fJ (j:=j) ha (List.getElem?_eq_some_iff.mp a3).1;rwa [List.getD_eq_getElem?_getD,a3] at this
     have g2:y.bK n=true:=by
      have:=fJ (j:=j) hb (List.getElem?_eq_some_iff.mp a4).1;rwa [List.getD_eq_getElem?_getD,a4] at this
     exact ⟨(v_ I n A.in1 hu1 g1 g2 rr1 rr2 l1 l2).2.2,fun _ k hk=>ih A.in1 hu1 g1 g2 rr1 rr2 l1 l2 hk⟩
    cases o with
    | lt=>exact wA.XM h1 h2 (hC .lt rfl) hk hu0
    | le=>exact wA.XN h1 h2 (hC .le rfl) hk hu0
    | gt=>exact wA.XQ h1 h2 (hC .gt rfl) hk hu0
    | ge=>exact wA.XR h1 h2 (hC .ge rfl) hk hu0
   | _=>simp [nG] at hk
  | _=>cases b <;> simp [nG] at hk
end
end Mi
end
section
namespace TS
open PySem PyProof.Rows
end TS
end
section
namespace Mi
open PySem L2 PySem.SeqAt
open PyProof.Rows (Keyed lt' keyLt' oneLt' SortKind SortSt kindOf tuples' oneType' pairsOf wpS wpS_bind wpS_pure wpS_get wpS_lift keyKind')
variable [KFrag]
section
variable {X:Cx} {pins:List (Addr×Obj)} {σ:L2.St} {H:Hp} {s:Shared}
end
end Mi
end
section
namespace Mi
open PySem L2 PySem.SeqAt PySem.Spec PyProof.Rows
variable [KFrag]
noncomputable def kR (H:Hp) (d:D) (fr:Bool) (Q:VK):Prop:=∀v H',cH H H'->Rep All H' v d->(fr=true->Rep (New H) H' v d)->Q v H'
def gE (f:FE) (fr:Bool):TE:=fun σ H Q=>∃ρ d,ER H σ ρ/\f ρ=.ok d/\kR H d fr Q
def gT (f:FT):TT:=fun σ H Q=>∃ρ b,ER H σ ρ/\f ρ=.ok b/\∀H',cH H H'->Q b H'
noncomputable def gA (f:FA) (fr:Bool):TA:=fun σ H Q=>∃ρ ds,ER H σ ρ/\f ρ=.ok ds/\∀vs H',cH H H'->bH All H' vs ds->(fr=true->bH (New H) H' vs ds)->Q vs H'
theorem kR.self {H:Hp} {d:D} {fr:Bool} {Q:VK} {v:V} (q:kR H d fr Q) (r:Rep All H v d) (r2:fr=true->Rep (New H) H v d):Q v H:=q v H (cH.refl H) r r2
theorem kR.imp {H H':Hp} {d:D} {fr fr':Bool} {Q:VK} (q:kR H d fr Q) (s:cH H H') (h:fr=true->fr'=true):kR H' d fr' Q:=fun v H2 s2 r n=>q v H2 (s.trans s2) r fun hf=>(n (h hf)).mono (cH.new s)
theorem kR.int {H:Hp} {i:Int} {fr:Bool} {Q:VK} (q:kR H (.int i) fr Q):Q (.int i) H:=q.self (.int i) fun _=>.int i
theorem kR.bl {H:Hp} {i:Bool} {fr:Bool} {Q:VK} (q:kR H (.bl i) fr Q):Q (.bl i) H:=q.self (.bl i) fun _=>.bl i
theorem kR.str {H:Hp} {i:Str} {fr:Bool} {Q:VK} (q:kR H (.str i) fr Q):Q (.str i) H:=q.self (.str i) fun _=>.str i
noncomputable def r2 (f:D->D->Res D) (fr:Bool):R2:=fun x y H Q=>∃a b d,Rep All H x a/\Rep All H y b/\f a b=.ok d/\kR H d fr Q
noncomputable def r1 (f:D->Res D) (fr:Bool):V->Hp->VK->Prop:=fun x H Q=>∃a d,Rep All H x a/\f a=.ok d/\kR H d fr Q
noncomputable def rs (f:List D->Res D) (fr:Bool):List V->Hp->VK->Prop:=fun xs H Q=>∃ds d,bH All H xs ds/\f ds=.ok d/\kR H d fr Q
noncomputable def rm (f:D->List D->Res D) (fr:Bool):V->List V->Hp->VK->Prop:=fun x xs H Q=>∃a ds d,Rep All H x a/\bH All H xs ds/\f a ds=.ok d/\kR H d fr Q
theorem aX {α β:Type} {m:Res α} {f:α->Res β} {b:β} (h:(do let x <- m;f x)=.ok b):∃a,m=.ok a/\f a=.ok b:=Res.SJ h
section
variable {X:Cx} {a b c e:Expr} {pos:Pos} {fa fb fc fe:FE} {ra rb rc re:Bool} {ga gb gc:FT}
theorem ER.var {H:Hp} {σ:L2.St} {ρ:List D} {i:Nat} {d:D} (E:ER H σ ρ) (h:bR i ρ=.ok d):∃v,σ[i]?=some (some v)/\Rep All H v d/\ρ.getD i .uD=d:=by
 have:ρ.getD i .uD=d/\d≠.uD:=by
  unfold bR at h;split at h
  ·cases h
  ·cases h;refine ⟨rfl,fun z=>?_⟩;rename_i q;exact q z
 obtain ⟨e1,e2⟩:=this;obtain ⟨v,h1,h2⟩:=E i (by rw [e1];exact e2);exact ⟨v,h1,by rw [e1] at h2;exact h2,e1⟩
theorem aA {i:Nat} {x:Str} (hN:X.N[i]?=some x:=by exact rfl) (hv:Vis X.env.scope x:=by trivial) (hd:nDb x:=by decide) (hcd:nCd x:=by decide):PE X (.Name x pos) (gE (bR i) false):=
 PE.imp (gB hN hv hd hcd) fun σ H Q ⟨ρ,d,E,h,q⟩=>by
  obtain ⟨v,h1,h2,_⟩:=E.var h;exact ⟨v,h1,q.self h2 (fun z=>by cases z)⟩
theorem aG {i j}:PE X (.Constant (.int i) j pos) (gE (bC (.int i)) true):=PE.imp V_ fun σ H Q ⟨ρ,d,E,h,q⟩=>by cases h;exact q.int
theorem MK {i j}:PE X (.Constant (.bool i) j pos) (gE (bC (.bl i)) true):=PE.imp aAo fun σ H Q ⟨ρ,d,E,h,q⟩=>by cases h;exact q.bl
theorem rJ {i j}:PE X (.Constant (.str i) j pos) (gE (bC (.str i)) true):=PE.imp WD fun σ H Q ⟨ρ,d,E,h,q⟩=>by cases h;exact q.str
theorem two {f:D->D->Res D} {fr:Bool} {σ:L2.St} {H:Hp} {Q:VK} (h:gE (b2 f fa fb) fr σ H Q):tOp (r2 f fr) (gE fa ra) (gE fb rb) σ H Q:=by
 obtain ⟨ρ,d,E,h,q⟩:=h;obtain ⟨x,h1,h⟩:=aX h;obtain ⟨y,h2,h⟩:=aX h;refine ⟨ρ,x,E,h1,fun v H1 s1 rp1 _=>⟨ρ,y,E.same s1,h2,fun u H2 s2 rp2 _=>⟨x,y,d,rp1.same s2,rp2,h,q.imp (s1.trans s2) id⟩⟩⟩
theorem aV {o:Operator} {f:D->D->Res D} {fr:Bool} (ho:OpR X (binaryOp o) (r2 f fr)) (ha:PE X a (gE fa ra)) (hb:PE X b (gE fb rb)):PE X (.BinOp a o b pos) (gE (b2 f fa fb) fr):=PE.imp (WQ ho ha hb) fun _ _ _=>two
theorem wB {o:CmpOp} {f:D->D->Res D} {fr:Bool} (ho:OpR X (compareOp o) (r2 f fr)) (ha:PE X a (gE fa ra)) (hb:PE X b (gE fb rb)) (hm:behindInMarks o b=false):PE X (.Compare a [o] [b] pos) (gE (b2 f fa fb) fr):=PE.imp (RQ ho ha hb hm) fun _ _ _=>two
theorem cX {o:CmpOp} {f:D->D->Res D} {fr:Bool} (ho:OpR X (compareOp o) (r2 f fr)) (ha:PE X a (gE fa ra)) (hb:PE X b (gE fb rb)) (hm:behindInMarks o b=false):PT X (.Compare a [o] [b] pos) (gT (bTB (b2 f fa fb))):=
 PT.imp (BZ ho ha hb hm) fun σ H Q ⟨ρ,k,E,h,q⟩=>by
  obtain ⟨d,h1,h2⟩:=aX h;refine two ⟨ρ,d,E,h1,fun v H' s r _=>?_⟩;cases d <;> simp only [asB] at h2 <;> cases h2
  cases r;exact ⟨_,rfl,q H' s⟩
theorem S5 {o:UnaryOp} {f:D->Res D} {fr:Bool} (ho:UnR X (unaryOp o) (r1 f fr)) (ha:PE X a (gE fa ra)):PE X (.UnaryOp o a pos) (gE (b1 f fa) fr):=
 PE.imp (aAu ho ha) fun σ H Q ⟨ρ,d,E,h,q⟩=>by
  obtain ⟨x,h1,h⟩:=aX h;exact ⟨ρ,x,E,h1,fun v H1 s1 rp1 _=>⟨x,d,rp1,h,q.imp s1 id⟩⟩
theorem aY {f:D->D->Res D} {fr:Bool} (ho:IxR X (r2 f fr)) (ha:PE X a (gE fa ra)) (hb:PE X b (gE fb rb)) (hs:uH b):PE X (.Subscript a b pos) (gE (b2 f fa fb) fr):=PE.imp (W8 ho ha hb hs) fun _ _ _=>two
theorem aCp {H:Hp} {v:V} {d:D} {k:Bool} (r:Rep All H v d) (h:aB5 d=.ok k) (hd:∀kvs,d≠.dct kvs) (hs:∀xs,d≠.scr xs):aAx X.K v H k:=by
 cases r with
 | non=>cases h;rfl
 | bl b=>cases h;rfl
 | int i=>cases h;rfl
 | str x=>
  simp only [aB5] at h;split at h
  ·rename_i hl;cases h;exact ⟨Nat.le_trans (of_decide_eq_true hl) (by rw [sizeLine_eq];decide),rfl⟩
  ·cases h
 | tup e rr=>cases h;exact .inr (.inl ⟨_,.of e,by cases rr <;> rfl⟩)
 | lst e p rr=>cases h;exact .inl ⟨_,.of e,by cases rr <;> rfl⟩
 | frz e rr=>exact absurd rfl (hs _)
 | dK e p rr n=>exact absurd rfl (hd _)
 | dT e p rr n=>exact absurd rfl (hd _)
 | fdK e rr n=>cases h
 | fdT e rr n=>cases h
 | cel e p rr=>cases h
theorem n_ (ha:PE X a (gE fa ra)) (he:∀whole,isTrue a X.env whole=(do let v <- whole;standAt a.pos;holding [v] (truthy v)):=by intro _;rfl):PT X a (gT (bTr fa)):=
 PT.imp (K5 ha he) fun σ H Q ⟨ρ,k,E,h,q⟩=>by
  obtain ⟨d,h1,h2⟩:=aX h;refine ⟨ρ,d,E,h1,fun v H' s r _=>⟨k,aCp r ?_ ?_ ?_,q H' s⟩⟩
  ·cases d <;> first|exact h2|cases h2
  ·rintro kvs rfl;cases h2
  ·rintro kvs rfl;cases h2
theorem wC (ha:PT X a (gT ga)):PT X (.UnaryOp .Not a pos) (gT (EY ga)):=PT.imp (WK ha) fun σ H Q ⟨ρ,k,E,h,q⟩=>by
  obtain ⟨d,h1,h2⟩:=aX h;cases h2;exact ⟨ρ,d,E,h1,fun H' s=>q H' s⟩
theorem XS {d:D} {k:Bool} (h:asB d=.ok k):d=.bl k:=by cases d <;> simp only [asB] at h <;> cases h;rfl
theorem XX {d:D} {k:Int} (h:asI d=.ok k):d=.int k:=by cases d <;> simp only [asI] at h <;> cases h;rfl
theorem aM:PA X [] (gA aR true):=PA.imp nR fun σ H Q ⟨ρ,ds,E,h,q⟩=>by cases h;exact q [] H (cH.refl H) .nil fun _=>.nil
theorem aC {es:List Expr} {f:FA} {r:Bool} (he:PE X e (gE fe re)) (hes:PA X es (gA f r)) (hs:starEach (e::es) X.env=(false,eval e X.env)::starEach es X.env:=by rfl):PA X (e::es) (gA (aB fe f) (re&&r)):=PA.imp (gC he hes hs) fun σ H Q ⟨ρ,ds,E,h,q⟩=>by
  obtain ⟨x,h1,h⟩:=aX h;obtain ⟨xs,h2,h⟩:=aX h;cases h;refine ⟨ρ,x,E,h1,fun v H1 s1 r1 n1=>⟨ρ,xs,E.same s1,h2,fun vs H2 s2 r2 n2=>q _ _ (s1.trans s2) (.cons (r1.same s2) r2) fun hf=>?_⟩⟩;obtain ⟨f1,f2⟩:=(Bool.and_eq_true _ _▸hf:re=true/\r=true)
  exact .cons ((n1 f1).same s2) ((n2 f2).mono (cH.new s1))
theorem dN {es:List Expr} {f:FA} {r:Bool} {x1} (h:PA X es (gA f r)):PE X (.Tuple es x1 pos) (gE (fV f) r):=PE.imp (W4 h) fun σ H Q ⟨ρ,d,E,h,q⟩=>by
  obtain ⟨xs,h1,h⟩:=aX h;split at h
  ·rename_i hl;cases h;refine ⟨ρ,xs,E,h1,fun vs H1 s1 r1 n1=>⟨?_,fun p hp=>?_⟩⟩
   ·rw [r1.length];exact Nat.le_trans (of_decide_eq_true hl) (by rw [sizeLine_eq];decide)
   ·have sp:cH H1 (upd H1 p (.tup vs)):=cH.upd hp;exact q _ _ (s1.trans sp) (.tup aO (r1.same sp)) fun hf=>.tup aO ((n1 hf).same sp)
  ·cases h
theorem d9 {es:List Expr} {f:FA} {r:Bool} (h:PA X es (gA f r)):PE X (.List es pos) (gE (iV f) r):=PE.imp (PJ h) fun σ H Q ⟨ρ,d,E,h,q⟩=>by
  obtain ⟨xs,h1,h⟩:=aX h;split at h
  ·rename_i hl;cases h;refine ⟨ρ,xs,E,h1,fun vs H1 s1 r1 n1=>⟨?_,fun p hp=>?_⟩⟩
   ·rw [r1.length];exact Nat.le_trans (of_decide_eq_true hl) (by rw [sizeLine_eq];decide)
   ·have sp:cH H1 (upd H1 p (.lst vs)):=cH.upd hp;exact q _ _ (s1.trans sp) (.lst aO trivial (r1.same sp)) fun hf=>.lst aO (s1.free hp) ((n1 hf).same sp)
  ·cases h
theorem wD:PE X (.Dict [] [] pos) (gE (bC (.dct [])) true):=PE.imp LC fun σ H Q ⟨ρ,d,E,h,q⟩=>by
  cases h;exact fun p hp=>q _ _ (cH.upd hp) (.dK aO trivial .nil List.nodup_nil) fun _=>.dK aO hp .nil List.nodup_nil
end
end Mi
end
section
namespace Mi
open PySem L2 PySem.SeqAt PySem.Spec PyProof.Rows
variable [KFrag]
section
variable {X:Cx} {a b c e:Expr} {pos:Pos} {fa fb fc fe:FE} {ra rb rc re:Bool} {ga gb gc:FT}
theorem iK {n:Nat} (h:decide (n<=lim)=true):n<=sizeLine:=Nat.le_trans (of_decide_eq_true h) (by rw [sizeLine_eq];decide)
theorem P_ {n:Nat} (h:decide (n<lim)=true):n<sizeLine:=Nat.lt_of_lt_of_le (of_decide_eq_true h) (by rw [sizeLine_eq];decide)
theorem Rep.X3 {P:Addr->Prop} {H:Hp} {v:V} {ds:List D} (r:Rep P H v (.lst ds)):∃a xs,v=.ref a/\Rd H a (.lst xs)/\bH P H xs ds:=by
 cases r with
 | lst e p rr=>exact ⟨_,_,rfl,.inl e,rr⟩
theorem PW.imp {X:Cx} {e:PySem.Expr} {t t':TT} (h:PW X e t) (i:∀σ H Q,t' σ H Q->t σ H Q):PW X e t':=fun wh pins s σ H Q I q=>h wh pins s σ H Q I (i σ H Q q)
theorem uV (ha:PT X a (gT ga)):PW X (.BoolOp .And [a] pos) (gT ga):=BJ ha
theorem wF (ha:PT X a (gT ga)):PW X (.BoolOp .Or [a] pos) (gT ga):=WF ha
theorem FW {rest:List Expr} (ha:PT X a (gT ga)) (hb:PW X (.BoolOp .And (b::rest) pos) (gT gb)):PW X (.BoolOp .And (a::b::rest) pos) (gT (zW ga gb)):=PW.imp (O_ ha hb) fun σ H Q ⟨ρ,k,E,h,q⟩=>by
 obtain ⟨z,h1,h3⟩:=aX h;refine ⟨ρ,z,E,h1,fun H' s=>?_⟩;cases z with
 | true=>rw [if_pos rfl];rw [if_pos rfl] at h3;exact ⟨ρ,k,E.same s,h3,fun H2 s2=>q H2 (s.trans s2)⟩
 | false=>rw [if_neg (by simp)];rw [if_neg (by simp)] at h3;cases h3;exact q H' s
theorem FZ {rest:List Expr} (ha:PT X a (gT ga)) (hb:PW X (.BoolOp .Or (b::rest) pos) (gT gb)):PW X (.BoolOp .Or (a::b::rest) pos) (gT (bOr ga gb)):=PW.imp (aAp ha hb) fun σ H Q ⟨ρ,k,E,h,q⟩=>by
 obtain ⟨z,h1,h3⟩:=aX h;refine ⟨ρ,z,E,h1,fun H' s=>?_⟩;cases z with
 | true=>rw [if_pos rfl];rw [if_pos rfl] at h3;cases h3;exact q H' s
 | false=>rw [if_neg (by simp)];rw [if_neg (by simp)] at h3;exact ⟨ρ,k,E.same s,h3,fun H2 s2=>q H2 (s.trans s2)⟩
theorem bN:OpR X (binaryOp .Add) (r2 (aN .add) true):=by
 intro pins s σ H x y v u Q I rx ry h;obtain ⟨a,b,d,p,q,e,k⟩:=h;cases p with
 | int i=>
  cases q with
  | int j=>cases e;exact WR pins s σ H _ _ v u Q I rx ry ⟨i,j,rfl,rfl,k.int⟩
  | _=>simp [aN] at e
 | str i=>
  cases q with
  | str j=>
   simp only [aN] at e;split at e
   ·rename_i hl;cases e;exact yM pins s σ H _ _ v u Q I rx ry ⟨i,j,rfl,rfl,iK hl,k.str⟩
   ·cases e
  | _=>simp [aN] at e
 | non=>simp [aN] at e
 | bl _=>simp [aN] at e
 | tup _ _=>simp [aN] at e
 | dK _ _ _ _=>simp [aN] at e
 | dT _ _ _ _=>simp [aN] at e
 | fdK _ _ _=>simp [aN] at e
 | fdT _ _ _=>simp [aN] at e
 | cel _ _ _=>simp [aN] at e
 | @lst a1 xs ds e1 p1 r1=>
  have hR:Rep All H (.ref a1) (.lst ds):=.lst e1 p1 r1;cases b with
  | lst es=>
   simp only [aN] at e;split at e
   ·rename_i hl;cases e;rw [Bool.and_eq_true,Bool.and_eq_true] at hl;obtain ⟨⟨hl,hp1⟩,hp2⟩:=hl;obtain ⟨l1,xs1,e1',rd1,rr1⟩:=hR.X3;obtain ⟨l2,xs2,rfl,rd2,rr2⟩:=q.X3;cases e1';cases rx;cases ry;obtain ⟨z,its,n,vr1,ee1⟩:=rd1.ok I.hok;obtain ⟨z2,its2,n2,vr2,ee2⟩:=rd2.ok I.hok;have hz:xs1.length+xs2.length<=sizeLine:=by rw [rr1.length,rr2.length];exact iK hl
    have t1:=vr1.length;have t2:=vr2.length;refine PySem.P.add_list ee1 ee2 ?_ (by rw [List.size_toArray,List.size_toArray];lia);have ea:its.toArray++its2.toArray=(its++its2).toArray:=by simp
    rw [ea];refine ⟨.ref _,_,I.aCk (t':=s.toks) (vr1.append vr2) (by rw [List.length_append];lia),rfl,?_⟩;have sp:cH H (upd H s.heap.objs.size (.lst (xs1++xs2))):=cH.upd I.fresh;exact k _ _ sp (.lst aO trivial ((rr1.append rr2).same sp)) fun _=>.lst aO I.fresh (((rr1.bI hp1).append (rr2.bI hp2)).same sp)
   ·cases e
  | _=>simp [aN] at e
 | frz _ _=>simp [aN] at e
theorem uW {f:Value->Value->Sem Value} {C:Int->Int->Prop} {g:Int->Int->V} {op:D->D->Res D} (h:OpR X f (rI C g))
  (hi:∀i j d,op (.int i) (.int j)=.ok d->C i j/\∃k,d=.int k/\g i j=.int k) (hn:∀a b d,op a b=.ok d->(∃i,a=.int i)/\∃j,b=.int j):OpR X f (r2 op true):=by
 intro pins s σ H x y v u Q I rx ry ⟨a,b,d,p,q,e,k⟩;obtain ⟨⟨i,rfl⟩,⟨j,rfl⟩⟩:=hn a b d e;cases p;cases q;obtain ⟨hc,m,rfl,hm⟩:=hi i j d e;exact h pins s σ H _ _ v u Q I rx ry ⟨i,j,rfl,rfl,hc,by rw [hm];exact k.int⟩
theorem rK:OpR X (binaryOp .Sub) (r2 (aN .sub) true):=by
 intro pins s σ H x y v u Q I rx ry ⟨a,b,d,p,q,e,k⟩;cases a <;> cases b <;> simp [aN] at e
 cases p;cases q;subst e;exact WT pins s σ H _ _ v u Q I rx ry ⟨_,_,rfl,rfl,k.int⟩
theorem X4:OpR X (binaryOp .Mult) (r2 (aN .mul) true):=by
 refine uW WX (fun i j d e=>?_) fun a b d e=>?_
 ·simp only [aN] at e;split at e
  ·rename_i hl;cases e;refine ⟨?_,_,rfl,rfl⟩;simp only [iT,Bool.or_eq_true,Bool.and_eq_true,decide_eq_true_eq] at hl;exact hl
  ·cases e
 ·cases a <;> cases b <;> first|exact ⟨⟨_,rfl⟩,_,rfl⟩|simp [aN] at e
theorem cU:OpR X (binaryOp .FloorDiv) (r2 (aN .fdiv) true):=by
 refine uW RN (fun i j d e=>?_) fun a b d e=>?_
 ·simp only [aN] at e;split at e
  ·rename_i hl;cases e;refine ⟨?_,_,rfl,rfl⟩;simp only [Bool.and_eq_true,decide_eq_true_eq] at hl;exact hl
  ·cases e
 ·cases a <;> cases b <;> first|exact ⟨⟨_,rfl⟩,_,rfl⟩|simp [aN] at e
theorem bU:OpR X (binaryOp .Mod) (r2 (aN .mod) true):=by
 refine uW WY (fun i j d e=>?_) fun a b d e=>?_
 ·simp only [aN] at e;split at e
  ·rename_i hl;cases e;refine ⟨?_,_,rfl,rfl⟩;simp only [Bool.and_eq_true,decide_eq_true_eq] at hl;exact hl
  ·cases e
 ·cases a <;> cases b <;> first|exact ⟨⟨_,rfl⟩,_,rfl⟩|simp [aN] at e
theorem F_:UnR X (unaryOp .USub) (r1 zX true):=by
 intro pins s σ H x v Q I rx ⟨a,d,p,e,k⟩;cases a <;> simp [zX] at e
 subst e;cases p;exact W0 pins s σ H _ v Q I rx ⟨_,rfl,k.int⟩
theorem lA (hu:X.A.units+20<cLine):OpR X (compareOp .Eq) (r2 (b8 .eq) true):=by
 intro pins s σ H x y v u Q I rx ry ⟨a,b,d,p,q,e,k⟩;simp only [b8] at e;split at e
 ·rename_i hl;cases e;rw [Bool.and_eq_true] at hl;exact (v_ I aQ X.A (by have:aQ=12:=rfl;lia) hl.1 hl.2 p q rx ry).1 X.prog X.w X.xe _ ⟨.bl _,H,I,rfl,k.bl⟩
 ·cases e
theorem GC (hu:X.A.units+20<cLine):OpR X (compareOp .NotEq) (r2 (b8 .ne) true):=by
 intro pins s σ H x y v u Q I rx ry ⟨a,b,d,p,q,e,k⟩;simp only [b8] at e;split at e
 ·rename_i hl;cases e;rw [Bool.and_eq_true] at hl;exact (v_ I aQ X.A (by have:aQ=12:=rfl;lia) hl.1 hl.2 p q rx ry).2.1 X.prog X.w X.xe _ ⟨.bl _,H,I,rfl,k.bl⟩
 ·cases e
theorem GD (o:jD) (hu:X.A.units+20<cLine):OpR X (compareOp o.op) (r2 (b8 (.ord o)) true):=by
 intro pins s σ H x y v u Q I rx ry ⟨a,b,d,p,q,e,k⟩;simp only [b8] at e;split at e
 ·rename_i hl;rw [Bool.and_eq_true] at hl;split at e
  ·rename_i m hm;cases e;have:=FQ I o aQ X.A (by have:aQ=12:=rfl;lia) hl.1 hl.2 p q rx ry hm X.prog X.w X.xe _ (show EP X pins σ Q (.bool m) s from ⟨.bl _,H,I,rfl,k.bl⟩);cases o <;> exact this
  ·cases e
 ·cases e
theorem X5 (hu:X.A.units+20<cLine):OpR X (compareOp .Lt) (r2 (b8 (.ord .lt)) true):=GD .lt hu
theorem aB6 (hu:X.A.units+20<cLine):OpR X (compareOp .LtE) (r2 (b8 (.ord .le)) true):=GD .le hu
theorem X6 (hu:X.A.units+20<cLine):OpR X (compareOp .Gt) (r2 (b8 (.ord .gt)) true):=GD .gt hu
end
end Mi
end
section
namespace Mi
open PySem L2 PySem.SeqAt PySem.Spec PyProof.Rows
variable [KFrag]
theorem GF (k q:Key):eqD (kD k) (kD q)=decide (k=q):=by
 cases k <;> cases q <;> simp [kD,eqD,Bool.beq_eq_decide_eq]
theorem QB:∀(k q:List Key),oY (k.map kD) (q.map kD)=decide (k=q)
 | [],[]=>by simp [oY]
 | [],_::_=>by simp [oY]
 | _::_,[]=>by simp [oY]
 | a::k,b::q=>by
  rw [List.map_cons,List.map_cons,oY,GF,QB k q];by_cases h:a=b <;> by_cases h':k=q <;> simp [h,h']
theorem S6 (k q:List Key):eqD (.tup (k.map kD)) (.tup (q.map kD))=decide (k=q):=by rw [eqD,QB]
theorem S7 {P:Addr->Prop} {H:Hp} {k:Key}:∀{kvs:List (Key×V)} {ds:List (D×D)},jG P H kvs ds->(∃v d,pD kvs k=some v/\dZ ds (kD k)=some d/\Rep P H v d)\/(pD kvs k=none/\dZ ds (kD k)=none)
 | _,_,.nil=>.inr ⟨rfl,rfl⟩
 | _,_,.cons (k:=k') r t=>by
  by_cases h:k'=k
  ·subst h;exact .inl ⟨_,_,kW rfl,by rw [dZ,GF,if_pos (by simp)],r⟩
  ·rw [dZ,GF,if_neg (by simpa using h),kY (p:=(k',_)) h];exact S7 t
theorem S8 {P:Addr->Prop} {H:Hp} {k:List Key}:∀{kvs:List (List Key×V)} {ds:List (D×D)},lX P H kvs ds->(∃v d,pD kvs k=some v/\dZ ds (.tup (k.map kD))=some d/\Rep P H v d)\/(pD kvs k=none/\dZ ds (.tup (k.map kD))=none)
 | _,_,.nil=>.inr ⟨rfl,rfl⟩
 | _,_,.cons (k:=k') r t=>by
  by_cases h:k'=k
  ·subst h;exact .inl ⟨_,_,kW rfl,by rw [dZ,S6,if_pos (by simp)],r⟩
  ·rw [dZ,S6,if_neg (by simpa using h),kY (p:=(k',_)) h];exact S8 t
theorem pW {H:Hp} {v:V} {d:D} (h:nZ d=true) (r:Rep All H v d):∃k,v=kV k/\d=kD k:=by
 cases r <;> simp [nZ] at h
 ·exact ⟨.inl _,rfl,rfl⟩
 ·exact ⟨.inr _,rfl,rfl⟩
theorem flat_keys {H:Hp}:∀{vs:List V} {ds:List D},ds.all nZ=true->bH All H vs ds->∃ks:List Key,vs=ks.map kV/\ds=ks.map kD
 | _,_,_,.nil=>⟨[],rfl,rfl⟩
 | _,_,h,.cons r t=>by
  rw [List.all_cons,Bool.and_eq_true] at h;obtain ⟨k,rfl,rfl⟩:=pW h.1 r;obtain ⟨ks,rfl,rfl⟩:=flat_keys h.2 t;exact ⟨k::ks,rfl,rfl⟩
theorem iB {H:Hp} {y:V} {k:D} (h:keyOk k=true) (r:Rep All H y k):(∃q,y=kV q/\k=kD q)\/∃(b:Addr) (ks:List Key),y=.ref b/\H b=some (.tup (ks.map kV))/\k=.tup (ks.map kD):=by
 cases k <;> simp [keyOk] at h
 ·exact .inl (pW rfl r)
 ·exact .inl (pW rfl r)
 ·obtain ⟨a,xs,rfl,e,rr⟩:=r.eV;obtain ⟨ks,rfl,rfl⟩:=flat_keys (List.all_eq_true.mpr h) rr;exact .inr ⟨a,ks,rfl,e,rfl⟩
theorem jQ (k:Key):isTup (kD k)=false:=by cases k <;> rfl
section
variable {X:Cx} {pins:List (Addr×Obj)} {σ:L2.St} {H:Hp} {s:Shared} {a:Addr}
theorem wG {o o':HO} (e:H a=some o):upd (upd H a o') a o=H:=by
 rw [uC]
 funext b
 by_cases h:b=a
 ·subst h;rw [aO,e]
 ·rw [bT h]
theorem l_ (I:Inv X pins σ H s) (e:H a=some (.dK [])):Inv X pins σ (upd H a (.dT [])) s:=by
 obtain ⟨z,hd,vs,rel,o,es,ep,h1,h2,h3,h4,h5,h6⟩:=R6 I.hok e;cases rel;refine I.write (t':=s.toks) (x:=a) (e:=a) (h':=s.heap) (by rw [e];trivial) (.inl rfl) (fun _ _ _ q=>q) ⟨o,h1⟩ ?_;refine ⟨Nat.zero_le _,hd,[],.nil,o,es,ep,h1,h2,h3,?_,List.nodup_nil⟩;cases h5':es.toList with
 | nil=>rfl
 | cons _ _=>rw [h5'] at h5;cases h5
theorem mC (I:Inv X pins σ H s) (e:H a=some (.dT [])):Inv X pins σ (upd H a (.dK [])) s:=by
 obtain ⟨z,hd,vs,rel,o,es,ep,h1,h2,h3,h4,h5,h6⟩:=R7 I.hok e;cases rel;refine I.write (t':=s.toks) (x:=a) (e:=a) (h':=s.heap) (by rw [e];trivial) (.inl rfl) (fun _ _ _ q=>q) ⟨o,h1⟩ ?_;have h0:es.toList=[]:=h4;refine ⟨Nat.zero_le _,hd,[],.nil,o,es,ep,h1,h2,h3,?_,?_,List.nodup_nil⟩
 ·intro x hx;have:x∈es.toList:=by simpa using hx
  rw [h0] at this;cases this
 ·rw [h0];exact .nil
theorem wH {P:Addr->Prop}:∀{kvs:List (Key×V)} {ds:List (D×D)},jG P H kvs ds->∀p∈ds,isTup p.1=false
 | _,_,.nil,_,h=>by cases h
 | _,_,.cons r t,p,h=>by
  rcases List.mem_cons.mp h with rfl|h
  ·exact jQ _
  ·exact wH t p h
theorem wI {P:Addr->Prop}:∀{kvs:List (List Key×V)} {ds:List (D×D)},lX P H kvs ds->∀p∈ds,isTup p.1=true
 | _,_,.nil,_,h=>by cases h
 | _,_,.cons r t,p,h=>by
  rcases List.mem_cons.mp h with rfl|h
  ·rfl
  ·exact wI t p h
theorem S9 {x y:V} {ds:List (D×D)} {k:D} (I:Inv X pins σ H s) (rd:Rep All H x (.dct ds)) (rk:Rep All H y k) (hk:zV ds k=true) :
  ∃H1 a o,x=.ref a/\Inv X pins σ H1 s/\(∀s',Inv X pins σ H1 s'->Inv X pins σ H s')/\C_ H1 a y o/\((o=none/\dZ ds k=none)\/∃v d,o=some v/\dZ ds k=some d/\Rep All H v d):=by
 unfold zV at hk;rw [Bool.and_eq_true] at hk;obtain ⟨h1,h2⟩:=hk;cases rd with
 | @dK a kvs ds e _ r n=>
  rcases iB h1 rk with ⟨q,rfl,rfl⟩|⟨b,ks,rfl,eb,rfl⟩
  ·refine ⟨H,a,_,rfl,I,fun _ h=>h,.k e,?_⟩;rcases S7 (k:=q) r with ⟨v,d,g1,g2,g3⟩|⟨g1,g2⟩
   ·exact .inr ⟨v,d,g1,g2,g3⟩
   ·exact .inl ⟨g1,g2⟩
  ·cases r with
   | nil=>
    have e2:=wG (o':=.dT []) e;refine ⟨upd H a (.dT []),a,none,rfl,l_ I e,fun s' I'=>?_,.t (k:=ks) aO (by rw [bT (RC eb e (by intro z;cases z))];exact eb),.inl ⟨rfl,rfl⟩⟩;have:=mC I' aO;rwa [e2] at this
   | cons r t=>
    rw [List.all_cons,jQ] at h2;simp [isTup] at h2
 | @dT a kvs ds e _ r n=>
  rcases iB h1 rk with ⟨q,rfl,rfl⟩|⟨b,ks,rfl,eb,rfl⟩
  ·cases r with
   | nil=>
    have e2:=wG (o':=.dK []) e;refine ⟨upd H a (.dK []),a,none,rfl,mC I e,fun s' I'=>?_,.k (k:=q) aO,.inl ⟨rfl,rfl⟩⟩;have:=l_ I' aO;rwa [e2] at this
   | cons r t=>
    rw [List.all_cons,jQ] at h2;simp [isTup] at h2
  ·refine ⟨H,a,_,rfl,I,fun _ h=>h,.t e eb,?_⟩;rcases S8 (k:=ks) r with ⟨v,d,g1,g2,g3⟩|⟨g1,g2⟩
   ·exact .inr ⟨v,d,g1,g2,g3⟩
   ·exact .inl ⟨g1,g2⟩
theorem MN {x:V} {ds:List (D×D)} {k d:D} (rd:Rep All H x (.dct ds)) (hk:keyOk k=true) (h:dZ ds k=some d):zV ds k=true:=by
 have one:∀{ds:List (D×D)},dZ ds k=some d->∃p∈ds,eqD p.1 k=true:=by
  intro ds;induction ds with
  | nil=>intro h;cases h
  | cons p ds ih=>
   intro h;obtain ⟨p1,p2⟩:=p;rw [dZ] at h;by_cases hq:eqD p1 k=true
   ·exact ⟨_,List.mem_cons_self ..,hq⟩
   ·rw [if_neg hq] at h;obtain ⟨p,hp,e⟩:=ih h;exact ⟨p,List.mem_cons_of_mem _ hp,e⟩
 obtain ⟨p,hp,he⟩:=one h;unfold zV;rw [hk,Bool.true_and,List.all_eq_true];intro q hq;have same:isTup p.1=isTup k:=by
  obtain ⟨p1,p2⟩:=p;cases p1 <;> cases k <;> simp [eqD,keyOk,isTup] at he hk ⊢
 cases rd with
 | dK e _ r n=>rw [wH r q hq,<-same,wH r p hp];rfl
 | dT e _ r n=>rw [wI r q hq,<-same,wI r p hp];rfl
end
section
variable {X:Cx} {a b c e:Expr} {pos:Pos} {fa fb fc fe:FE} {ra rb rc re:Bool} {ga gb gc:FT}
noncomputable def pX (H:Hp) (u:Value):D:=by
 classical
 exact if h:∃d,d.bK aQ=true/\∃v,RelV v u/\Rep All H v d then Classical.choose h else .non
theorem pY {H:Hp} {u:Value} {v:V} {d:D} (hq:d.bK aQ=true) (rv:RelV v u) (r:Rep All H v d):pX H u=d:=by
 unfold pX;have h:∃d,d.bK aQ=true/\∃v,RelV v u/\Rep All H v d:=⟨d,hq,v,rv,r⟩
 rw [dif_pos h];obtain ⟨h2,v',rv',r'⟩:=Classical.choose_spec h;have:=rv'.inj rv;subst this;exact Rep.inj aQ h2 hq r' r
theorem oA {H:Hp} {a:D}:∀{xs:List V} {ds:List D} {its:List Value},D.bY aQ ds=true->bH All H xs ds->Vals xs its->(its.any fun u=>eqD (pX H u) a)=ds.any fun y=>eqD y a
 | _,_,_,_,.nil,.nil=>rfl
 | _,_,_,h,.cons r t,.cons v vt=>by
  rw [D.bY,Bool.and_eq_true] at h;rw [List.any_cons,List.any_cons,pY h.1 v r,oA h.2 t vt]
theorem oE {pins:List (Addr×Obj)} {σ:L2.St} {H:Hp} {s:Shared} (I:Inv X pins σ H s) (hu:X.A.units+20<cLine) {a:D} {x:V} {v:Value} (ha:a.bK aQ=true) (rx:Rep All H x a) (rv:RelV x v)
  {xs:List V} {ds:List D} {its:List Value} (h:D.bY aQ ds=true) (r:bH All H xs ds) (vr:Vals xs its) (u:Value) (hm:u∈its):EqAt X.A.in1 s u v (eqD (pX H u) a):=by
 obtain ⟨j,hj,e⟩:=List.getElem_of_mem hm;have hj':j<ds.length:=by rw [<-r.length,vr.length];exact hj
 obtain ⟨w,h1,h2⟩:=r.get (i:=j) (d:=ds[j]) (by simp [hj']);obtain ⟨u',h3,h4⟩:=vr.get h1;rw [List.getElem?_eq_getElem hj,e] at h3;cases h3;have hd:ds[j].bK aQ=true:=by
  have:=fJ (j:=j) h hj';rwa [List.getD_eq_getElem?_getD,List.getElem?_eq_getElem hj'] at this
 rw [pY hd h4 h2];exact (v_ I aQ X.A.in1 (by show X.A.units+1+12<cLine;lia) hd ha h2 rx h4 rv).2.2
theorem aB7 (hu:X.A.units+20<cLine):OpR X (compareOp .In) (r2 (b8 .isin) true):=by
 intro pins s σ H x y v u Q I rx ry ⟨a,b,d,p,q,e,k⟩;cases b with
 | tup ys=>
  simp only [b8] at e;split at e
  ·rename_i hl;cases e;rw [Bool.and_eq_true] at hl;obtain ⟨l,xs,rfl,ee,rr⟩:=q.eV;cases ry;obtain ⟨its,vr,pl⟩:=gK I ee;refine in_tupleAt (fun u=>eqD (pX H u) a) pl (fun w hw=>oE I hu hl.1 p rx hl.2 rr vr w (by simpa using hw)) ⟨.bl _,H,I,rfl,?_⟩;rw [show its.toArray.any (fun u=>eqD (pX H u) a)=its.any (fun u=>eqD (pX H u) a) by simp,oA hl.2 rr vr];exact k.bl
  ·cases e
 | lst ys=>
  simp only [b8] at e;split at e
  ·rename_i hl;cases e;rw [Bool.and_eq_true] at hl;obtain ⟨l,xs,rfl,ee,rr⟩:=q.fH (K:=X.K);cases ry;obtain ⟨its,vr,pl⟩:=iU I ee;refine in_listAt (fun u=>eqD (pX H u) a) pl (fun w hw=>oE I hu hl.1 p rx hl.2 rr vr w (by simpa using hw)) ⟨.bl _,H,I,rfl,?_⟩;rw [show its.toArray.any (fun u=>eqD (pX H u) a)=its.any (fun u=>eqD (pX H u) a) by simp,oA hl.2 rr vr];exact k.bl
  ·cases e
 | dct kvs=>
  simp only [b8] at e;split at e
  ·rename_i hl;cases e;obtain ⟨H1,a1,o,rfl,I1,bk,g,hc⟩:=S9 I q p hl;cases ry;refine aCm (by lia) I1 g rx fun s' I'=>⟨.bl _,H,bk s' I',rfl,?_⟩
   rcases hc with ⟨rfl,h2⟩|⟨w,dd,rfl,h2,_⟩
   ·rw [h2] at k;exact k.bl
   ·rw [h2] at k;exact k.bl
  ·cases e
 | _=>simp [b8] at e
theorem wJ (hu:X.A.units+20<cLine):OpR X (compareOp .NotIn) (r2 (b8 .notin) true):=by
 intro pins s σ H x y v u Q I rx ry ⟨a,b,d,p,q,e,k⟩;cases b with
 | tup ys=>
  simp only [b8] at e;split at e
  ·rename_i hl;cases e;rw [Bool.and_eq_true] at hl;obtain ⟨l,xs,rfl,ee,rr⟩:=q.eV;cases ry;obtain ⟨its,vr,pl⟩:=gK I ee;refine notIn_tupleAt (fun u=>eqD (pX H u) a) pl (fun w hw=>oE I hu hl.1 p rx hl.2 rr vr w (by simpa using hw)) ⟨.bl _,H,I,rfl,?_⟩;rw [show its.toArray.any (fun u=>eqD (pX H u) a)=its.any (fun u=>eqD (pX H u) a) by simp,oA hl.2 rr vr];exact k.bl
  ·cases e
 | lst ys=>
  simp only [b8] at e;split at e
  ·rename_i hl;cases e;rw [Bool.and_eq_true] at hl;obtain ⟨l,xs,rfl,ee,rr⟩:=q.fH (K:=X.K);cases ry;obtain ⟨its,vr,pl⟩:=iU I ee;refine notIn_listAt (fun u=>eqD (pX H u) a) pl (fun w hw=>oE I hu hl.1 p rx hl.2 rr vr w (by simpa using hw)) ⟨.bl _,H,I,rfl,?_⟩;rw [show its.toArray.any (fun u=>eqD (pX H u) a)=its.any (fun u=>eqD (pX H u) a) by simp,oA hl.2 rr vr];exact k.bl
  ·cases e
 | dct kvs=>
  simp only [b8] at e;split at e
  ·rename_i hl;cases e;obtain ⟨H1,a1,o,rfl,I1,bk,g,hc⟩:=S9 I q p hl;cases ry;refine R8 (by lia) I1 g rx fun s' I'=>⟨.bl _,H,bk s' I',rfl,?_⟩
   rcases hc with ⟨rfl,h2⟩|⟨w,dd,rfl,h2,_⟩
   ·rw [h2] at k;exact k.bl
   ·rw [h2] at k;exact k.bl
  ·cases e
 | _=>simp [b8] at e
theorem X7 {α:Type} (xs:List α) (i:Int):L2.atI xs i=(ixD xs.length i).bind fun j=>xs[j]?:=rfl
theorem bH.atI {P:Addr->Prop} {H:Hp} {xs:List V} {ds:List D} {i:Int} {d:D} (r:bH P H xs ds) (h:((ixD ds.length i).bind fun j=>ds[j]?)=some d):∃v,L2.atI xs i=some v/\Rep P H v d:=by
 rw [X7,r.length];cases hi:ixD ds.length i with
 | none=>rw [hi] at h;cases h
 | some j=>
  rw [hi] at h;obtain ⟨v,h1,h2⟩:=r.get h;exact ⟨v,h1,h2⟩
theorem rM {X:Cx} {value slice:Expr} {pins:List (Addr×Obj)} {s:Shared} {σ:L2.St} {H:Hp} {a:Addr} {y v':V} {u:Value} {Q:VK} (hu:X.A.units+20<cLine) (I:Inv X pins σ H s) (g:C_ H a y (some v')) (ry:RelV y u) {H':Hp}
  (hs:subscripted slice false (.ref a) u=operate [.ref a,u] (getItem (.ref a) u)) (bk:∀s',Inv X pins σ H s'->Inv X pins σ H' s') (q:Q v' H') :
  wpAny (model X.prog X.w) X.A (subscriptTail value slice (.ref a) u) (EP X pins σ Q) X.xe s:=by
 have hT:=uK I g;unfold subscriptTail;refine wpAny_bind ?_;rw [getitemInPython_of_ne hT.not_modules];refine wpAny_bind (wpAny_specialOf hT PySem.F.slot_dict_getitem.lookup ?_);have fin:wpAny (model X.prog X.w) X.A (subscripted slice false (.ref a) u) (fun r s₃=>wpAny (model X.prog X.w) X.A (letTemporaryGo value (.ref a) r >>= fun _=>pure r) (EP X pins σ Q) X.xe s₃) X.xe s:=by
  rw [hs];exact wpAny_operating (DG (by lia) I g ry fun w' s3 I3 rw'=>wpAny_bind (wpAny_letTemporaryGo (wpAny_pure ⟨v',H',bk s3 I3,rw',q⟩)))
 first
  | exact wpAny_pure (wpAny_bind fin)
  | exact wpAny_bind (wpAny_pure (wpAny_bind fin))
  | exact wpAny_bind fin
theorem wK {k d:D}:∀{ds:List (D×D)},keyOk k=true->dZ ds k=some d->∃p∈ds,isTup p.1=isTup k
 | [],_,h=>by cases h
 | (p1,p2)::ds,hk,h=>by
  rw [dZ] at h;by_cases hq:eqD p1 k=true
  ·refine ⟨_,List.mem_cons_self ..,?_⟩;cases p1 <;> cases k <;> simp [eqD,keyOk,isTup] at hq hk ⊢
  ·rw [if_neg hq] at h;obtain ⟨p,hp,e⟩:=wK hk h;exact ⟨p,List.mem_cons_of_mem _ hp,e⟩
theorem aB8 {H:Hp} {x y:V} {ds:List (D×D)} {k d:D} (rd:Rep All H x (.fdc ds)) (rk:Rep All H y k) (hk:keyOk k=true) (h:dZ ds k=some d):∃a v,x=.ref a/\C_ H a y (some v)/\Rep All H v d:=by
 obtain ⟨p,hp,et⟩:=wK hk h;cases rd with
 | @fdK a o kvs ds e r n=>
  rcases iB hk rk with ⟨q,rfl,rfl⟩|⟨b,ks,rfl,eb,rfl⟩
  ·rcases S7 (k:=q) r with ⟨v,d',g1,g2,g3⟩|⟨g1,g2⟩
   ·rw [g2] at h;cases h;exact ⟨a,v,rfl,.inl ⟨kvs,q,.inr ⟨o,e⟩,rfl,g1.symm⟩,g3⟩
   ·rw [g2] at h;cases h
  ·rw [wH r p hp] at et;cases et
 | @fdT a o kvs ds e r n=>
  rcases iB hk rk with ⟨q,rfl,rfl⟩|⟨b,ks,rfl,eb,rfl⟩
  ·rw [wI r p hp,jQ] at et;cases et
  ·rcases S8 (k:=ks) r with ⟨v,d',g1,g2,g3⟩|⟨g1,g2⟩
   ·rw [g2] at h;cases h;exact ⟨a,v,rfl,.inr ⟨kvs,ks,b,.inr ⟨o,e⟩,rfl,eb,g1.symm⟩,g3⟩
   ·rw [g2] at h;cases h
theorem aW (hK:KFrag.K=X.K) (hu:X.A.units+20<cLine):IxR X (r2 getD false):=by
 intro value slice pins s σ H x y v u Q I rx ry ⟨a,b,d,p,q,e,k⟩ hs;cases a with
 | tup ys=>
  cases b <;> simp only [getD] at e <;> (try (cases e;done))
  have e':=Res.iJ e;obtain ⟨l,xs,rfl,ee,rr⟩:=p.eV;cases q;obtain ⟨w,h1,h2⟩:=rr.atI e';exact W9 value slice pins s σ H _ _ v u Q I rx ry ⟨l,xs,_,w,rfl,rfl,.of ee,h1,k.self h2 fun z=>by cases z⟩ hs
 | lst ys=>
  cases b <;> simp only [getD] at e <;> (try (cases e;done))
  have e':=Res.iJ e;obtain ⟨l,xs,rfl,ee,rr⟩:=p.fH (K:=X.K);cases q;obtain ⟨w,h1,h2⟩:=rr.atI e';exact uI value slice pins s σ H _ _ v u Q I rx ry ⟨l,xs,_,w,rfl,rfl,ee,h1,k.self h2 fun z=>by cases z⟩ hs
 | cel ca ys=>
  cases b <;> simp only [getD] at e <;> (try (cases e;done))
  have e':=Res.iJ e;cases p with
  | cel ee pp rr=>
   cases q;obtain ⟨w,h1,h2⟩:=rr.atI e';exact uI value slice pins s σ H _ _ v u Q I rx ry ⟨_,_,_,w,rfl,rfl,.inl (.inl ee),h1,k.self h2 fun z=>by cases z⟩ hs
 | scr ys=>
  cases b <;> simp only [getD] at e <;> (try (cases e;done))
  have e':=Res.iJ e;cases p with
  | frz ee rr=>
   cases q;obtain ⟨w,h1,h2⟩:=rr.atI e';exact uI value slice pins s σ H _ _ v u Q I rx ry ⟨_,_,_,w,rfl,rfl,ee.sq hK,h1,k.self h2 fun z=>by cases z⟩ hs
 | str z=>
  cases b <;> simp only [getD] at e <;> (try (cases e;done))
  split at e
  ·rename_i hl;have e':=Res.iJ e;obtain ⟨cc,h1,h2⟩:=Option.map_eq_some_iff.mp e';subst h2;cases p;cases q;exact W_ value slice pins s σ H _ _ v u Q I rx ry ⟨z,_,cc,rfl,rfl,iK hl,h1,k.str⟩ hs
  ·cases e
 | dct kvs=>
  have e':keyOk b=true/\dZ kvs b=some d:=by
   cases b <;> simp only [getD] at e <;> (split at e <;> first|(rename_i hl;exact ⟨hl,Res.iJ e⟩)|cases e)
  obtain ⟨H1,a1,o,rfl,I1,bk,g,hc⟩:=S9 I p q (MN p e'.1 e'.2);cases rx;rcases hc with ⟨rfl,h2⟩|⟨w,dd,rfl,h2,h3⟩
  ·rw [h2] at e';cases e'.2
  ·rw [h2] at e';cases e'.2;exact rM hu I1 g ry hs bk (k.self h3 fun z=>by cases z)
 | fdc kvs=>
  have e':keyOk b=true/\dZ kvs b=some d:=by
   cases b <;> simp only [getD] at e <;> (split at e <;> first|(rename_i hl;exact ⟨hl,Res.iJ e⟩)|cases e)
  obtain ⟨a1,w,rfl,g,h3⟩:=aB8 p q e'.1 e'.2;cases rx;exact rM hu I g ry hs (fun _ h=>h) (k.self h3 fun z=>by cases z)
 | _=>cases b <;> simp [getD] at e
noncomputable def gO (f:List D->Res (Option Int)):TO:=fun σ H Q=>∃ρ i,ER H σ ρ/\f ρ=.ok i/\∀H',cH H H'->Q i H'
theorem PO.imp {X:Cx} {e:Option PySem.Expr} {t t':TO} (h:PO X e t) (i:∀σ H Q,t' σ H Q->t σ H Q):PO X e t':=fun pins s σ H Q I q=>h pins s σ H Q I (i σ H Q q)
theorem gD:PO X none (gO eO):=PO.imp RX fun σ H Q ⟨ρ,i,E,h,q⟩=>by cases h;exact q H (cH.refl H)
theorem dI (ha:PE X a (gE fa ra)):PO X (some a) (gO (cN fa)):=PO.imp (RZ ha) fun σ H Q ⟨ρ,i,E,h,q⟩=>by
 obtain ⟨x,h1,h⟩:=aX h;obtain ⟨j,h2,h⟩:=aX h;cases h;have e:=XX h2;subst e;exact ⟨ρ,_,E,h1,fun v H' s r _=>by cases r;exact ⟨j,rfl,q H' s⟩⟩
theorem QC (n d:Nat) (o:Option Int):HT.sIx n d o=vY n d o:=by
 cases o with
 | none=>rfl
 | some v=>
  show (if v<0 then (v+(n:Int)).toNat else min v.toNat n)=(if v<0 then (max (v+(n:Int)) 0).toNat else (min v (n:Int)).toNat);split <;> lia
theorem bH.cut {P:Addr->Prop} {H:Hp} {xs:List V} {ds:List D} (r:bH P H xs ds) (lo hi:Option Int):bH P H (CP xs lo hi) (cutD ds lo hi):=by
 unfold CP cutD;rw [r.length];simp only [QC];exact (r.drop _).take _
theorem d_ {ds:List D}:D.aU ds=true↔∀d∈ds,d.pure=true:=by
 induction ds with
 | nil=>simp [D.aU]
 | cons d ds ih=>rw [D.aU,Bool.and_eq_true,ih];simp
noncomputable def rSl:V->Option Int->Option Int->Hp->VK->Prop:=fun x lo hi H Q=>∃a d,Rep All H x a/\aAh a lo hi=.ok d/\kR H d true Q
theorem aB9 (hK:KFrag.K=X.K):SlR X rSl:=by
 intro pins s σ H x v vl vu lo hi sl Q I rx hs pl pu ⟨a,d,p,e,k⟩;cases a <;> simp only [aAh] at e <;> (try (cases e;done))
 ·split at e
  ·cases e
  ·rename_i hw;cases e;obtain ⟨l,xs,rfl,ee,rr⟩:=p.eV;refine W7 pins s σ H _ v vl vu lo hi sl Q I rx hs pl pu ⟨l,xs,rfl,.of ee,?_,fun p hp=>?_⟩
   ·simp only [QC,rr.length];simp only [Bool.not_eq_true',Bool.or_eq_true,not_or,Bool.not_eq_false',decide_eq_true_eq] at hw;exact hw.2
   ·have sp:cH H (upd H p (.tup (CP xs lo hi))):=cH.upd hp;have hp2:D.aU ‹List D›=true:=by
     simp only [Bool.or_eq_true,not_or,Bool.not_eq_true'] at hw;simpa using hw.1
    exact k _ _ sp (.tup aO ((rr.cut lo hi).same sp)) fun z=>.tup aO (((rr.bI hp2).cut lo hi).same sp)
 ·split at e
  ·rename_i hl;cases e;obtain ⟨l,xs,rfl,ee,rr⟩:=p.fH (K:=X.K);refine CT pins s σ H _ v vl vu lo hi sl Q I rx hs pl pu ⟨l,xs,rfl,ee,fun p hp=>?_⟩;have sp:cH H (upd H p (.lst (CP xs lo hi))):=cH.upd hp;exact k _ _ sp (.lst aO trivial ((rr.cut lo hi).same sp)) fun z=>.lst aO hp (((rr.bI hl).cut lo hi).same sp)
  ·cases e
 ·split at e
  ·rename_i hl;cases e;cases p with
   | @frz l xs ds ee rr=>
    refine CT pins s σ H _ v vl vu lo hi sl Q I rx hs pl pu ⟨l,xs,rfl,ee.sq hK,fun p hp=>?_⟩;have sp:cH H (upd H p (.lst (CP xs lo hi))):=cH.upd hp;exact k _ _ sp (.lst aO trivial ((rr.cut lo hi).same sp)) fun z=>.lst aO hp (((rr.bI hl).cut lo hi).same sp)
  ·cases e
end
end Mi
end
section
namespace PySem.Mm
open PySem
noncomputable def wdL:Bool->String
 | false => "min.loop"
 | true => "max.loop"
noncomputable def wdO:Bool->CmpOp
 | false=>.Lt
 | true=>.Gt
section
variable {prog:Program} {w:World} {A:Around} {R:Result->Shared->Prop} {I S:Addr} {fp wr:List Addr} {n:Nat} {P:Nat->Value->Prop} {St:Nat->Heap->Prop} {bt:Nat->Nat->Bool} {Gd:Shared->Prop} {op:CmpOp}
structure X8 (prog:Program) (w:World) (A:Around) (op:CmpOp) (P:Nat->Value->Prop) (bt:Nat->Nat->Bool) (wr:List Addr) (top:Nat) (Gd:Shared->Prop):Prop where
 keep:∀s h' tk,Gd s->(∀b o,b∉wr->b<top->s.heap.get? b=some o->h'.get? b=some o)->Gd {s with heap:=h',toks:=tk}
 says:∀i j vi vj s Q E,Gd s->P i vi->P j vj->Q (.bool (bt i j)) s->wpAny (model prog w) A (richCompare op vi vj) Q E s
noncomputable def aBw (P:Nat->Value->Prop) (bt:Nat->Nat->Bool) (n:Nat):Nat->Array Value->Prop
 | 0,a=>a=#[]/\0<n
 | j+1,a=>∃v,a=#[v,v]/\P (argBest bt j) v
theorem touched (J:X8 prog w A op P bt wr S Gd) {s:Shared} {f:Array Value->Array Value} (g:Gd s):Gd {s with heap:=s.heap.update S (Obj.mapSeq f)}:=
 J.keep s _ s.toks g fun b o _ hb e=>(Heap.get?_update_other _ _ (Nat.ne_of_gt hb)).trans e
theorem turn (m:Bool) (W:Walks prog w A.in1 I fp wr n P St) (hS:S∉fp) (J:X8 prog w A.in1 (wdO m) P bt wr S Gd):∀(k j:Nat) (s:Shared) (a:Array Value) (c:Nat),j+k=n->St j s.heap->Gd s->aBw P bt n j a->
  s.heap.get? S=some {cls:=.type "list",dict:=none,data:=.seq a c,slots:=#[]}->
  (∀v h' tk,P (argBest bt (n-1)) v->(∀b o,b∉wr->b≠S->s.heap.get? b=some o->h'.get? b=some o)->R (.ok (.ret v)) {s with heap:=h',toks:=tk})->
  codeAny (model prog w) A (.builtin (wdL m) ⟨[.ref I,.none,.ref S],[]⟩) R s:=by
 have off:S∉wr:=fun h=>hS (W.sub _ h)
 have still:∀{j:Nat} {h:Heap} {f:Array Value->Array Value},St j h->St j (h.update S (Obj.mapSeq f)):=fun st=>
  W.frame _ _ _ st fun b hb o e=>(Heap.get?_update_other _ _ fun z:S=b=>hS (z▸hb)).trans e
 intro k;induction k with
 | zero=>
  intro j s a c hj st g hb hs fin;have hjn:j=n:=hj;subst hjn;cases j with
  | zero=>exact absurd hb.2 (Nat.lt_irrefl 0)
  | succ j=>
   obtain ⟨v,rfl,hv⟩:=hb;have last:∀(h':Heap) (tk:Nat),(∀b o,b∉wr->s.heap.get? b=some o->h'.get? b=some o)->R (.ok (.ret v)) {s with heap:=h'.update S (Obj.mapSeq fun _=>#[]),toks:=tk}:=fun h' tk kp=>
    fin v _ tk hv fun b o h1 h2 e=>(Heap.get?_update_other _ _ (Ne.symm h2)).trans (kp b o h1 e)
   cases m
   ·show codeAny (model prog w) A (.builtin "min.loop" ⟨[.ref I,.none,.ref S],[]⟩) R s;refine codeAny_builtin F.entry_min_loop ?_;rw [Around.under_plainId F.plain_min_loop];refine wpAny_bind (m:=seqItems? (.ref S)) (wpAny_seqItems hs rfl ?_);refine wpAny_bind (wpAny_tryCatch (m:=pyNext (.ref I)) (W.done s _ _ st fun h' tk kp=>?_));exact wpAny_bind (m:=updateSeq S _) (wpAny_updateSeq (kp S _ off hs) rfl (wpAny_bind (wpAny_letGo (wpAny_pure (last h' tk kp)))))
   ·show codeAny (model prog w) A (.builtin "max.loop" ⟨[.ref I,.none,.ref S],[]⟩) R s;refine codeAny_builtin F.entry_max_loop ?_;rw [Around.under_plainId F.plain_max_loop];refine wpAny_bind (m:=seqItems? (.ref S)) (wpAny_seqItems hs rfl ?_);refine wpAny_bind (wpAny_tryCatch (m:=pyNext (.ref I)) (W.done s _ _ st fun h' tk kp=>?_));exact wpAny_bind (m:=updateSeq S _) (wpAny_updateSeq (kp S _ off hs) rfl (wpAny_bind (wpAny_letGo (wpAny_pure (last h' tk kp)))))
 | succ k ih=>
  intro j s a c hj st g hb hs fin;have hjn:j<n:=by lia
  /- what is left to do behind the list's change,or without one -/
  have on:∀(v:Value) (h':Heap) (tk:Nat),P j v->St (j+1) h'->(∀b o,b∉wr->s.heap.get? b=some o->h'.get? b=some o)->(∀(a':Array Value) (c':Nat) (h2:Heap),aBw P bt n (j+1) a'->h2.get? S=some {cls:=.type "list",dict:=none,data:=.seq a' c',slots:=#[]}->(h2=h'\/∃f:Array Value->Array Value,h2=h'.update S (Obj.mapSeq f))->
    codeAny (model prog w) A (.builtin (wdL m) ⟨[.ref I,.none,.ref S],[]⟩) R {s with heap:=h2,toks:=tk}):=by
   intro v h' tk _ st' kp a' c' h2 hb' hs' hh;have g':Gd {s with heap:=h',toks:=tk}:=J.keep s h' tk g fun b o h1 _ e=>kp b o h1 e
   rcases hh with rfl|⟨f,rfl⟩
   ·exact ih (j+1) _ a' c' (by lia) st' g' hb' hs' fun u h3 t3 hu k3=>fin u h3 t3 hu fun b o h1 h2 e=>k3 b o h1 h2 (kp b o h1 e)
   ·exact ih (j+1) _ a' c' (by lia) (still st') (touched J g') hb' hs' fun u h3 t3 hu k3=>fin u h3 t3 hu fun b o h1 h2 e=>k3 b o h1 h2 ((Heap.get?_update_other _ _ (Ne.symm h2)).trans (kp b o h1 e))
  have nmn:(toString "min" ++ toString ".loop" : String) = "min.loop":=by decide
  have nmx:(toString "max" ++ toString ".loop" : String) = "max.loop":=by decide
  cases j with
  | zero=>
   obtain ⟨rfl,_⟩:=hb;cases m
   ·show codeAny (model prog w) A (.builtin "min.loop" ⟨[.ref I,.none,.ref S],[]⟩) R s;refine codeAny_builtin F.entry_min_loop ?_;rw [Around.under_plainId F.plain_min_loop];refine wpAny_bind (m:=seqItems? (.ref S)) (wpAny_seqItems hs rfl ?_);refine wpAny_bind (wpAny_tryCatch (m:=pyNext (.ref I)) (W.item 0 s _ _ hjn st fun v h' tk pv st' kp=>?_));have hs':=kp S _ off hs;refine wpAny_bind (m:=updateSeq S _) (wpAny_updateSeq hs' rfl ?_);rw [nmn];exact wpAny_pure ⟨plainId_quiet F.plain_min_loop _,on v h' tk pv st' kp #[v,v] _ _ ⟨v,rfl,pv⟩ (Heap.get?_update_self _ hs' rfl) (.inr ⟨_,rfl⟩)⟩
   ·show codeAny (model prog w) A (.builtin "max.loop" ⟨[.ref I,.none,.ref S],[]⟩) R s;refine codeAny_builtin F.entry_max_loop ?_;rw [Around.under_plainId F.plain_max_loop];refine wpAny_bind (m:=seqItems? (.ref S)) (wpAny_seqItems hs rfl ?_);refine wpAny_bind (wpAny_tryCatch (m:=pyNext (.ref I)) (W.item 0 s _ _ hjn st fun v h' tk pv st' kp=>?_));have hs':=kp S _ off hs;refine wpAny_bind (m:=updateSeq S _) (wpAny_updateSeq hs' rfl ?_);rw [nmx];exact wpAny_pure ⟨plainId_quiet F.plain_max_loop _,on v h' tk pv st' kp #[v,v] _ _ ⟨v,rfl,pv⟩ (Heap.get?_update_self _ hs' rfl) (.inr ⟨_,rfl⟩)⟩
  | succ j=>
   obtain ⟨u,rfl,hu⟩:=hb;cases m
   ·show codeAny (model prog w) A (.builtin "min.loop" ⟨[.ref I,.none,.ref S],[]⟩) R s;refine codeAny_builtin F.entry_min_loop ?_;rw [Around.under_plainId F.plain_min_loop];refine wpAny_bind (m:=seqItems? (.ref S)) (wpAny_seqItems hs rfl ?_);refine wpAny_bind (wpAny_tryCatch (m:=pyNext (.ref I)) (W.item (j+1) s _ _ hjn st fun v h' tk pv st' kp=>?_));have hs':=kp S _ off hs;refine wpAny_bind (wpAny_pure ?_);refine wpAny_bind (wpAny_tryCatch (wpAny_holding (wpAny_bind (m:=richCompare .Lt v u) (J.says (j+1) (argBest bt j) v u _ _ _ (J.keep s h' tk g fun b o h1 _ e=>kp b o h1 e) pv hu ?_))));refine wpAny_bind (wpAny_holding (wpAny_truthy_bool (wpAny_bind (wpAny_letGo (wpAny_pure ?_)))));cases hx:bt (j+1) (argBest bt j)
    ·rw [if_neg Bool.false_ne_true];refine wpAny_bind (wpAny_letGo ?_);rw [nmn];exact wpAny_pure ⟨plainId_quiet F.plain_min_loop _,on v h' tk pv st' kp _ _ _ ⟨u,rfl,by rw [argBest,hx];exact hu⟩ hs' (.inl rfl)⟩
    ·rw [if_pos rfl];refine wpAny_bind (m:=updateSeq S _) (wpAny_updateSeq hs' rfl (wpAny_bind (wpAny_letGo ?_)));rw [nmn];exact wpAny_pure ⟨plainId_quiet F.plain_min_loop _,on v h' tk pv st' kp #[v,v] _ _ ⟨v,rfl,by rw [argBest,hx];exact pv⟩ (Heap.get?_update_self _ hs' rfl) (.inr ⟨_,rfl⟩)⟩
   ·show codeAny (model prog w) A (.builtin "max.loop" ⟨[.ref I,.none,.ref S],[]⟩) R s;refine codeAny_builtin F.entry_max_loop ?_;rw [Around.under_plainId F.plain_max_loop];refine wpAny_bind (m:=seqItems? (.ref S)) (wpAny_seqItems hs rfl ?_);refine wpAny_bind (wpAny_tryCatch (m:=pyNext (.ref I)) (W.item (j+1) s _ _ hjn st fun v h' tk pv st' kp=>?_));have hs':=kp S _ off hs;refine wpAny_bind (wpAny_pure ?_);refine wpAny_bind (wpAny_tryCatch (wpAny_holding (wpAny_bind (m:=richCompare .Gt v u) (J.says (j+1) (argBest bt j) v u _ _ _ (J.keep s h' tk g fun b o h1 _ e=>kp b o h1 e) pv hu ?_))));refine wpAny_bind (wpAny_holding (wpAny_truthy_bool (wpAny_bind (wpAny_letGo (wpAny_pure ?_)))));cases hx:bt (j+1) (argBest bt j)
    ·rw [if_neg Bool.false_ne_true];refine wpAny_bind (wpAny_letGo ?_);rw [nmx];exact wpAny_pure ⟨plainId_quiet F.plain_max_loop _,on v h' tk pv st' kp _ _ _ ⟨u,rfl,by rw [argBest,hx];exact hu⟩ hs' (.inl rfl)⟩
    ·rw [if_pos rfl];refine wpAny_bind (m:=updateSeq S _) (wpAny_updateSeq hs' rfl (wpAny_bind (wpAny_letGo ?_)));rw [nmx];exact wpAny_pure ⟨plainId_quiet F.plain_max_loop _,on v h' tk pv st' kp #[v,v] _ _ ⟨v,rfl,by rw [argBest,hx];exact pv⟩ (Heap.get?_update_self _ hs' rfl) (.inr ⟨_,rfl⟩)⟩
end
section
variable {prog:Program} {w:World} {A:Around} {E:Value->Shared->Prop} {s:Shared} {Q:Value->Shared->Prop}
noncomputable abbrev Seen (prog:Program) (w:World) (A:Around) (op:CmpOp) (Q:Value->Shared->Prop) (it:Value) (t:Shared):Prop:=
 ∃(I:Addr) (fp wr:List Addr) (n:Nat) (P:Nat->Value->Prop) (St:Nat->Heap->Prop) (bt:Nat->Nat->Bool),it=.ref I/\Walks prog w A I fp wr n P St/\St 0 t.heap/\(∀b∈fp,b<t.heap.objs.size)/\0<n/\
  (∃Gd:Shared->Prop,Gd t/\(∀s h' tk,Gd s->(∀b o,b∉wr->b<t.heap.objs.size->s.heap.get? b=some o->h'.get? b=some o)->Gd {s with heap:=h',toks:=tk})/\
   ∀i j vi vj s Q E,Gd s->P i vi->P j vj->Q (.bool (bt i j)) s->wpAny (model prog w) A (richCompare op vi vj) Q E s)/\
  ∀v h' tk,P (argBest bt (n-1)) v->(∀b o,b∉wr->t.heap.get? b=some o->h'.get? b=some o)->Q v {t with heap:=h',toks:=tk}
theorem begun (m:Bool) {it:Value} {t:Shared} {R:Result->Shared->Prop} (hR:∀v s,Q v s->R (.ok (.ret v)) s) (h:Seen prog w A.in1 (wdO m) Q it t) :
  codeAny (model prog w) A (.builtin (wdL m) ⟨[it,.none,.ref t.heap.objs.size],[]⟩) R {t with heap:=t.heap.push {cls:=.type "list",data:=.seq #[]}}:=by
 obtain ⟨I,fp,wr,n,P,St,bt,rfl,W,st,hfp,hn,⟨Gd,g,gk,gs⟩,q⟩:=h;have up:∀b o,t.heap.get? b=some o->(t.heap.push {cls:=.type "list",data:=.seq #[]}).get? b=some o:=fun b o e=>Heap.get?_push_of_some _ e
 refine turn m W (fun z=>Nat.lt_irrefl _ (hfp _ z)) ⟨gk,gs⟩ n 0 _ #[] _ (Nat.zero_add n) (W.frame _ _ _ st fun b _ o e=>up b o e) (gk t _ t.toks g fun b o _ _ e=>up b o e) ⟨rfl,hn⟩ (Heap.get?_push_size _ rfl) fun v h' tk hv kp=>?_
 exact hR _ _ (q v h' tk hv fun b o h1 e=>kp b o h1 (Nat.ne_of_lt (Heap.lt_size e)) (up b o e))
theorem rN {x:Value} (h:wpAny (model prog w) A.in1 (pyIter x) (Seen prog w A.in1 .Gt Q) E s):wpAny (model prog w) A (call (.builtin "max") [x]) Q E s:=by
 have nmx:(toString "max" ++ toString ".loop" : String) = "max.loop":=by decide
 refine call_function_tree F.kind_max F.plain_max F.entry_max (F.args_max1 _) ?_;refine wpAny_bind (m:=Builtin.Builtins.bindParams "max" ["key", "default"] 0 ⟨[],[]⟩) (wpAny_of_eq (a:=[none,none]) rfl ?_);refine wpAny_bind (wpAny_pure (wpAny_bind (wpAny_mono h (fun it t ht=>wpAny_bind (wpAny_newObj_type ?_)) fun _ _ e=>e)));rw [nmx];exact wpAny_pure ⟨plainId_quiet F.plain_max_loop _,begun true (fun _ _ q=>q) ht⟩
theorem uX {a b:Value} (h:wpAny (model prog w) A.in1 (pyIter (.ref s.heap.objs.size)) (Seen prog w A.in1 .Gt Q) E {s with heap:=s.heap.push {cls:=.type "tuple",data:=.seq #[a,b]}}):wpAny (model prog w) A (call (.builtin "max") [a,b]) Q E s:=by
 have nmx:(toString "max" ++ toString ".loop" : String) = "max.loop":=by decide
 refine call_function_tree F.kind_max F.plain_max F.entry_max (F.args_max2 _ _) ?_;refine wpAny_bind (m:=Builtin.Builtins.bindParams "max" ["key", "default"] 0 ⟨[],[]⟩) (wpAny_of_eq (a:=[none,none]) rfl ?_);refine wpAny_bind (m:=newTuple [a,b]) (wpAny_newObj_type (wpAny_bind (wpAny_mono h (fun it t ht=>wpAny_bind (wpAny_newObj_type ?_)) fun _ _ e=>e)));rw [nmx];exact wpAny_pure ⟨plainId_quiet F.plain_max_loop _,begun true (fun _ _ q=>q) ht⟩
end
end PySem.Mm
end
section
namespace Mi
open PySem L2 PySem.SeqAt PySem.Spec PyProof.Rows
variable [KFrag]
theorem rO (o:jD) (x:D) (xs:List D):∀k,k<=xs.length->(xs.take k).foldl (fun m y=>if (nG o y m).getD false then y else m) x=(x::xs).getD (argBest (btD o (x::xs)) k) .non
 | 0,_=>by simp [argBest]
 | k+1,h=>by
  have ih:=rO o x xs k (by lia);have hk:k<xs.length:=by lia
  rw [List.take_succ_eq_append_getElem hk,List.foldl_append,ih];have e:(x::xs).getD (k+1) .non=xs[k]:=by simp [hk]
  have hb:btD o (x::xs) (k+1) (argBest (btD o (x::xs)) k)=(nG o xs[k] ((x::xs).getD (argBest (btD o (x::xs)) k) .non)).getD false:=by unfold btD;rw [e]
  show (if (nG o xs[k] ((x::xs).getD (argBest (btD o (x::xs)) k) .non)).getD false then xs[k] else (x::xs).getD (argBest (btD o (x::xs)) k) .non)=(x::xs).getD (if btD o (x::xs) (k+1) (argBest (btD o (x::xs)) k) then k+1 else argBest (btD o (x::xs)) k) .non;rw [<-hb];cases btD o (x::xs) (k+1) (argBest (btD o (x::xs)) k) with
  | true=>rw [if_pos rfl,if_pos rfl,e]
  | false=>rw [if_neg (by simp),if_neg (by simp)]
section
variable {X:Cx} {pins:List (Addr×Obj)} {σ:L2.St} {H:Hp} {s:Shared}
noncomputable def Gds (s:Shared) (s':Shared):Prop:=∃h' tk,s'={s with heap:=h',toks:=tk}/\∀b o,s.heap.get? b=some o->h'.get? b=some o
theorem pZ (I:Inv X pins σ H s) (hu:X.A.units+20<cLine) {o:jD} {xs:List V} {ds:List D} {its:List Value} {d:D} (r:bH All H xs ds) (vr:Vals xs its) (h:lR o ds=.ok d) (i j:Nat) (vi vj:Value) (s':Shared) (Q:Value->Shared->Prop) (E:Value->Shared->Prop)
  (g:Gds s s') (hi:its.toArray[i]?=some vi) (hj:its.toArray[j]?=some vj) (q:Q (.bool (btD o ds i j)) s'):wpAny (model X.prog X.w) X.A.in1 (richCompare o.op vi vj) Q E s':=by
 obtain ⟨h',tk,rfl,hk⟩:=g;have I':Inv X pins σ H {s with heap:=h',toks:=tk}:=I.kept hk;have hi':its[i]?=some vi:=by simpa using hi
 have hj':its[j]?=some vj:=by simpa using hj
 have at_:∀{i:Nat} {v:Value},its[i]?=some v->∃d w,ds.getD i .non=d/\d∈ds/\RelV w v/\Rep All H w d:=by
  intro i v hv;have hlt:i<its.length:=(List.getElem?_eq_some_iff.mp hv).1;have hlt':i<ds.length:=by rw [<-r.length,vr.length];exact hlt
  obtain ⟨w,h1,h2⟩:=r.get (i:=i) (d:=ds[i]) (by simp [hlt']);obtain ⟨u,h3,h4⟩:=vr.get h1;rw [hv] at h3;cases h3;exact ⟨ds[i],w,by simp [hlt'],List.getElem_mem _,h4,h2⟩
 obtain ⟨d1,w1,e1,m1,v1,r1⟩:=at_ hi';obtain ⟨d2,w2,e2,m2,v2,r2⟩:=at_ hj';cases ds with
 | nil=>cases m1
 | cons x xs'=>
  simp only [lR] at h;split at h
  ·rename_i hall;have h1:=List.all_eq_true.mp hall d1 m1;have h2:=List.all_eq_true.mp hall d2 m2;rw [Bool.and_eq_true] at h1 h2;obtain ⟨k,hk⟩:=Option.isSome_iff_exists.mp (List.all_eq_true.mp h1.2 d2 m2);have:btD o (x::xs') i j=k:=by unfold btD;rw [e1,e2,hk];rfl
   rw [this] at q;exact FQ I' o aQ X.A.in1 (by show X.A.units+1+12<cLine;lia) h1.1 h2.1 r1 r2 v1 v2 hk X.prog X.w E Q q
  ·cases h
theorem uY {o:jD} {xs:List V} {ds:List D} {its:List Value} {d:D} (r:bH All H xs ds) (vr:Vals xs its) (h:lR o ds=.ok d) {v:Value} (hv:its.toArray[argBest (btD o ds) (its.length-1)]?=some v):∃w,RelV w v/\Rep All H w d:=by
 have hv':its[argBest (btD o ds) (its.length-1)]?=some v:=by simpa using hv
 cases ds with
 | nil=>cases h
 | cons x xs'=>
  simp only [lR] at h;split at h
  ·cases h;have hl:its.length-1=xs'.length:=by rw [<-vr.length,r.length];simp
   rw [hl] at hv';have fb:=rO o x xs' xs'.length (Nat.le_refl _);rw [List.take_length] at fb;have hlt:argBest (btD o (x::xs')) xs'.length<its.length:=(List.getElem?_eq_some_iff.mp hv').1;have hlt':argBest (btD o (x::xs')) xs'.length<(x::xs').length:=by rw [<-r.length,vr.length];exact hlt
   obtain ⟨w,h1,h2⟩:=r.get (i:=argBest (btD o (x::xs')) xs'.length) (d:=(x::xs')[argBest (btD o (x::xs')) xs'.length]) (by simp [hlt']);obtain ⟨u,h3,h4⟩:=vr.get h1;rw [hv'] at h3;cases h3;refine ⟨w,h4,?_⟩;rw [fb,List.getD_eq_getElem?_getD,List.getElem?_eq_getElem hlt'];exact h2
  ·cases h
theorem Gds.grow {s':Shared} {h1:Heap} {tk1:Nat} (g:Gds s s') {wq:List Addr} {n:Nat} (hw:∀b∈wq,s.heap.objs.size<=b) (hn:s.heap.objs.size<=n)
  (kk:∀b o,b∉wq->b<n->s'.heap.get? b=some o->h1.get? b=some o):Gds s {s' with heap:=h1,toks:=tk1}:=by
 obtain ⟨h',tk,rfl,hk⟩:=g;refine ⟨h1,tk1,rfl,fun b o e=>kk b o (fun hb=>?_) (Nat.lt_of_lt_of_le (Heap.lt_size e) hn) (hk b o e)⟩;exact absurd (Nat.lt_of_lt_of_le (Heap.lt_size e) (hw b hb)) (Nat.lt_irrefl _)
end
section
variable {X:Cx}
theorem wL {o:jD} {ds:List D} {d:D} (h:lR o ds=.ok d):0<ds.length:=by
 cases ds with
 | nil=>cases h
 | cons _ _=>simp
structure Mms (o:jD) (nm:String):Prop where
 walk:∀{prog:Program} {w:World} {A:Around} {Q:Value->Shared->Prop} {E:Value->Shared->Prop} {s:Shared} {x:Value},wpAny (model prog w) A.in1 (pyIter x) (Mm.Seen prog w A.in1 o.op Q) E s->wpAny (model prog w) A (call (.builtin nm) [x]) Q E s
 two:∀{prog:Program} {w:World} {A:Around} {Q:Value->Shared->Prop} {E:Value->Shared->Prop} {s:Shared} {a b:Value},wpAny (model prog w) A.in1 (pyIter (.ref s.heap.objs.size)) (Mm.Seen prog w A.in1 o.op Q) E {s with heap:=s.heap.push {cls:=.type "tuple",data:=.seq #[a,b]}}->wpAny (model prog w) A (call (.builtin nm) [a,b]) Q E s
theorem GJ {o:jD} {nm:String} (M:Mms o nm) (hu:X.A.units+20<cLine) (hc:X.calm=true) {pins:List (Addr×Obj)} {σ:L2.St} {H:Hp} {s:Shared} {l:Addr} {xs:List V} {ds:List D} {d:D} {Q:VK} (I:Inv X pins σ H s) (hl:SqL X.K H l xs) (r:bH All H xs ds) (h:lR o ds=.ok d) (q:kR H d false Q) :
  wpAny (model X.prog X.w) X.A (call (.builtin nm) [.ref l]) (EP X pins σ Q) X.xe s:=by
 obtain ⟨its,vr,pl⟩:=iU I hl;have hlt:l<s.heap.objs.size:=by obtain ⟨_,e,_⟩:=pl;exact Heap.lt_size e
 refine M.walk (wpAny_pyIter_list pl ?_);refine ⟨_,_,_,_,_,_,btD o ds,rfl,Walks.list (A:=X.A.in1) (I.ok.hd hc) _ l (Nat.ne_of_lt hlt) its.toArray,⟨⟨_,Heap.get?_push_size _ rfl,rfl,rfl⟩,pl.push _⟩,fun b hb=>?_,by rw [List.size_toArray,<-vr.length,r.length];exact wL h,⟨Gds s,⟨_,s.toks,rfl,fun b o e=>Heap.get?_push_of_some _ e⟩,fun s' h' tk g kk=>g.grow (wq:=[s.heap.objs.size]) (n:=s.heap.objs.size+1) (fun b hb=>?_) (Nat.le_succ _) fun b o h1 h2 e=>kk b o h1 (by show b<(s.heap.push _).objs.size;rw [Heap.size_push];exact h2) e,fun i j vi vj s' Q E g h1 h2 q=>pZ I hu r vr h i j vi vj s' Q E g h1 h2 q⟩,fun v h' tk hP hk=>?_⟩
 ·show b<(s.heap.push _).objs.size;rw [Heap.size_push];rcases List.mem_cons.mp hb with rfl|hb
  ·exact Nat.lt_succ_self _
  ·rcases List.mem_cons.mp hb with rfl|hb
   ·exact Nat.lt_succ_of_lt hlt
   ·cases hb
 ·rcases List.mem_cons.mp hb with rfl|hb
  ·exact Nat.le_refl _
  ·cases hb
 ·obtain ⟨w,v1,r1⟩:=uY r vr h (by simpa using hP);refine ⟨w,H,I.kept fun b o e=>hk b o (fun hb=>?_) (Heap.get?_push_of_some _ e),v1,q.self r1 fun z=>by cases z⟩;rcases List.mem_cons.mp hb with rfl|hb
  ·exact absurd (Heap.lt_size e) (Nat.lt_irrefl _)
  ·cases hb
theorem GK {o:jD} {nm:String} (M:Mms o nm) (hu:X.A.units+20<cLine) (hc:X.calm=true) {pins:List (Addr×Obj)} {σ:L2.St} {H:Hp} {s:Shared} {l:Addr} {xs:List V} {ds:List D} {d:D} {Q:VK} (I:Inv X pins σ H s) (hl:H l=some (.tup xs)) (r:bH All H xs ds) (h:lR o ds=.ok d) (q:kR H d false Q) :
  wpAny (model X.prog X.w) X.A (call (.builtin nm) [.ref l]) (EP X pins σ Q) X.xe s:=by
 obtain ⟨its,vr,pl⟩:=gK I hl;have hlt:l<s.heap.objs.size:=by obtain ⟨_,e,_⟩:=pl;exact Heap.lt_size e
 refine M.walk (wpAny_pyIter_tuple pl ?_);refine ⟨_,_,_,_,_,_,btD o ds,rfl,Walks.tuple (A:=X.A.in1) (I.ok.hd hc) _ l (Nat.ne_of_lt hlt) its.toArray,⟨⟨_,Heap.get?_push_size _ rfl,rfl,rfl⟩,pl.push _⟩,fun b hb=>?_,by rw [List.size_toArray,<-vr.length,r.length];exact wL h,⟨Gds s,⟨_,s.toks,rfl,fun b o e=>Heap.get?_push_of_some _ e⟩,fun s' h' tk g kk=>g.grow (wq:=[s.heap.objs.size]) (n:=s.heap.objs.size+1) (fun b hb=>?_) (Nat.le_succ _) fun b o h1 h2 e=>kk b o h1 (by show b<(s.heap.push _).objs.size;rw [Heap.size_push];exact h2) e,fun i j vi vj s' Q E g h1 h2 q=>pZ I hu r vr h i j vi vj s' Q E g h1 h2 q⟩,fun v h' tk hP hk=>?_⟩
 ·show b<(s.heap.push _).objs.size;rw [Heap.size_push];rcases List.mem_cons.mp hb with rfl|hb
  ·exact Nat.lt_succ_self _
  ·rcases List.mem_cons.mp hb with rfl|hb
   ·exact Nat.lt_succ_of_lt hlt
   ·cases hb
 ·rcases List.mem_cons.mp hb with rfl|hb
  ·exact Nat.le_refl _
  ·cases hb
 ·obtain ⟨w,v1,r1⟩:=uY r vr h (by simpa using hP);refine ⟨w,H,I.kept fun b o e=>hk b o (fun hb=>?_) (Heap.get?_push_of_some _ e),v1,q.self r1 fun z=>by cases z⟩;rcases List.mem_cons.mp hb with rfl|hb
  ·exact absurd (Heap.lt_size e) (Nat.lt_irrefl _)
  ·cases hb
theorem GP {o:jD} {nm:String} (M:Mms o nm) (hu:X.A.units+20<cLine) (hc:X.calm=true) {pins:List (Addr×Obj)} {σ:L2.St} {H:Hp} {s:Shared} {x y:V} {u w:Value} {a b d:D} {Q:VK} (I:Inv X pins σ H s) (rx:Rep All H x a) (ry:Rep All H y b) (ru:RelV x u) (rw':RelV y w) (h:lR o [a,b]=.ok d) (q:kR H d false Q) :
  wpAny (model X.prog X.w) X.A (call (.builtin nm) [u,w]) (EP X pins σ Q) X.xe s:=by
 have r:bH All H [x,y] [a,b]:=.cons rx (.cons ry .nil);have vr:Vals [x,y] [u,w]:=.cons ru (.cons rw' .nil);have pl:(s.heap.push {cls:=.type "tuple",data:=.seq #[u,w]}).IsTuple s.heap.objs.size [u,w].toArray:=⟨_,Heap.get?_push_size _ rfl,rfl,0,rfl⟩
 have hsz:(s.heap.push {cls:=.type "tuple",data:=.seq #[u,w]}).objs.size=s.heap.objs.size+1:=Heap.size_push ..;refine M.two (wpAny_pyIter_tuple pl ?_);refine ⟨_,_,_,_,_,_,btD o [a,b],rfl,Walks.tuple (A:=X.A.in1) (I.ok.hd hc) _ s.heap.objs.size (by rw [hsz];exact Nat.ne_of_lt (Nat.lt_succ_self _)) [u,w].toArray,⟨⟨_,Heap.get?_push_size _ rfl,rfl,rfl⟩,pl.push _⟩,fun b hb=>?_,by simp,⟨Gds s,⟨_,s.toks,rfl,fun b o e=>Heap.get?_push_of_some _ (Heap.get?_push_of_some _ e)⟩,fun s' h' tk g kk=>g.grow (wq:=[s.heap.objs.size+1]) (n:=s.heap.objs.size+2) (fun b hb=>?_) (by lia) fun b o h1 h2 e=>kk b o (by rw [hsz];exact h1) (by show b<((s.heap.push _).push _).objs.size;rw [Heap.size_push,hsz];exact h2) e,fun i j vi vj s' Q E g h1 h2 q=>pZ I hu r vr h i j vi vj s' Q E g h1 h2 q⟩,fun v h' tk hP hk=>?_⟩
 ·show b<((s.heap.push _).push _).objs.size;rw [Heap.size_push,hsz];rcases List.mem_cons.mp hb with rfl|hb
  ·rw [hsz];exact Nat.lt_succ_self _
  ·rcases List.mem_cons.mp hb with rfl|hb
   ·exact Nat.lt_succ_of_lt (Nat.lt_succ_self _)
   ·cases hb
 ·rcases List.mem_cons.mp hb with rfl|hb
  ·lia
  ·cases hb
 ·obtain ⟨w,v1,r1⟩:=uY r vr h (by simpa using hP);refine ⟨w,H,I.kept fun b o e=>hk b o (fun hb=>?_) (Heap.get?_push_of_some _ (Heap.get?_push_of_some _ e)),v1,q.self r1 fun z=>by cases z⟩;rcases List.mem_cons.mp hb with hb|hb
  ·have:=Heap.lt_size e;rw [hb,hsz] at this;exact absurd this (Nat.not_lt.mpr (Nat.le_succ _))
  ·cases hb
theorem aBa {o:jD} {nm:String} (M:Mms o nm) (hu:X.A.units+20<cLine) (hc:X.calm=true):lN X (.builtin nm) (rs (rG o) false):=by
 intro pins s σ H xs us Q I vr ⟨ds,d,r,e,k⟩;unfold rG at e;split at e
 ·cases r with
  | cons r t=>
   cases t;cases vr with
   | cons v vt=>
    cases vt;obtain ⟨l,ys,rfl,hl,rr⟩:=r.fH (K:=X.K);cases v;exact GJ M hu hc I hl rr e k
 ·cases r with
  | cons r t=>
   cases t;cases vr with
   | cons v vt=>
    cases vt;obtain ⟨l,ys,rfl,hl,rr⟩:=r.eV;cases v;exact GK M hu hc I hl rr e k
 ·cases r with
  | cons r t=>
   cases t with
   | cons r' t=>
    cases t;cases vr with
    | cons v vt=>
     cases vt with
     | cons v' vt=>
      cases vt;exact GP M hu hc I r r' v v' e k
 ·cases e
theorem X_ (hu:X.A.units+20<cLine) (hc:X.calm=true):lN X (.builtin "max") (rs (rG .gt) false):=aBa ⟨Mm.rN,Mm.uX⟩ hu hc
end
end Mi
end
section
namespace PySem.Mm
open PySem PyProof.Rows PySem.W
end PySem.Mm
end
section
namespace Mi
open PySem L2 PySem.SeqAt PySem.Spec PyProof.Rows
variable [KFrag]
section
variable {X:Cx} {a b c e:Expr} {es:List Expr} {pos p:Pos} {fa fb fc fe:FE} {ra rb rc re:Bool} {fs:FA} {rr:Bool} {x:Str} {id T:String}
theorem jY {P:Addr->Prop} {H:Hp} {xs:List V} {us:List Value} {d:D} (r:bH P H xs [d]) (vr:Vals xs us):∃v u,xs=[v]/\us=[u]/\Rep P H v d/\RelV v u:=by
 cases r with
 | cons r t=>
  cases t;cases vr with
  | cons v vt=>
   cases vt;exact ⟨_,_,rfl,rfl,r,v⟩
theorem wM {f:List D->Res D} {fr:Bool} {σ:L2.St} {H:Hp} {Q:VK} (h:gE (bD f fs) fr σ H Q):tCB (rs f fr) (gA fs rr) σ H Q:=by
 obtain ⟨ρ,d,E,h,q⟩:=h;obtain ⟨ds,h1,h2⟩:=aX h;exact ⟨ρ,ds,E,h1,fun vs H1 s1 r1 _=>⟨ds,d,r1,h2,q.imp s1 id⟩⟩
theorem cC {f:List D->Res D} {fr:Bool} (hc:lN X (.builtin id) (rs f fr)) (hg:Gl X x) (hm:X.mg x=none) (hv:bootBuiltins x=some (.builtin id)) (ha:PA X (e::es) (gA fs rr)) (hn:x ≠ "__name__":=by decide) (hdb:nDb x:=by decide)
  (he:starEach (e::es) X.env=(false,eval e X.env)::starEach es X.env:=by rfl) (hpl:(backTo pos (starEach es X.env)).any (·.1)=false:=by rfl):PE X (.Call (.Name x p) (e::es) [] pos) (gE (bD f fs) fr):=
 PE.imp (vX hc hg hm hv ha hn hdb he hpl) fun _ _ _=>wM
theorem c7 {f:List D->Res D} {fr:Bool} (hc:lN X (.type T) (rs f fr)) (hg:Gl X x) (hm:X.mg x=none) (hv:bootBuiltins x=some (.type T)) (ha:PA X (e::es) (gA fs rr)) (hn:x ≠ "__name__":=by decide) (hdb:nDb x:=by decide)
  (he:starEach (e::es) X.env=(false,eval e X.env)::starEach es X.env:=by rfl) (hpl:(backTo pos (starEach es X.env)).any (·.1)=false:=by rfl):PE X (.Call (.Name x p) (e::es) [] pos) (gE (bD f fs) fr):=
 PE.imp (CK hc hg hm hv ha hn hdb he hpl) fun _ _ _=>wM
theorem gM (hK:KFrag.K=X.K):lN X (.builtin "len") (rs jF true):=by
 intro pins s σ H xs us Q I vr ⟨ds,d,r,e,k⟩;unfold jF at e;split at e
 ·cases e;obtain ⟨vv,uu,rfl,rfl,r,v⟩:=jY r vr;obtain ⟨l,ys,rfl,hl,rr⟩:=r.eV;cases v;exact gJ pins s σ H [.ref l] [.ref l] Q I (.cons rfl .nil) ⟨l,ys,rfl,.inr (.of hl),by rw [rr.length];exact k.int⟩
 ·cases e;obtain ⟨vv,uu,rfl,rfl,r,v⟩:=jY r vr;obtain ⟨l,ys,rfl,hl,rr⟩:=r.fH (K:=X.K);cases v;exact gJ pins s σ H [.ref l] [.ref l] Q I (.cons rfl .nil) ⟨l,ys,rfl,.inl hl,by rw [rr.length];exact k.int⟩
 ·cases e;obtain ⟨vv,uu,rfl,rfl,r,v⟩:=jY r vr;cases r with
  | @frz l xs ds ee rr=>
   cases v;exact gJ pins s σ H [.ref l] [.ref l] Q I (.cons rfl .nil) ⟨l,xs,rfl,.inl (ee.sq hK),by rw [rr.length];exact k.int⟩
 ·cases e;obtain ⟨vv,uu,rfl,rfl,r,v⟩:=jY r vr;cases r with
  | cel ee pp rr=>
   cases v;exact gJ pins s σ H [.ref _] [.ref _] Q I (.cons rfl .nil) ⟨_,_,rfl,.inl (.inl (.inl ee)),by rw [rr.length];exact k.int⟩
 ·split at e
  ·rename_i hl;cases e;obtain ⟨vv,uu,rfl,rfl,r,v⟩:=jY r vr;cases r;exact rA pins s σ H _ _ Q I (.cons v .nil) ⟨_,rfl,iK hl,k.int⟩
  ·cases e
 ·cases e
theorem eE:lN X (.type "tuple") (rs dC false):=by
 intro pins s σ H xs us Q I vr ⟨ds,d,r,e,k⟩;unfold dC at e;split at e
 ·cases e;obtain ⟨vv,uu,rfl,rfl,r,v⟩:=jY r vr;obtain ⟨l,ys,rfl,hl',rr⟩:=r.eV;cases v;exact kO pins s σ H [.ref l] [.ref l] Q I (.cons rfl .nil) ⟨l,ys,rfl,.inr ⟨.of hl',k.self (.tup hl' rr) fun z=>by cases z⟩⟩
 ·cases e;obtain ⟨vv,uu,rfl,rfl,r,v⟩:=jY r vr;obtain ⟨l,ys,rfl,hl',rr⟩:=r.fH (K:=X.K);cases v;refine kO pins s σ H [.ref l] [.ref l] Q I (.cons rfl .nil) ⟨l,ys,rfl,.inl ⟨hl',fun p hp=>?_⟩⟩;have sp:cH H (upd H p (.tup ys)):=cH.upd hp;exact k _ _ sp (.tup aO (rr.same sp)) fun z=>by cases z
 ·cases e
theorem isi {pins:List (Addr×Obj)} {s:Shared} {σ:L2.St} {H:Hp} {v:V} {u:Value} {d:D} {t:Ty} {k:Bool} (I:Inv X pins σ H s) (r:Rep All H v d) (ru:RelV v u) (h:DW t d=.ok k) {Q:Value->Shared->Prop}
  (q:∀tk,Q (.bool k) {s with toks:=tk}):wpAny (model X.prog X.w) X.A (call (.builtin "isinstance") [u,.type t.nm]) Q X.xe s:=by
 have q0:Q (.bool k) s:=q s.toks;cases r with
 | non=>cases ru;cases t <;> simp only [DW] at h <;> cases h <;> first|exact IsiPair.NoneType_int (q _)|exact IsiPair.NoneType_str (q _)|exact IsiPair.NoneType_bool (q _)|exact IsiPair.NoneType_list (q _)|exact IsiPair.NoneType_tuple (q _)|exact IsiPair.NoneType_dict (q _)
 | bl b=>cases ru;cases t <;> simp only [DW] at h <;> cases h <;> first|exact IsiPair.bool_int q0|exact IsiPair.bool_str (q _)|exact IsiPair.bool_bool q0|exact IsiPair.bool_list (q _)|exact IsiPair.bool_tuple (q _)|exact IsiPair.bool_dict (q _)
 | int b=>obtain ⟨tt,rfl⟩:=ru;cases t <;> simp only [DW] at h <;> cases h <;> first|exact IsiPair.int_int q0|exact IsiPair.int_str (q _)|exact IsiPair.int_bool (q _)|exact IsiPair.int_list (q _)|exact IsiPair.int_tuple (q _)|exact IsiPair.int_dict (q _)
 | str b=>obtain ⟨tt,rfl⟩:=ru;cases t <;> simp only [DW] at h <;> cases h <;> first|exact IsiPair.str_int (q _)|exact IsiPair.str_str q0|exact IsiPair.str_bool (q _)|exact IsiPair.str_list (q _)|exact IsiPair.str_tuple (q _)|exact IsiPair.str_dict (q _)
 | tup e rr=>
  cases ru;obtain ⟨its,vr,o,ho,hc,_⟩:=gK I e;cases t <;> simp only [DW] at h <;> cases h <;> first|exact IsiPair.tuple_int ho hc (q _)|exact IsiPair.tuple_str ho hc (q _)|exact IsiPair.tuple_bool ho hc (q _)|exact IsiPair.tuple_list ho hc (q _)|exact IsiPair.tuple_tuple ho hc q0|exact IsiPair.tuple_dict ho hc (q _)
 | lst e p rr=>
  cases ru;obtain ⟨its,vr,o,ho,hc,_⟩:=iU I (.of e);cases t <;> simp only [DW] at h <;> cases h <;> first|exact IsiPair.list_int ho hc (q _)|exact IsiPair.list_str ho hc (q _)|exact IsiPair.list_bool ho hc (q _)|exact IsiPair.list_list ho hc q0|exact IsiPair.list_tuple ho hc (q _)|exact IsiPair.list_dict ho hc (q _)
 | frz e rr=>cases t <;> cases h
 | fdK e rr n=>cases t <;> cases h
 | fdT e rr n=>cases t <;> cases h
 | cel e p rr=>cases t <;> cases h
 | dK e p rr n=>
  cases ru;obtain ⟨_,_,_,_,o,_,_,ho,hx,_⟩:=R6 I.hok e;have hc:=hx.1;cases t <;> simp only [DW] at h <;> cases h <;> first|exact IsiPair.dict_int ho hc (q _)|exact IsiPair.dict_str ho hc (q _)|exact IsiPair.dict_bool ho hc (q _)|exact IsiPair.dict_list ho hc (q _)|exact IsiPair.dict_tuple ho hc (q _)|exact IsiPair.dict_dict ho hc q0
 | dT e p rr n=>
  cases ru;obtain ⟨_,_,_,_,o,_,_,ho,hx,_⟩:=R7 I.hok e;have hc:=hx.1;cases t <;> simp only [DW] at h <;> cases h <;> first|exact IsiPair.dict_int ho hc (q _)|exact IsiPair.dict_str ho hc (q _)|exact IsiPair.dict_bool ho hc (q _)|exact IsiPair.dict_list ho hc (q _)|exact IsiPair.dict_tuple ho hc (q _)|exact IsiPair.dict_dict ho hc q0
noncomputable def aCq (t:Ty):List V->Hp->VK->Prop:=fun xs H Q=>∃v d k,xs=[v,.ty t.nm]/\Rep All H v d/\DW t d=.ok k/\Q (.bl k) H
theorem YB (t:Ty):lN X (.builtin "isinstance") (aCq t):=by
 intro pins s σ H xs us Q I vr ⟨v,d,k,e,r,h,q⟩;subst e;cases vr with
 | cons rv vt=>
  cases vt with
  | cons rt vt=>
   cases vt;cases rt;exact isi I r rv h fun tk=>⟨.bl k,H,I.tok tk,rfl,q⟩
theorem GQ (t:Ty) {y:Str} {p2:Pos} (ha:PE X a (gE fa ra)) (hg:Gl X "isinstance") (hm:X.mg "isinstance" = none) (hv:bootBuiltins "isinstance" = some (.builtin "isinstance")) (gy:Gl X y) (my:X.mg y=none) (vy:bootBuiltins y=some (.type t.nm))
  (hy:y ≠ "__name__":=by decide) (hyd:(y==("__debug__" : Str))=false:=by decide)
  (he:starEach [a,.Name y p2] X.env=(false,eval a X.env)::starEach [.Name y p2] X.env:=by rfl) (he2:starEach [.Name y p2] X.env=(false,eval (.Name y p2) X.env)::starEach [] X.env:=by rfl)
  (hpl:(backTo pos (starEach [.Name y p2] X.env)).any (·.1)=false:=by rfl):PE X (.Call (.Name "isinstance" p) [a,.Name y p2] [] pos) (gE (b1 (uM t) fa) true):=
 PE.imp (vX (YB t) hg hm hv (gC ha (gC (RJ gy my vy (v:=.ty t.nm) rfl hy hyd) nR he2) he) (by decide) (by decide) he hpl) fun σ H Q ⟨ρ,d,E,h,q⟩=>by
  obtain ⟨x,h1,h⟩:=aX h;obtain ⟨k,h2,h⟩:=aX h;cases h;exact ⟨ρ,x,E,h1,fun v H1 s1 r1 _=>⟨v,x,k,rfl,r1,h2,(q.imp s1 id).bl⟩⟩
theorem S_ {o:Expr} {fo:FE} {ro fr:Bool} {name:Str} {apos cpos:Pos} {f:D->List D->Res D} (pa:PlainAttrs T) (slot:Slot T name id) (hty:typeOf (.builtin id)=pure (.type "method_descriptor")) (hm:MtR X id (rm f fr)) (ho:PE X o (gE fo ro)) (ha:PA X (e::es) (gA fs rr))
  (hT:∀(d:D) (ds:List D) (r:D) (v:V) (H:Hp),f d ds=.ok r->Rep All H v d->tyV X.K T v H)
  (hbase:attributeBase o name X.env (eval o X.env)=eval o X.env:=by rfl)
  (hfew:((backTo cpos (starEach (e::es) X.env)).all (fun x=>!x.1)&&(backToKw cpos (keywordEach [] X.env)).all (fun x=>x.1.isSome)
   && decide ((e::es).length+([]:List Keyword).length+(if ([]:List Keyword).isEmpty then 0 else 1)<30))=true:=by rfl)
  (hline:(apos.endLine==cpos.line)=true:=by rfl) (hs:starEach (e::es) X.env=(false,eval e X.env)::starEach es X.env:=by rfl) (hplain:(backTo cpos (starEach es X.env)).any (·.1)=false:=by rfl) :
  PE X (.Call (.Attribute o name apos) (e::es) [] cpos) (gE (bM f fo fs) fr):=
 PE.imp (R3 pa slot hty hm ho ha hbase hfew hline hs hplain) fun σ H Q ⟨ρ,d,E,h,q⟩=>by
  obtain ⟨x,h1,h⟩:=aX h;obtain ⟨ds,h2,h⟩:=aX h;exact ⟨ρ,x,E,h1,fun v H1 s1 r1 _=>⟨hT x ds d v H1 h r1,ρ,ds,E.same s1,h2,fun vs H2 s2 r2 _=>⟨x,ds,d,r1.same s2,r2,h,q.imp (s1.trans s2) fun z=>z⟩⟩⟩
noncomputable def spD (f:List D->Res D) (n:Nat):Sp:=fun vs H Q _=>∃ds d,ds.length=n/\bH All H vs ds/\f ds=.ok d/\kR H d true Q
theorem TF {f:List D->Res D} {n:Nat} {vs:List V} {H:Hp} {Q:VK} {E:XK} (h:spD f n vs H Q E):vs.length=n:=by
 obtain ⟨ds,d,h1,r,_⟩:=h;rw [r.length,h1]
theorem TJ {k:Nat} {fad:Addr} {fd:FuncData} {ps:List Str} {f:List D->Res D} {n:Nat} (F:vV X.prog X.w X.K X.mg X.base CX0 k fad fd ps (spD f n)) (hr:m8 k X.A) (hg:Gl X x) (hm:X.mg x=some (.ref fad)) (hk:PySem.W.keepIn X.K (.ref fad)=true) (hb:Binds X.K fd ps [])
  (ha:PA X (e::es) (gA fs rr)) (hdb:nDb x:=by decide) (he:starEach (e::es) X.env=(false,eval e X.env)::starEach es X.env:=by rfl) (hpl:(backTo pos (starEach es X.env)).any (·.1)=false:=by rfl) :
  PE X (.Call (.Name x p) (e::es) [] pos) (gE (bD (tZ n f) fs) true):=
 PE.imp (CG F hr hg hm hk hb .nil XH ha hdb he hpl) fun σ H Q ⟨ρ,d,E,h,q⟩=>by
  obtain ⟨ds,h1,h⟩:=aX h;unfold tZ at h;split at h
  ·rename_i hl;exact ⟨ρ,ds,E,h1,fun vs H1 s1 r1 _=>⟨ds,d,of_decide_eq_true hl,by rw [List.append_nil];exact r1,h,q.imp s1 id⟩⟩
  ·cases h
end
end Mi
end
section
namespace Mi
open PySem L2 PySem.SeqAt PySem.Spec PyProof.Rows
def rP (x:Str):List D:=x.cps.toList.map fun c=>D.str ⟨#[c]⟩
def GR (xs:List D):List D:=xs.zipIdx.map fun p=>.tup [.int p.2,p.1]
def aAi (xs ys:List D):List D:=(xs.zip ys).map fun p=>.tup [p.1,p.2]
noncomputable def MP (m:Nat) (xs:List D):List D:=xs.zipIdx.map fun p=>.tup [.int ((m+p.2:Nat):Int),p.1]
variable [KFrag]
noncomputable def aBb (x:Str):It:=⟨fun i _=>i<x.cps.size,fun i H v H'=>H'=H/\∃c,x.cps[i]?=some c/\v=.str ⟨#[c]⟩,fun i _=>x.cps.size<=i⟩
noncomputable def Ite (K:PySem.W.Frag) (a:Addr):It:=
 ⟨fun i H=>∃xs x,SqL K H a xs/\xs[i]?=some x,fun i H v H'=>∃t x,(∀xs,SqL K H a xs->xs[i]?=some x)/\v=.ref t/\H t=none/\H'=upd H t (.tup [.int i,x]),fun i H=>∃xs,SqL K H a xs/\xs.length<=i⟩
noncomputable def aCr (K:PySem.W.Frag) (m:Nat) (a:Addr):It:=
 ⟨fun i H=>∃xs x,SqL K H a xs/\xs[i]?=some x,fun i H v H'=>∃t x,(∀xs,SqL K H a xs->xs[i]?=some x)/\v=.ref t/\H t=none/\H'=upd H t (.tup [.int ((m+i:Nat):Int),x]),fun i H=>∃xs,SqL K H a xs/\xs.length<=i⟩
noncomputable def Itz (a b:Addr):It :=
  ⟨fun i H => ∃xs ys x y, H a=some (.tup xs) /\ H b=some (.tup ys) /\ xs[i]?=some x /\ ys[i]?=some y, fun i H v H' => ∃t x y, (∀xs, H a=some (.tup xs) -> xs[i]?=some x) /\ (∀ys, H b=some (.tup ys) -> ys[i]?=some y) /\ v=.ref t /\ H t=none /\ H'=upd H t (.tup [x, y]),
   fun i H => ∃xs ys, H a=some (.tup xs) /\ H b=some (.tup ys) /\ ys.length=xs.length /\ xs.length <= i⟩
theorem MT {m:Nat} {xs:List D} {i:Nat}:(MP m xs)[i]?=(xs[i]?).map fun d=>.tup [.int ((m+i:Nat):Int),d]:=by
 unfold MP;rw [List.getElem?_map,List.getElem?_zipIdx,Nat.zero_add];cases xs[i]? <;> rfl
theorem M3 {xs:List D} {i:Nat}:(GR xs)[i]?=(xs[i]?).map fun d=>.tup [.int i,d]:=by
 unfold GR;rw [List.getElem?_map,List.getElem?_zipIdx,Nat.zero_add];cases xs[i]? <;> rfl
theorem GX (xs:List D):(GR xs).length=xs.length:=by simp [GR]
inductive ItQ (K:PySem.W.Frag) (P:Addr->Prop) (J:It) (H:Hp) (items:List D):Prop
 | lst (a:Addr) (e:J=Itl K a) (r:Rep P H (.ref a) (.lst items))
 | tup (a:Addr) (e:J=Itt K a) (r:Rep P H (.ref a) (.tup items))
 | rng (lo:Int) (n:Nat) (e:J=Itr lo n) (r:items=(List.range n).map fun (k:Nat)=>D.int (lo+k))
 | chs (x:Str) (e:J=aBb x) (r:items=rP x)
 | enm (a:Addr) (ds:List D) (e:J=Ite K a) (r:Rep P H (.ref a) (.lst ds)) (h:items=GR ds)
 | enf (m:Nat) (a:Addr) (ds:List D) (e:J=aCr K m a) (r:Rep P H (.ref a) (.lst ds)) (h:items=MP m ds)
 | scr (a:Addr) (hK:KFrag.K=K) (e:J=Itl K a) (r:Rep P H (.ref a) (.scr items))
 | zip (a b:Addr) (ds es:List D) (e:J=Itz a b) (r:Rep P H (.ref a) (.tup ds)) (q:Rep P H (.ref b) (.tup es)) (n:es.length=ds.length) (h:items=aAi ds es)
theorem ItQ.keep {K:PySem.W.Frag} {P P':Addr->Prop} {J:It} {H H':Hp} {items:List D} (h:ItQ K P J H items) (k:MF P H H') (m:∀a,P a->P' a):ItQ K P' J H' items:=by
 cases h with
 | lst a e r=>exact .lst a e (r.keep k m)
 | tup a e r=>exact .tup a e (r.keep k m)
 | rng lo n e r=>exact .rng lo n e r
 | chs x e r=>exact .chs x e r
 | enm a ds e r h=>exact .enm a ds e (r.keep k m) h
 | enf m' a ds e r h=>exact .enf m' a ds e (r.keep k m) h
 | zip a b ds es e r q n h=>exact .zip a b ds es e (r.keep k m) (q.keep k m) n h
 | scr a hK e r=>exact .scr a hK e (r.keep k m)
theorem ItQ.stop {K:PySem.W.Frag} {P:Addr->Prop} {J:It} {H:Hp} {items:List D} {i:Nat} (h:ItQ K P J H items) (hi:items.length<=i):J.stop i H:=by
 cases h with
 | lst a e r=>
  subst e;obtain ⟨a',xs,e,hq,rr⟩:=r.fH (K:=K);cases e;exact ⟨xs,hq,by rw [rr.length];exact hi⟩
 | tup a e r=>
  subst e;obtain ⟨a',xs,e,hq,rr⟩:=r.eV;cases e;exact ⟨xs,.of hq,by rw [rr.length];exact hi⟩
 | rng lo n e r=>
  subst e r;show n<=i;simpa using hi
 | chs x e r=>
  subst e r;show x.cps.size<=i;simpa [rP] using hi
 | enm a ds e r h=>
  subst e h;obtain ⟨a',xs,e,hq,rr⟩:=r.fH (K:=K);cases e;exact ⟨xs,hq,by rw [rr.length,<-GX];exact hi⟩
 | enf m a ds e r h=>
  subst e h;obtain ⟨a',xs,e,hq,rr⟩:=r.fH (K:=K);cases e;exact ⟨xs,hq,by rw [rr.length];simpa [MP] using hi⟩
 | zip a b ds es e r q n h=>
  subst e h;obtain ⟨a',xs,e,hq,rr⟩:=r.eV;cases e;obtain ⟨b',ys,e,hq2,rr2⟩:=q.eV;cases e;have:(aAi ds es).length=ds.length:=by simp [aAi,n]
  exact ⟨xs,ys,hq,hq2,by rw [rr.length,rr2.length];exact n,by rw [rr.length];lia⟩
 | scr a hK e r=>
  subst e;cases r with
  | frz ee rr=>exact ⟨_,ee.sq hK,by rw [rr.length];exact hi⟩
theorem ItQ.go {K:PySem.W.Frag} {P:Addr->Prop} {J:It} {H:Hp} {items:List D} {i:Nat} {d:D} (h:ItQ K P J H items) (hi:items[i]?=some d):J.go i H/\∀x H',J.yld i H x H'->cH H H'/\Rep P H' x d:=by
 cases h with
 | lst a e r=>
  subst e;obtain ⟨a',xs,e,hq,rr⟩:=r.fH (K:=K);cases e;obtain ⟨v,h1,h2⟩:=rr.get hi;refine ⟨⟨xs,v,hq,h1⟩,fun x H' ⟨e,hy⟩=>?_⟩;subst e;refine ⟨cH.refl _,?_⟩;have:=hy xs hq;rw [h1] at this;cases this;exact h2
 | tup a e r=>
  subst e;obtain ⟨a',xs,e,hq,rr⟩:=r.eV;cases e;obtain ⟨v,h1,h2⟩:=rr.get hi;refine ⟨⟨xs,v,.of hq,h1⟩,fun x H' ⟨e,hy⟩=>?_⟩;subst e;refine ⟨cH.refl _,?_⟩;have:=hy xs (.of hq);rw [h1] at this;cases this;exact h2
 | rng lo n e r=>
  subst e r;have hlt:i<n:=by
   have:=(List.getElem?_eq_some_iff.mp hi).1;simpa using this
  refine ⟨hlt,fun x H' ⟨e,hy⟩=>?_⟩;subst e;have e2:D.int (lo+(i:Int))=d:=by simpa [hlt] using hi
  rw [hy,<-e2];exact ⟨cH.refl _,.int _⟩
 | chs z e r=>
  subst e r;have hlt:i<z.cps.size:=by
   have:=(List.getElem?_eq_some_iff.mp hi).1;simpa [rP] using this
  refine ⟨hlt,fun x H' ⟨e,c,hc,hv⟩=>?_⟩;subst e hv;refine ⟨cH.refl _,?_⟩;have e2:D.str ⟨#[c]⟩=d:=by
   unfold rP at hi;rw [List.getElem?_map,Array.getElem?_toList,hc] at hi;simpa using hi
  rw [<-e2];exact .str _
 | enm a ds e r h=>
  subst e h;obtain ⟨a',xs,e,hq,rr⟩:=r.fH (K:=K);cases e;rw [M3] at hi;cases hd:ds[i]? with
  | none=>rw [hd] at hi;cases hi
  | some y=>
   rw [hd] at hi;cases hi;obtain ⟨v,h1,h2⟩:=rr.get hd;refine ⟨⟨xs,v,hq,h1⟩,fun x H' ⟨t,u,hy,e1,e2,e3⟩=>?_⟩;subst e1 e3;have:=hy xs hq;rw [h1] at this;cases this;have sp:cH H (upd H t (.tup [.int i,v])):=cH.upd e2;exact ⟨sp,.tup aO (.cons (.int _) (.cons (h2.same sp) .nil))⟩
 | enf m a ds e r h=>
  subst e h;obtain ⟨a',xs,e,hq,rr⟩:=r.fH (K:=K);cases e;rw [MT] at hi;obtain ⟨y,hd,rfl⟩:=Option.map_eq_some_iff.mp hi;obtain ⟨v,h1,h2⟩:=rr.get hd;refine ⟨⟨xs,v,hq,h1⟩,fun x H' ⟨t,u,hy,e1,e2,e3⟩=>?_⟩;subst e1 e3;have:=hy xs hq;rw [h1] at this;cases this;have sp:cH H (upd H t (.tup [.int ((m+i:Nat):Int),v])):=cH.upd e2;exact ⟨sp,.tup aO (.cons (.int _) (.cons (h2.same sp) .nil))⟩
 | zip a b ds es e r q n h=>
  subst e h;obtain ⟨a',xs,e,hq,rr⟩:=r.eV;cases e;obtain ⟨b',ys,e,hq2,rr2⟩:=q.eV;cases e;unfold aAi at hi;rw [List.getElem?_map] at hi;obtain ⟨⟨x,y⟩,hd,rfl⟩:=Option.map_eq_some_iff.mp hi;rw [List.getElem?_zip_eq_some] at hd;obtain ⟨v,h1,h2⟩:=rr.get hd.1;obtain ⟨v',h3,h4⟩:=rr2.get hd.2;refine ⟨⟨xs,ys,v,v',hq,hq2,h1,h3⟩,fun x H' ⟨t,u,u',hy,hy',e1,e2,e3⟩=>?_⟩;subst e1 e3;have z:=hy xs hq;rw [h1] at z;cases z;have z:=hy' ys hq2;rw [h3] at z;cases z;have sp:cH H (upd H t (.tup [v,v'])):=cH.upd e2;exact ⟨sp,.tup aO (.cons (h2.same sp) (.cons (h4.same sp) .nil))⟩
 | scr a hK e r=>
  subst e;cases r with
  | @frz _ xs _ ee rr=>
   obtain ⟨v,h1,h2⟩:=rr.get hi;refine ⟨⟨xs,v,ee.sq hK,h1⟩,fun x H' ⟨e,hy⟩=>?_⟩;subst e;refine ⟨cH.refl _,?_⟩;have:=hy xs (ee.sq hK);rw [h1] at this;cases this;exact h2
noncomputable def gI (K:PySem.W.Frag) (f:FI):TI:=fun σ H R=>∃ρ items k,ER H σ ρ/\f ρ=.ok (items,k)/\∀J H1,cH H H1->ItQ K All J H1 items->(k=true->ItQ K (New H) J H1 items)->R J H1
noncomputable def gIV (K:PySem.W.Frag) (i:Nat):TI:=fun σ H R=>∃v d items,σ[i]?=some (some v)/\Rep All H v d/\n6 d=.ok items/\∀J,(∀P:Addr->Prop,Rep P H v d->ItQ K P J H items)->R J H
section
variable {X:Cx} {tg l a b:Expr} {fl fa:FE} {rl ra rr:Bool} {fs:FA} {p pos:Pos}
theorem wN {pins:List (Addr×Obj)} {s1:Shared} {σ:L2.St} {H1:Hp} {R:It->Hp->Prop} {v:V} {u:Value} {d:D} {items:List D} (I1:Inv X pins σ H1 s1) (r:Rep All H1 v d) (ru:RelV v u) (hi:n6 d=.ok items)
  (q:∀J,(∀P:Addr->Prop,Rep P H1 v d->ItQ X.K P J H1 items)->R J H1):wpAny (model X.prog X.w) X.A (pyIter u) (PIE X pins σ tg R) X.xe s1:=by
 cases d <;> simp only [n6] at hi <;> cases hi
 ·obtain ⟨a,xs,rfl,e,rr⟩:=r.eV;cases ru;obtain ⟨its,rv,p,hz⟩:=I1.tuple (.of e);refine wpAny_pyIter_tuple (show s1.heap.IsTuple a its.toArray from p) ?_;refine ⟨s1.heap.objs.size,[s1.heap.objs.size],_,_,H1,rfl,I1.kept (t':=s1.toks) fun b o e=>Heap.get?_push_of_some _ e,yJ a _,⟨_,Heap.get?_push_size _ rfl,rfl,rfl⟩,fun b hb=>?_,q _ fun P r=>.tup a rfl r⟩;have e:b=s1.heap.objs.size:=by simpa using hb
  subst e;exact I1.aAb (Nat.le_refl _) (I1.hok.fresh (Nat.le_refl _))
 ·obtain ⟨a,xs,rfl,e,rr⟩:=r.fH (K:=X.K);cases ru;obtain ⟨its,rv,p,hz⟩:=I1.list e;refine wpAny_pyIter_list p.isList ?_;refine ⟨s1.heap.objs.size,[s1.heap.objs.size],_,_,H1,rfl,I1.kept (t':=s1.toks) fun b o e=>Heap.get?_push_of_some _ e,BR a _,⟨_,Heap.get?_push_size _ rfl,rfl,rfl⟩,fun b hb=>?_,q _ fun P r=>.lst a rfl r⟩;have e:b=s1.heap.objs.size:=by simpa using hb
  subst e;exact I1.aAb (Nat.le_refl _) (I1.hok.fresh (Nat.le_refl _))
theorem YC {i:Nat} {x:Str} (hN:X.N[i]?=some x) (hv:Vis X.env.scope x) (hd:nDb x:=by decide) (hcd:nCd x:=by decide):PI X tg (.Name x pos) (gIV X.K i):=by
 intro pins s σ H R I ⟨v,d,items,hσ,r,hi,q⟩;exact thn (gB hN hv hd hcd pins s σ H (fun w H1=>w=v/\H1=H) I ⟨v,hσ,rfl,rfl⟩) fun u s1 ⟨w,H1,I1,ru,e1,e2⟩=>by
  subst e1 e2;exact wN I1 r ru hi q
theorem pH {i:Int} (h:j7 i=true):-(2 ^ 62)<=i/\i<2 ^ 62:=by
 simp only [j7,Bool.and_eq_true,decide_eq_true_eq] at h;exact h
theorem PI.imp {w w':TI} (h:PI X tg l w) (i:∀σ H R,w' σ H R->w σ H R):PI X tg l w':=fun pins s σ H R I q=>h pins s σ H R I (i σ H R q)
theorem j9 (hg:Gl X "range") (hm:X.mg "range" = none) (ha:PA X [a] (gA fs rr)) (hs:starEach [a] X.env=[(false,eval a X.env)]:=by rfl):PI X tg (.Call (.Name "range" p) [a] [] pos) (gI X.K (iW fs gH)):=
 PI.imp (qU hg hm ha hs) fun σ H R ⟨ρ,items,k,E,h,q⟩=>by
  obtain ⟨xs,h1,h⟩:=aX h;unfold gH at h;split at h
  ·split at h
   ·rename_i hb;cases h;obtain ⟨b1,b2⟩:=pH hb;refine ⟨ρ,_,E,h1,fun vs H1 s1 r1 _=>?_⟩;cases r1 with
    | cons r t=>
     cases t;cases r;exact ⟨_,rfl,b1,b2,q _ H1 s1 (.rng 0 _ rfl rfl) fun _=>.rng 0 _ rfl rfl⟩
   ·cases h
  ·cases h
end
theorem M4 (n:Nat) (ρ bs:List D) (i:Nat) (h:i<n):(v6 n ρ++bs).getD i .uD=ρ.getD i .uD:=by
 rw [List.getD_eq_getElem?_getD,List.getElem?_append_left (by simp [v6];exact h)];simp [v6,h]
theorem wO (n:Nat) (ρ:List D):(v6 n ρ).length=n:=by simp [v6]
noncomputable def TgC (g:TG) (t:D->Res (List D)) (n m:Nat):Prop:=∀(v:V) (d:D) (bs:List D) (σ:L2.St) (H:Hp) (Q:L2.St->Hp->Prop),σ.length=n->Rep All H v d->t d=.ok bs->
 (∀σ2,Ext (σ++List.replicate m none) σ2->(∀j b,bs[j]?=some b->∃w,σ2[n+j]?=some (some w)/\Rep All H w b)->Q σ2 H)->g v (σ++List.replicate m none) H Q
theorem ER.ext {H:Hp} {σ σ2:L2.St} {ρ bs:List D} {n m:Nat} (E:ER H σ ρ) (hn:σ.length=n) (x:Ext (σ++List.replicate m none) σ2) (hb:∀j b,bs[j]?=some b->∃w,σ2[n+j]?=some (some w)/\Rep All H w b):ER H σ2 (v6 n ρ++bs):=by
 intro i hi;by_cases h:i<n
 ·rw [M4 n ρ bs i h] at hi ⊢;obtain ⟨v,h1,h2⟩:=E i hi;exact ⟨v,x.2 i v (by rw [List.getElem?_append_left (by rw [hn];exact h)];exact h1),h2⟩
 ·have e:(v6 n ρ++bs).getD i .uD=bs.getD (i-n) .uD:=by
   rw [List.getD_eq_getElem?_getD,List.getElem?_append_right (by rw [wO];lia),wO,<-List.getD_eq_getElem?_getD]
  rw [e] at hi ⊢;cases hq:bs[i-n]? with
  | none=>rw [List.getD_eq_getElem?_getD,hq] at hi;exact absurd rfl hi
  | some b=>
   obtain ⟨w,h1,h2⟩:=hb (i-n) b hq;rw [List.getD_eq_getElem?_getD,hq];exact ⟨w,by rw [<-h1];congr 1;lia,h2⟩
theorem lC {K:PySem.W.Frag} {it:FI} {t:D->Res (List D)} {c:FT} {f:FE} {k:Bool} {n m:Nat} {g:TG} {tc:TT} (tg:TgC g t n m) (hc:∀σ H Q,gT c σ H Q->tc σ H Q) {σ:L2.St} {H:Hp} {Q:VK} (hn:σ.length=n) (h:gE (cG n it t c f k) true σ H Q) :
  uT (gI K it) g tc (gE f k) m σ H Q:=by
 obtain ⟨ρ,d,E,h,q⟩:=h;obtain ⟨⟨items,kk⟩,h1,h⟩:=aX h;split at h
 ·rename_i hlim;obtain ⟨ys,h2,h⟩:=aX h;cases h;refine ⟨ρ,items,kk,E,h1,fun J H1 s1 hJ _ p hp=>?_⟩;have hp0:H p=none:=s1.free hp;refine ⟨fun i n' vs H'=>n'=items.length-i/\i<=items.length/\H' p=some (.lst vs)/\cH H1 H'/\∃acc,acc.length<=i/\bH (fun a=>H a=none/\a≠p) H' vs acc/\nD (uN n t c f k ρ) acc (items.drop i)=.ok ys,⟨items.length,?_⟩,?_⟩
  ·exact ⟨rfl,Nat.zero_le _,aO,cH.upd hp,[],Nat.zero_le _,.nil,h2⟩
  ·rintro i n' vs H' ⟨rfl,hi,hH,sm,acc,hal,racc,hf⟩;refine ⟨hH,?_⟩;have hJ':ItQ K All J H' items:=hJ.keep (.same sm) fun _ z=>z
   rcases Nat.lt_or_ge i items.length with hlt|hge
   ·refine .inr ?_;have e:items[i]?=some items[i]:=List.getElem?_eq_getElem hlt;obtain ⟨g1,g2⟩:=hJ'.go e;have hl1:items.length<=lim:=of_decide_eq_true hlim;refine ⟨g1,?_,fun x H2 hy=>?_⟩
    ·rw [racc.length];exact Nat.lt_of_le_of_lt hal (Nat.lt_of_lt_of_le hlt (Nat.le_trans hl1 (by rw [sizeLine_eq];decide)))
    ·obtain ⟨sH,rx⟩:=g2 x H2 hy;have hH:=sH p _ hH;have sm:=sm.trans sH;have racc:=racc.same sH;rw [List.drop_eq_getElem_cons hlt] at hf;obtain ⟨acc2,hs,hf⟩:=aX hf;obtain ⟨bs,hb,hs⟩:=aX hs;obtain ⟨ok,hok,hs⟩:=aX hs;refine tg x items[i] bs σ H2 _ hn rx hb fun σ2 hx hbs=>⟨hx,hc _ _ _ ?_⟩
     have E2:ER H2 σ2 (v6 n ρ++bs):=(E.same (s1.trans sm)).ext hn hx hbs;refine ⟨_,ok,E2,hok,fun H4 s4=>?_⟩;cases ok with
     | true=>
      rw [if_pos rfl];rw [if_pos rfl] at hs;obtain ⟨y,hy2,hs⟩:=aX hs;split at hs
      ·rename_i hk;cases hs;refine ⟨_,y,E2.same s4,hy2,fun w H5 s5 r5 n5=>⟨s5 p _ (s4 p _ hH),items.length-(i+1),by lia,rfl,hlt,aO,?_,acc++[y],?_,?_,hf⟩⟩
       ·exact fun b o e=>by
         rw [bT (eQ e hp)];exact s5 b o (s4 b o (sm b o e))
       ·rw [List.length_append,List.length_singleton];lia
       ·have hp5:H5 p=some (.lst vs):=s5 p _ (s4 p _ hH);have ry:Rep (fun a=>H a=none/\a≠p) H5 w y:=by
         rw [Bool.or_eq_true] at hk;rcases hk with hk|hk
         ·exact (n5 hk).mono fun a ha=>⟨((s1.trans sm).trans s4).free ha,fun z=>by subst z;have h0:=s4 _ _ hH;rw [show H4 _=none from ha] at h0;cases h0⟩
         ·exact r5.bI hk
        have all:bH (fun a=>H a=none/\a≠p) H5 (vs++[w]) (acc++[y]):=(racc.same (s4.trans s5)).snoc ry;refine all.keep (fun b o e hb=>?_) fun _ z=>z
        rw [bT]
        ·exact e
        ·rcases hb with hb|hb
         ·exact hb.2
         ·intro z;subst z;rw [hp5] at e;cases e;cases hb
      ·cases hs
     | false=>
      rw [if_neg (by simp)];rw [if_neg (by simp)] at hs;cases hs;exact ⟨items.length-(i+1),by lia,rfl,hlt,s4 p _ hH,sm.trans s4,acc,by lia,racc.same s4,hf⟩
   ·refine .inl ⟨hJ'.stop hge,?_⟩;rw [List.drop_eq_nil_of_le hge] at hf;cases hf;exact q _ _ (s1.trans sm) (.lst hH trivial racc.all) fun _=>.lst hH hp0 (racc.mono fun a z=>z.1)
 ·cases h
noncomputable def gIx:List Nat->TGs
 | []=>aBt
 | i::is=>WM (nO i) (gIx is)
noncomputable def yZ:List Nat->List V->L2.St->L2.St
 | i::is,v::vs,σ=>yZ is vs (σ.set i (some v))
 | _,_,σ=>σ
theorem uZ {H:Hp} {Q:L2.St->Hp->Prop}:∀(is:List Nat) (vs:List V) (σ:L2.St),vs.length=is.length->Q (yZ is vs σ) H->gIx is vs σ H Q
 | [],[],σ,_,q=>⟨rfl,q⟩
 | i::is,v::vs,σ,h,q=>⟨v,vs,rfl,uZ is vs (σ.set i (some v)) (by simpa using h) q⟩
 | [],_::_,_,h,_=>by simp at h
 | _::_,[],_,h,_=>by simp at h
theorem dJ (n:Nat):TgC (nO n) i_ n 1:=by
 intro v d bs σ H Q hn r h q;cases h;have hl:(σ++List.replicate 1 (none:Option V)).length=n+1:=by simp [hn]
 refine q _ ⟨by simp,fun i w hi=>?_⟩ fun j b hj=>?_
 ·have:i≠n:=fun z=>by
   subst z;rw [List.getElem?_append_right (by lia)] at hi;simp [hn] at hi
  rw [List.getElem?_set_ne (Ne.symm this)];exact hi
 ·have e:j=0:=by
   have:=(List.getElem?_eq_some_iff.mp hj).1;simp at this;exact this
  subst e;have e:d=b:=by simpa using hj
  subst e;exact ⟨v,by rw [Nat.add_zero,List.getElem?_set_self (by lia)],r⟩
section
variable {X:Cx} {scope:Scope} {ownN:List Str} {elt iter tg c:Expr} {it:FI} {t:D->Res (List D)} {g:TG} {gc:FT} {fe:FE} {re:Bool} {pos:Pos}
theorem TQ {n m:Nat} (S:b_ X.N X.env.scope scope ownN) (hn:X.N.length=n) (hm:ownN.length=m) (hcalm:X.calm=true) (hi:PI X tg iter (gI X.K it)) (ht:TgC g t n m) (hg:∀X',cA X X' scope ownN->PG X' tg g) (he:∀X',cA X X' scope ownN->PE X' elt (gE fe re))
  (hs:∀x,foldedSetIterable iter X.env x=pure x):PE X (.ListComp elt [⟨tg,iter,[],0⟩] scope pos) (gE (cG n it t fG fe re) true):=by
 intro pins s σ H Q I h;subst hm;exact MJ S hcalm hi hg he hs pins s σ H Q I (lC ht (fun σ H Q h=>by obtain ⟨ρ,b,E,h,q⟩:=h;cases h;exact q H (cH.refl H)) (I.len.trans hn) h)
theorem GZ {n m:Nat} (S:b_ X.N X.env.scope scope ownN) (hn:X.N.length=n) (hm:ownN.length=m) (hcalm:X.calm=true) (hi:PI X tg iter (gI X.K it)) (ht:TgC g t n m) (hg:∀X',cA X X' scope ownN->PG X' tg g) (hc:∀X',cA X X' scope ownN->PT X' c (gT gc)) (he:∀X',cA X X' scope ownN->PE X' elt (gE fe re))
  (hs:∀x,foldedSetIterable iter X.env x=pure x):PE X (.ListComp elt [⟨tg,iter,[c],0⟩] scope pos) (gE (cG n it t gc fe re) true):=by
 intro pins s σ H Q I h;subst hm;exact FP S hcalm hi hg hc he hs pins s σ H Q I (lC ht (fun σ H Q h=>h) (I.len.trans hn) h)
end
end Mi
end
section
namespace Mi
open PySem L2 PySem.SeqAt PySem.Spec PyProof.Rows
variable [KFrag]
mutual
theorem Rep.dom {P:Addr->Prop} {H:Hp}:∀{v:V} {d:D},Rep P H v d->Rep (fun a=>P a/\H a≠none) H v d
 | _,_,.non=>.non
 | _,_,.bl b=>.bl b
 | _,_,.int i=>.int i
 | _,_,.str x=>.str x
 | _,_,.tup e r=>.tup e (bH.dom r)
 | _,_,.lst e p r=>.lst e ⟨p,by rw [e];simp⟩ (bH.dom r)
 | _,_,.cel e p r=>.cel e ⟨p,by rw [e];simp⟩ (bH.dom r)
 | _,_,.frz e r=>.frz e (bH.dom r)
 | _,_,.dK e p r n=>.dK e ⟨p,by rw [e];simp⟩ (jG.dom r) n
 | _,_,.dT e p r n=>.dT e ⟨p,by rw [e];simp⟩ (lX.dom r) n
 | _,_,.fdK e r n=>.fdK e (jG.dom r) n
 | _,_,.fdT e r n=>.fdT e (lX.dom r) n
theorem bH.dom {P:Addr->Prop} {H:Hp}:∀{v:List V} {d:List D},bH P H v d->bH (fun a=>P a/\H a≠none) H v d
 | _,_,.nil=>.nil
 | _,_,.cons r t=>.cons (Rep.dom r) (bH.dom t)
theorem jG.dom {P:Addr->Prop} {H:Hp}:∀{v:List (Key×V)} {d:List (D×D)},jG P H v d->jG (fun a=>P a/\H a≠none) H v d
 | _,_,.nil=>.nil
 | _,_,.cons r t=>.cons (Rep.dom r) (jG.dom t)
theorem lX.dom {P:Addr->Prop} {H:Hp}:∀{v:List (List Key×V)} {d:List (D×D)},lX P H v d->lX (fun a=>P a/\H a≠none) H v d
 | _,_,.nil=>.nil
 | _,_,.cons r t=>.cons (Rep.dom r) (lX.dom t)
end
theorem jG.bI {P P':Addr->Prop} {H:Hp}:∀{v:List (Key×V)} {d:List (D×D)},jG P H v d->D.aU (d.map (·.2))=true->jG P' H v d
 | _,_,.nil,_=>.nil
 | _,_,.cons r t,h=>by
  rw [List.map_cons,D.aU,Bool.and_eq_true] at h;exact .cons (r.bI h.1) (t.bI h.2)
theorem lX.bI {P P':Addr->Prop} {H:Hp}:∀{v:List (List Key×V)} {d:List (D×D)},lX P H v d->D.aU (d.map (·.2))=true->lX P' H v d
 | _,_,.nil,_=>.nil
 | _,_,.cons r t,h=>by
  rw [List.map_cons,D.aU,Bool.and_eq_true] at h;exact .cons (r.bI h.1) (t.bI h.2)
theorem Rep.oF {P P':Addr->Prop} {H:Hp} {a:Addr} {d:D} (r:Rep P H (.ref a) d) (h:inner d=true) (hp:P' a):Rep P' H (.ref a) d:=by
 cases r with
 | tup e r=>cases h
 | lst e p r=>exact .lst e hp (r.bI h)
 | cel e p r=>exact .cel e hp (r.bI h)
 | frz e r=>cases h
 | dK e p r n=>exact .dK e hp (r.bI h) n
 | dT e p r n=>exact .dT e hp (r.bI h) n
 | fdK e r n=>cases h
 | fdT e r n=>cases h
noncomputable def Own (own:Nat->Bool) (σ:L2.St) (a:Addr):Prop:=∃i,own i=true/\σ[i]?=some (some (.ref a))
structure ES (own:Nat->Bool) (H:Hp) (σ:L2.St) (ρ:List D):Prop where
 len:σ.length=ρ.length
 at_:∀i,ρ.getD i .uD≠.uD->∃v,σ[i]?=some (some v)/\(own i=false->Rep (fun a=>¬Own own σ a) H v (ρ.getD i .uD))
 own:∀i v,own i=true->σ[i]?=some (some v)->∃a o,v=.ref a/\Rep All H v (ρ.getD i .uD)/\inner (ρ.getD i .uD)=true/\H a=some o/\zZ o=true/\∀j,own j=true->σ[j]?=some (some (.ref a))->j=i
variable {own:Nat->Bool}
theorem ES.er {H:Hp} {σ:L2.St} {ρ:List D} (e:ES own H σ ρ):ER H σ ρ:=fun i hi=>by
 obtain ⟨v,h1,h2⟩:=e.at_ i hi;cases ho:own i with
 | false=>exact ⟨v,h1,(h2 ho).all⟩
 | true=>
  obtain ⟨a,o,_,h3,_⟩:=e.own i v ho h1;exact ⟨v,h1,h3⟩
theorem ES.live {H:Hp} {σ:L2.St} {ρ:List D} (e:ES own H σ ρ) {a:Addr} (h:Own own σ a):∃o,H a=some o/\zZ o=true:=by
 obtain ⟨i,hi,hs⟩:=h;obtain ⟨b,o,eb,_,_,h3,h4,_⟩:=e.own i _ hi hs;cases eb;exact ⟨o,h3,h4⟩
theorem ES.same {H H':Hp} {σ:L2.St} {ρ:List D} (e:ES own H σ ρ) (s:cH H H'):ES own H' σ ρ:=by
 refine ⟨e.len,fun i hi=>?_,fun i v hi hv=>?_⟩
 ·obtain ⟨v,h1,h2⟩:=e.at_ i hi;exact ⟨v,h1,fun ho=>(h2 ho).same s⟩
 ·obtain ⟨a,o,h1,h2,h3,h4,h5,h6⟩:=e.own i v hi hv;exact ⟨a,o,h1,h2.same s,h3,s _ _ h4,h5,h6⟩
noncomputable def KU (own:Nat->Bool) (σ:L2.St) (H:Hp) (σ':L2.St) (H':Hp):Prop:=∀a o,H a=some o->¬Own own σ a->H' a=some o/\¬Own own σ' a
theorem KU.trans {σ σ1 σ2:L2.St} {H H1 H2:Hp} (a:KU own σ H σ1 H1) (b:KU own σ1 H1 σ2 H2):KU own σ H σ2 H2:=fun c o e n=>let ⟨e1,n1⟩:=a c o e n;b c o e1 n1
theorem KU.same {σ:L2.St} {H H':Hp} (s:cH H H'):KU own σ H σ H':=fun a o e n=>⟨s a o e,n⟩
theorem KU.keep {σ σ':L2.St} {H H':Hp} {ρ:List D} (k:KU own σ H σ' H') (e:ES own H σ ρ):MF (fun a=>¬Own own σ a) H H':=fun a o h hp=>by
 by_cases ho:Own own σ a
 ·obtain ⟨o',h1,h2⟩:=e.live ho;rw [h] at h1;cases h1;rcases hp with hp|hp
  ·exact absurd ho hp
  ·rw [h2] at hp;cases hp
 ·exact (k a o h ho).1
theorem KU.rep {σ σ':L2.St} {H H':Hp} {ρ:List D} (k:KU own σ H σ' H') (e:ES own H σ ρ) {v:V} {d:D} (r:Rep (fun a=>¬Own own σ a) H v d):Rep (fun a=>¬Own own σ' a) H' v d:=by
 refine r.dom.keep (P':=fun a=>¬Own own σ' a) (fun a o h hp=>?_) fun a ⟨h1,h2⟩=>?_
 ·refine k.keep e a o h (hp.imp (fun z=>z.1) id)
 ·cases q:H a with
  | none=>exact absurd q h2
  | some o=>exact (k a o q h1).2
noncomputable def kRt (own:Nat->Bool) (D:Ends) (σ:L2.St) (H:Hp) (d:Mi.D):Prop:=if own rtX=true then ∃d0 ρ',d=.tup (d0::ρ')/\∀v σ' H',KU own σ H σ' H'->ES own H' σ' ρ'->Rep (fun a=>(Own own σ a\/H a=none)/\∀i b xs,ρ'.getD i .uD=.cel b xs->a≠b) H' v d0->D.rt v H'
  else ∀v H',(∀a o,H a=some o->¬Own own σ a->H' a=some o)->Rep (fun a=>Own own σ a\/H a=none) H' v d->D.rt v H'
theorem kRt.old {own:Nat->Bool} {D:Ends} {σ:L2.St} {H:Hp} {d:Mi.D} (h:kRt own D σ H d) (hx:own rtX=false):∀v H',(∀a o,H a=some o->¬Own own σ a->H' a=some o)->Rep (fun a=>Own own σ a\/H a=none) H' v d->D.rt v H':=by
 unfold kRt at h;rw [if_neg (by rw [hx];simp)] at h;exact h
theorem kRt.mk {own:Nat->Bool} {D:Ends} {σ:L2.St} {H:Hp} {d:Mi.D} (hx:own rtX=false) (h:∀v H',(∀a o,H a=some o->¬Own own σ a->H' a=some o)->Rep (fun a=>Own own σ a\/H a=none) H' v d->D.rt v H'):kRt own D σ H d:=by
 unfold kRt;rw [if_neg (by rw [hx];simp)];exact h
noncomputable def kS (own:Nat->Bool) (D:Ends) (σ:L2.St) (H:Hp):Fl->Prop
 | .nx ρ=>∀σ' H',KU own σ H σ' H'->ES own H' σ' ρ->D.nx σ' H'
 | .bk ρ=>∀σ' H',KU own σ H σ' H'->ES own H' σ' ρ->D.bk σ' H'
 | .ct ρ=>∀σ' H',KU own σ H σ' H'->ES own H' σ' ρ->D.ct σ' H'
 | .rt d=>kRt own D σ H d
theorem kS.step {D:Ends} {σ σ':L2.St} {H H':Hp} {fl:Fl} (k:KU own σ H σ' H') (h:kS own D σ H fl):kS own D σ' H' fl:=by
 cases fl with
 | nx ρ=>exact fun σ2 H2 k2 e=>h σ2 H2 (k.trans k2) e
 | bk ρ=>exact fun σ2 H2 k2 e=>h σ2 H2 (k.trans k2) e
 | ct ρ=>exact fun σ2 H2 k2 e=>h σ2 H2 (k.trans k2) e
 | rt d=>
  have old:∀a,(Own own σ' a\/H' a=none)->Own own σ a\/H a=none:=fun a ha=>by
   cases q:H a with
   | none=>exact .inr rfl
   | some o=>
    refine .inl (Classical.byContradiction fun n=>?_);obtain ⟨e1,n1⟩:=k a o q n;rcases ha with ha|ha
    ·exact n1 ha
    ·rw [e1] at ha;cases ha
  have h:kRt own D σ H d:=h;show kRt own D σ' H' d;unfold kRt at h ⊢;by_cases hx:own rtX=true
  ·rw [if_pos hx] at h ⊢;obtain ⟨d0,ρ',e,g⟩:=h;exact ⟨d0,ρ',e,fun v σ2 H2 k2 E2 r=>g v σ2 H2 (k.trans k2) E2 (r.mono fun a ha=>⟨old a ha.1,ha.2⟩)⟩
  ·rw [if_neg hx] at h ⊢;exact fun v H2 hk r=>h v H2 (fun a o e n=>let ⟨e1,n1⟩:=k a o e n;hk a o e1 n1) (r.mono fun a ha=>old a ha)
noncomputable def tS (own:Nat->Bool) (f:FS):TS:=fun D σ H=>∃ρ fl,ES own H σ ρ/\f ρ=.ok fl/\kS own D σ H fl
theorem PS.imp {X:Cx} {st:Stmt} {t t':TS} (h:PS X st t) (i:∀D σ H,t' D σ H->t D σ H):PS X st t':=fun pins s σ H D I q=>h pins s σ H D I (i D σ H q)
theorem PSs.imp {X:Cx} {st:List Stmt} {t t':TS} (h:PSs X st t) (i:∀D σ H,t' D σ H->t D σ H):PSs X st t':=fun pins s σ H D I q=>h pins s σ H D I (i D σ H q)
section
variable {X:Cx} {a b c e:Expr} {pos pos':Pos} {fa fb fc fe:FE} {ra rb rc re:Bool} {ga gb gc:FT} {f g:FS} {st:Stmt} {rest s1 s2:List Stmt}
theorem eF:PSs X [] (tS own lU):=PSs.imp RK fun D σ H ⟨ρ,fl,E,h,q⟩=>by
 cases h;exact q σ H (fun a o e n=>⟨e,n⟩) E
theorem TV {D:Ends} {σ:L2.St} {H:Hp} (h:tS own (bA f g) D σ H):aBs (tS own f) (tS own g) D σ H:=by
 obtain ⟨ρ,fl,E,h,q⟩:=h;obtain ⟨r,h1,h2⟩:=aX h;refine ⟨ρ,r,E,h1,?_⟩;cases r with
 | nx ρ'=>exact fun σ' H' k E'=>⟨ρ',fl,E',h2,q.step k⟩
 | bk ρ'=>cases h2;exact q
 | ct ρ'=>cases h2;exact q
 | rt d=>cases h2;exact q
theorem aD (h1:PS X st (tS own f)) (h2:PSs X rest (tS own g)):PSs X (st::rest) (tS own (bA f g)):=PSs.imp (KZ h1 h2) fun _ _ _=>TV
theorem aZ (h1:PS X st (tS own f)):PSs X [st] (tS own f):=RL h1
theorem lD (hc:PT X c (gT gc)) (ha:PSs X s1 (tS own f)) (hb:PSs X s2 (tS own g)):PS X (.If c s1 s2 pos) (tS own (sIf gc f g)):=PS.imp (WL hc ha hb) fun D σ H ⟨ρ,fl,E,h,q⟩=>by
 obtain ⟨k,h1,h2⟩:=aX h;refine ⟨ρ,k,E.er,h1,fun H' s=>?_⟩;cases k with
 | true=>rw [if_pos rfl];rw [if_pos rfl] at h2;exact ⟨ρ,fl,E.same s,h2,q.step (.same s)⟩
 | false=>rw [if_neg (by simp)];rw [if_neg (by simp)] at h2;exact ⟨ρ,fl,E.same s,h2,q.step (.same s)⟩
theorem lF (he:PE X e (gE fe re)) (hx:own rtX=false:=by rfl):PS X (.Return (some e) pos) (tS own (rH fe re)):=PS.imp (qT he) fun D σ H ⟨ρ,fl,E,h,q⟩=>by
 obtain ⟨d,h1,h2⟩:=aX h;split at h2
 ·rename_i hk;cases h2;refine ⟨ρ,d,E.er,h1,fun v H' s r n=>q.old hx v H' (fun a o e _=>s a o e) ?_⟩;rw [Bool.or_eq_true] at hk;rcases hk with hk|hk
  ·exact (n hk).mono fun a ha=>.inr ha
  ·exact r.bI hk
 ·cases h2
theorem G3 {i:Nat} {x:Str} (ho:own i=true) (hN:X.N[i]?=some x) (hv:Vis X.env.scope x) (hd:nDb x:=by decide) (hcd:nCd x:=by decide) (hx:own rtX=false:=by rfl):PS X (.Return (some (.Name x pos')) pos) (tS own (SQ i)):=
 PS.imp (qT (gB hN hv hd hcd)) fun D σ H ⟨ρ,fl,E,h,q⟩=>by
 obtain ⟨d,h1,h2⟩:=aX h;cases h2;obtain ⟨v,hv,r,e⟩:=E.er.var h1;obtain ⟨a,o,rfl,r2,hin,_⟩:=E.own i v ho hv;rw [e] at hin;exact ⟨_,hv,q.old hx _ H (fun a o e _=>e) (r.oF hin (.inl ⟨i,ho,hv⟩))⟩
theorem jH {σ:L2.St} {i:Nat} {v:V} (ho:own i=false) (a:Addr):Own own (σ.set i (some v)) a↔Own own σ a:=by
 constructor
 ·rintro ⟨j,hj,e⟩;have:i≠j:=fun z=>by subst z;rw [ho] at hj;cases hj
  rw [List.getElem?_set_ne this] at e;exact ⟨j,hj,e⟩
 ·rintro ⟨j,hj,e⟩;have:i≠j:=fun z=>by subst z;rw [ho] at hj;cases hj
  exact ⟨j,hj,by rw [List.getElem?_set_ne this];exact e⟩
theorem cP {ρ:List D} {i j:Nat} {d:D}:(ρ.set i d).getD j .uD=if i=j/\i<ρ.length then d else ρ.getD j .uD:=by
 rw [List.getD_eq_getElem?_getD,List.getD_eq_getElem?_getD,List.getElem?_set];by_cases h:i=j
 ·subst h;by_cases h2:i<ρ.length
  ·simp [h2]
  ·simp [h2]
 ·simp [h]
theorem ES.set {H:Hp} {σ:L2.St} {ρ:List D} {i:Nat} {v:V} {d:D} (E:ES own H σ ρ) (ho:own i=false) (r:Rep (fun a=>¬Own own σ a) H v d):ES own H (σ.set i (some v)) (ρ.set i d):=by
 have hO:(fun a=>¬Own own (σ.set i (some v)) a)=fun a=>¬Own own σ a:=funext fun a=>by rw [jH ho]
 refine ⟨by simp [E.len],fun j hj=>?_,fun j w hj hw=>?_⟩
 ·rw [cP] at hj ⊢;rw [hO];by_cases h:i=j/\i<ρ.length
  ·rw [if_pos h];obtain ⟨rfl,hl⟩:=h;exact ⟨v,by rw [List.getElem?_set_self (by rw [E.len];exact hl)],fun _=>r⟩
  ·rw [if_neg h] at hj ⊢;obtain ⟨w,h1,h2⟩:=E.at_ j hj;by_cases hij:i=j
   ·subst hij;have:i<σ.length:=(List.getElem?_eq_some_iff.mp h1).1;rw [E.len] at this;exact absurd ⟨rfl,this⟩ h
   ·exact ⟨w,by rw [List.getElem?_set_ne hij];exact h1,h2⟩
 ·have hij:i≠j:=fun z=>by subst z;rw [ho] at hj;cases hj
  rw [List.getElem?_set_ne hij] at hw;rw [cP,if_neg fun z=>hij z.1];obtain ⟨a,o,h1,h2,h3,h4,h5,h6⟩:=E.own j w hj hw;refine ⟨a,o,h1,h2,h3,h4,h5,fun k hk hs=>h6 k hk ?_⟩;have hik:i≠k:=fun z=>by subst z;rw [ho] at hk;cases hk
  rwa [List.getElem?_set_ne hik] at hs
theorem ES.aCs {H H':Hp} {σ:L2.St} {ρ:List D} {i:Nat} {a:Addr} {o:HO} {d:D} (E:ES own H σ ρ) (s:cH H H') (ho:own i=true) (hn:H a=none) (r:Rep All H' (.ref a) d) (hin:inner d=true) (ha:H' a=some o) (hm:zZ o=true) :
  ES own H' (σ.set i (some (.ref a))) (ρ.set i d)/\KU own σ H (σ.set i (some (.ref a))) H':=by
 have hO:∀b,H b≠none->¬Own own σ b->¬Own own (σ.set i (some (.ref a))) b:=fun b hb n ⟨j,hj,e⟩=>by
  by_cases hij:i=j
  ·subst hij;by_cases hl:i<σ.length
   ·rw [List.getElem?_set_self hl] at e;cases e;exact hb hn
   ·rw [List.getElem?_set,if_pos rfl,if_neg hl] at e;cases e
  ·rw [List.getElem?_set_ne hij] at e;exact n ⟨j,hj,e⟩
 refine ⟨⟨by simp [E.len],fun j hj=>?_,fun j w hj hw=>?_⟩,fun b ob e n=>⟨s b ob e,hO b (by rw [e];simp) n⟩⟩
 ·rw [cP] at hj ⊢;by_cases h:i=j/\i<ρ.length
  ·rw [if_pos h];obtain ⟨rfl,hl⟩:=h;exact ⟨.ref a,by rw [List.getElem?_set_self (by rw [E.len];exact hl)],fun z=>by rw [ho] at z;cases z⟩
  ·rw [if_neg h] at hj ⊢;obtain ⟨w,h1,h2⟩:=E.at_ j hj;by_cases hij:i=j
   ·subst hij;have:i<σ.length:=(List.getElem?_eq_some_iff.mp h1).1;rw [E.len] at this;exact absurd ⟨rfl,this⟩ h
   ·exact ⟨w,by rw [List.getElem?_set_ne hij];exact h1,fun hj=>((h2 hj).dom.same s).mono fun b ⟨n,hb⟩=>hO b hb n⟩
 ·by_cases hij:i=j
  ·subst hij;have hl:i<σ.length:=by
    have:=(List.getElem?_eq_some_iff.mp hw).1;simpa using this
   rw [List.getElem?_set_self hl] at hw;cases hw;rw [cP,if_pos ⟨rfl,by rw [<-E.len];exact hl⟩];refine ⟨a,o,rfl,r,hin,ha,hm,fun k hk hs=>?_⟩;by_cases hik:i=k
   ·exact hik.symm
   ·rw [List.getElem?_set_ne hik] at hs;obtain ⟨o',h1,_⟩:=E.live ⟨k,hk,hs⟩;rw [hn] at h1;cases h1
  ·rw [List.getElem?_set_ne hij] at hw;rw [cP,if_neg fun z=>hij z.1];obtain ⟨b,ob,h1,h2,h3,h4,h5,h6⟩:=E.own j w hj hw;refine ⟨b,ob,h1,h2.same s,h3,s _ _ h4,h5,fun k hk hs=>?_⟩;by_cases hik:i=k
   ·subst hik;by_cases hl:i<σ.length
    ·rw [List.getElem?_set_self hl] at hs;cases hs;rw [hn] at h4;cases h4
    ·rw [List.getElem?_set,if_pos rfl,if_neg hl] at hs;cases hs
   ·rw [List.getElem?_set_ne hik] at hs;exact h6 k hk hs
theorem QD {P:Addr->Prop} {H:Hp} {v:V} {d:D} (r:Rep P H v d) (hin:inner d=true):∃a o,v=.ref a/\P a/\H a=some o/\zZ o=true:=by
 cases r with
 | lst e p r=>exact ⟨_,_,rfl,p,e,rfl⟩
 | cel e p r=>exact ⟨_,_,rfl,p,e,rfl⟩
 | dK e p r n=>exact ⟨_,_,rfl,p,e,rfl⟩
 | dT e p r n=>exact ⟨_,_,rfl,p,e,rfl⟩
 | fdK e r n=>cases hin
 | fdT e r n=>cases hin
 | _=>cases hin
theorem u0 {H H':Hp} {σ:L2.St} {ρ:List D} (E:ES own H σ ρ) {v:V} {d:D} (r:Rep (New H) H' v d):Rep (fun a=>¬Own own σ a) H' v d:=r.mono fun a ha ho=>by
 obtain ⟨o,h1,_⟩:=E.live ho;rw [show H a=none from ha] at h1;cases h1
theorem u5 {o:Bool} {i:Nat} {D':Ends} {σ:L2.St} {H:Hp} (ho:own i=o) (h:tS own (bL o i fe re) D' σ H):RM (gE fe re) (nO i) D' σ H:=by
 obtain ⟨ρ,fl,E,h,q⟩:=h;obtain ⟨d,h1,h2⟩:=aX h;cases o with
 | true=>
  simp only [if_true] at h2;split at h2
  ·rename_i hk;cases h2;refine ⟨ρ,d,E.er,h1,fun v H' s r n=>?_⟩;rw [Bool.and_eq_true] at hk;obtain ⟨a,ob,rfl,hn,ha,hm⟩:=QD (n hk.1) hk.2;obtain ⟨E2,k⟩:=E.aCs s ho hn r hk.2 ha hm;exact q _ H' k E2
  ·cases h2
 | false=>
  simp only [Bool.false_eq_true,if_false] at h2;split at h2
  ·rename_i hk;cases h2;refine ⟨ρ,d,E.er,h1,fun v H' s r n=>?_⟩;rw [Bool.or_eq_true] at hk;have r2:Rep (fun a=>¬Own own σ a) H' v d:=by
    rcases hk with hk|hk
    ·exact u0 E (n hk)
    ·exact r.bI hk
   exact q _ H' (fun a ob e hn=>⟨s a ob e,by rw [jH ho];exact hn⟩) ((E.same s).set ho r2)
  ·cases h2
theorem bB {i:Nat} {x:Str} {o:Bool} (ho:own i=o) (hN:X.N.Nodup) (hi:X.N[i]?=some x) (hx:Loc X.env.scope x) (he:PE X e (gE fe re)) (hs:swapsWith e (some (.Name x pos')) pos.line X.env=pure false:=by rfl) (hf:X.fn x=true\/X.env.scope.names.lookup x=some .local:=by first|exact .inl rfl|exact .inr rfl|assumption) :
  PS X (.Assign [.Name x pos'] e pos) (tS own (bL o i fe re)):=PS.imp (vU hN hi hx he hs hf) fun _ _ _=>u5 ho
theorem TX {i j:Nat} {x y:Str} {py:Pos} (ho:own i=false) (hoj:own j=false) (hN:X.N.Nodup) (hi:X.N[i]?=some x) (hx:Loc X.env.scope x) (hj:X.N[j]?=some y) (hy:Vis X.env.scope y) (hs:swapsWith (.Name y py) (some (.Name x pos')) pos.line X.env=pure false:=by rfl) (hf:X.fn x=true\/X.env.scope.names.lookup x=some .local:=by first|exact .inl rfl|exact .inr rfl|assumption)
  (hd:(y==("__debug__" : Str))=false:=by decide) (hcd:(y==("__classdict__" : Str))=false:=by decide):PS X (.Assign [.Name x pos'] (.Name y py) pos) (tS own (sAl i j)):=PS.imp (vU hN hi hx (gB hj hy hd hcd) hs hf) fun D' σ H ⟨ρ,fl,E,h,q⟩=>by
 obtain ⟨d,h1,h2⟩:=aX h;cases h2;obtain ⟨v,hv,r,e⟩:=E.er.var h1;have hne:ρ.getD j .uD≠.uD:=fun z=>by
  rw [z] at e;subst e;exact Rep.uD r
 obtain ⟨w,hw,hr⟩:=E.at_ j hne;rw [hv] at hw;cases hw;have r2:=hr hoj;rw [e] at r2;exact ⟨v,hv,q _ H (fun a ob e hn=>⟨e,by rw [jH ho];exact hn⟩) (E.set ho r2)⟩
theorem ES.mut {H:Hp} {σ:L2.St} {ρ:List D} {i:Nat} {a:Addr} {o:HO} {d:D} (E:ES own H σ ρ) (ho:own i=true) (hi:σ[i]?=some (some (.ref a))) (hm:zZ o=true) (r:Rep All (upd H a o) (.ref a) d) (hin:inner d=true) :
  ES own (upd H a o) σ (ρ.set i d)/\KU own σ H σ (upd H a o):=by
 have hOa:Own own σ a:=⟨i,ho,hi⟩
 obtain ⟨a',oa,ea,_,_,hHa,hma,huq⟩:=E.own i _ ho hi;cases ea;have k:KU own σ H σ (upd H a o):=fun b ob e n=>⟨by rw [bT (fun z=>by subst z;exact n hOa)];exact e,n⟩
 have hl:i<ρ.length:=by rw [<-E.len];exact (List.getElem?_eq_some_iff.mp hi).1
 refine ⟨⟨by simp [E.len],fun j hj=>?_,fun j w hj hw=>?_⟩,k⟩
 ·rw [cP] at hj ⊢;by_cases h:i=j/\i<ρ.length
  ·obtain ⟨rfl,_⟩:=h;exact ⟨_,hi,fun z=>by rw [ho] at z;cases z⟩
  ·rw [if_neg h] at hj ⊢;obtain ⟨w,h1,h2⟩:=E.at_ j hj;exact ⟨w,h1,fun hj=>k.rep E (h2 hj)⟩
 ·by_cases hij:i=j
  ·subst hij;rw [hi] at hw;cases hw;rw [cP,if_pos ⟨rfl,hl⟩];exact ⟨a,o,rfl,r,hin,aO,hm,huq⟩
  ·rw [cP,if_neg fun z=>hij z.1];obtain ⟨b,ob,h1,h2,h3,h4,h5,h6⟩:=E.own j w hj hw;subst h1;have hba:b≠a:=fun z=>by subst z;exact hij (h6 i ho hi)
   refine ⟨b,ob,rfl,?_,h3,by rw [bT hba];exact h4,h5,h6⟩;refine (h2.oF (P':=fun c=>c=b) h3 rfl).keep (fun c oc hc hp=>?_) fun _ _=>trivial
   rw [bT]
   ·exact hc
   ·intro z;subst z;rcases hp with hp|hp
    ·exact hba hp.symm
    ·rw [hHa] at hc;cases hc;rw [hma] at hp;cases hp
theorem ES.ownAt {H:Hp} {σ:L2.St} {ρ:List D} {i:Nat} (E:ES own H σ ρ) (ho:own i=true) (hd:ρ.getD i .uD≠.uD):∃a o,σ[i]?=some (some (.ref a))/\Rep All H (.ref a) (ρ.getD i .uD)/\inner (ρ.getD i .uD)=true/\H a=some o/\zZ o=true:=by
 obtain ⟨v,h1,_⟩:=E.at_ i hd;obtain ⟨a,o,rfl,h2,h3,h4,h5,_⟩:=E.own i v ho h1;exact ⟨a,o,h1,h2,h3,h4,h5⟩
theorem wQ {H:Hp} {a:Addr} {xs:List D} (r:Rep All H (.ref a) (.lst xs)):∃vs,H a=some (.lst vs)/\bH All H vs xs:=by
 cases r with
 | lst e _ r=>exact ⟨_,e,r⟩
theorem bH.upd {H:Hp} {a:Addr} {vs:List V} {xs:List D} {o:HO} {ob:HO} (r:bH All H vs xs) (hp:D.aU xs=true) (ha:H a=some ob) (hm:zZ ob=true):bH All (upd H a o) vs xs:=by
 refine (r.bI (P':=fun _=>False) hp).keep (fun c oc hc h=>?_) fun _ h=>h.elim
 rw [bT]
 ·exact hc
 ·intro z;subst z;rcases h with h|h
  ·exact h
  ·rw [ha] at hc;cases hc;rw [hm] at h;cases h
theorem oG {xs ys:List D}:D.aU (xs++ys)=(D.aU xs&&D.aU ys):=by
 induction xs with
 | nil=>simp [D.aU]
 | cons x xs ih=>rw [List.cons_append,D.aU,D.aU,ih,Bool.and_assoc]
theorem mY {i:Nat} {x:Str} {p1 apos cpos:Pos} (ho:own i=true) (hN:X.N[i]?=some x) (hv:Vis X.env.scope x) (he:PE X e (gE fe re)) (hd:nDb x:=by decide) (hcd:nCd x:=by decide)
  (hbase:attributeBase (.Name x p1) "append" X.env (eval (.Name x p1) X.env)=eval (.Name x p1) X.env:=by rfl)
  (hs1:starEach [e] X.env=(false,eval e X.env)::starEach [] X.env:=by rfl)
  (hfew:((backTo cpos (starEach [e] X.env)).all (fun x=>!x.1)&&(backToKw cpos (keywordEach [] X.env)).all (fun x=>x.1.isSome)
   && decide (([e]:List Expr).length+([]:List Keyword).length+(if ([]:List Keyword).isEmpty then 0 else 1)<30))=true:=by rfl)
  (hline:(apos.endLine==cpos.line)=true:=by rfl)
  (hs:swapsWith (.Call (.Attribute (.Name x p1) "append" apos) [e] [] cpos) none pos.line X.env=pure false:=by rfl) :
  PS X (.Expr (.Call (.Attribute (.Name x p1) "append" apos) [e] [] cpos) pos) (tS own (pQ i fe)):=
 PS.imp (BL (R3 PySem.F.plainAttrs_list PySem.F.slot_list_append PySem.F.type_list_append rB (gB hN hv hd hcd) (gC he nR hs1) hbase hfew hline hs1 rfl) hs) fun D' σ H ⟨ρ,fl,E,h,q⟩=>by
 obtain ⟨d,h1,h2⟩:=aX h;split at h2
 ·rename_i xs hx;split at h2
  ·rename_i hk;cases h2;rw [Bool.and_eq_true] at hk;obtain ⟨a,o,hσ,r,hin,ha,hm⟩:=E.ownAt ho (by rw [hx];intro z;cases z);rw [hx] at r hin;obtain ⟨vs,hl,rr⟩:=wQ r;refine ⟨_,hσ,.inl ⟨rfl,vs,.of hl⟩,ρ,d,E.er,h1,fun v H' s rv _=>⟨a,vs,v,rfl,rfl,s _ _ hl,by rw [rr.length];exact P_ hk.1,?_⟩⟩;have E':=E.same s;have hl':=s _ _ hl;obtain ⟨E2,k2⟩:=E'.mut (o:=.lst (vs++[v])) (d:=.lst (xs++[d])) ho hσ rfl (.lst aO trivial (((rr.same s).snoc rv).upd (by rw [oG];simp only [Bool.and_eq_true];exact ⟨hin,by simp [D.aU,hk.2]⟩) hl' rfl)) (by show D.aU (xs++[d])=true;rw [oG];simp only [Bool.and_eq_true];exact ⟨hin,by simp [D.aU,hk.2]⟩);exact q _ _ ((KU.same s).trans k2) E2
  ·cases h2
 ·cases h2
end
end Mi
end
section
namespace L2
open PySem PySem.Spec PyProof.Rows
section
variable {X:Cx} {scope:Scope} {own:List Str}
theorem M5 {y:Str} {py:Pos} {iy:Nat} (hNn:X.N.Nodup) (hiy:X.N[iy]?=some y) (hxy:Loc X.env.scope y) (hfy:X.fn y=true\/X.env.scope.names.lookup y=some .local) {pins:List (Addr×Obj)} {σ:St} {D:Ends} {p C:Addr} {H5:Hp} {s6:Shared} {m6:Str->Option Value} (f:Inv X pins σ H5 s6) (k:BP X pins H5 C) (n:s6.heap.Ns C m6) (q:nO iy (.ref p) σ H5 D.nx):compPost (model X.prog X.w) X.A X.xe (some (assign (.Name y py) X.env)) (fun _ s'=>SP X pins D .next s') (.ref p) C (.ok .next) s6:=by
 obtain ⟨oC,esC,epC,hoC,hdC,_⟩:=id n;have finP:=f.uE (pins':=pins++[(C,oC)]) fun p hp=>(List.mem_append.mp hp).elim (fun z=>f.pin p (List.mem_append_right _ z)) fun z=>by
  have z':p=(C,oC):=by simpa using z
  subst z';exact ⟨hoC,k.1,k.2.1,k.2.2.1,fun v z=>by rw [hdC] at z;cases z⟩
 refine thn (bF (pos:=py) hNn hiy hxy hfy _ _ σ H5 (.ref p) (.ref p) D.nx finP rfl q) fun _ s7 ⟨σ7,H7,I7,q7⟩=>?_
 obtain ⟨g7,hC7,_⟩:=I7.pin (C,oC) (List.mem_append_right _ (List.mem_append_right _ (by simp)));refine ⟨m6,n.at' fun o e=>?_,fun h' sb=>⟨σ7,H7,Inv.turned (t':=s7.toks) I7.kJ (fun b o hb e=>sb.extBut b o hb e) hC7 k.2.1 k.2.2.2.1 k.2.2.2.2.1 k.2.2.2.2.2,q7⟩⟩;rw [hoC] at e;cases e;exact g7
theorem YD {elt iter tg:Expr} {ifs:List Expr} {wi:TI} {g:TG} {tc:TT} {te:TE} {pos:Pos} (S:b_ X.N X.env.scope scope own) (hcalm:X.calm=true) (hi:PI X tg iter wi)
  (hg:∀X',cA X X' scope own->PG X' tg g) (hc:(ifs=[]/\tc=fun _ H Q=>Q true H)\/∃c,ifs=[c]/\∀X',cA X X' scope own->PT X' c tc) (he:∀X',cA X X' scope own->PE X' elt te)
  (hs:∀x,foldedSetIterable iter X.env x=pure x) {y:Str} {py pos2:Pos} {iy:Nat} (hNn:X.N.Nodup) (hiy:X.N[iy]?=some y) (hxy:Loc X.env.scope y) (hfy:X.fn y=true\/X.env.scope.names.lookup y=some .local) (hsw:swapsWith (.ListComp elt [⟨tg,iter,ifs,0⟩] scope pos) (some (.Name y py)) pos2.line X.env=pure true):PS X (.Assign [.Name y py] (.ListComp elt [⟨tg,iter,ifs,0⟩] scope pos) pos2) (RM (uT wi g tc te own.length) (nO iy)):=by
 intro pins s σ H D I h;rw [exec_Assign_Name_used _ _ _ _ hsw];refine wpAny_bind (wpAny_standAt (wpAny_bind ?_));show wpAny _ X.A (do let _ <- comprehension (.ListComp elt [⟨tg,iter,ifs,0⟩] scope pos) scope X.env _ (newList []) false (eval iter X.env) (some (assign (.Name y py) X.env))) _ _ s;exact wpAny_bind (wpAny_mono (uU (QQ:=fun _ s'=>SP X pins D .next s') S hcalm hi hg hc he hs I h (M5 hNn hiy hxy hfy)) (fun _ s' hq=>wpAny_pure (wpAny_pure hq)) fun _ _ e=>e)
theorem G4 {elt iter tg c:Expr} {wi:TI} {g:TG} {tc:TT} {te:TE} {pos:Pos} (S:b_ X.N X.env.scope scope own) (hcalm:X.calm=true) (hi:PI X tg iter wi)
  (hg:∀X',cA X X' scope own->PG X' tg g) (hc:∀X',cA X X' scope own->PT X' c tc) (he:∀X',cA X X' scope own->PE X' elt te)
  (hs:∀x,foldedSetIterable iter X.env x=pure x) {y:Str} {py pos2:Pos} {iy:Nat} (hNn:X.N.Nodup) (hiy:X.N[iy]?=some y) (hxy:Loc X.env.scope y) (hfy:X.fn y=true\/X.env.scope.names.lookup y=some .local) (hsw:swapsWith (.ListComp elt [⟨tg,iter,[c],0⟩] scope pos) (some (.Name y py)) pos2.line X.env=pure true):PS X (.Assign [.Name y py] (.ListComp elt [⟨tg,iter,[c],0⟩] scope pos) pos2) (RM (uT wi g tc te own.length) (nO iy)):=
 YD S hcalm hi hg (.inr ⟨c,rfl,hc⟩) he hs hNn hiy hxy hfy hsw
theorem M6 {elt iter tg:Expr} {wi:TI} {g:TG} {te:TE} {pos:Pos} (S:b_ X.N X.env.scope scope own) (hcalm:X.calm=true) (hi:PI X tg iter wi)
  (hg:∀X',cA X X' scope own->PG X' tg g) (he:∀X',cA X X' scope own->PE X' elt te)
  (hs:∀x,foldedSetIterable iter X.env x=pure x) {y:Str} {py pos2:Pos} {iy:Nat} (hNn:X.N.Nodup) (hiy:X.N[iy]?=some y) (hxy:Loc X.env.scope y) (hfy:X.fn y=true\/X.env.scope.names.lookup y=some .local) (hsw:swapsWith (.ListComp elt [⟨tg,iter,[],0⟩] scope pos) (some (.Name y py)) pos2.line X.env=pure true):PS X (.Assign [.Name y py] (.ListComp elt [⟨tg,iter,[],0⟩] scope pos) pos2) (RM (uT wi g (fun _ H Q=>Q true H) te own.length) (nO iy)):=
 YD S hcalm hi hg (.inl ⟨rfl,rfl⟩) he hs hNn hiy hxy hfy hsw
end
end L2
end
section
namespace Mi
open PySem L2 PySem.SeqAt PySem.Spec PyProof.Rows
variable [KFrag]
variable {own:Nat->Bool}
section
variable {X:Cx} {a b c e:Expr} {pos pos':Pos} {fa fb fc fe:FE} {ra rb rc re:Bool} {ga gb gc:FT} {f g:FS} {st:Stmt} {rest s1 s2:List Stmt}
variable {scope:Scope} {ownN:List Str} {elt iter tg:Expr} {it:FI} {t:D->Res (List D)} {gt:TG}
theorem TY {n m:Nat} {y:Str} {py pos2:Pos} {iy:Nat} {o:Bool} (S:b_ X.N X.env.scope scope ownN) (hn:X.N.length=n) (hm:ownN.length=m) (hcalm:X.calm=true) (hi:PI X tg iter (gI X.K it)) (ht:TgC gt t n m) (hg:∀X',cA X X' scope ownN->PG X' tg gt) (he:∀X',cA X X' scope ownN->PE X' elt (gE fe re))
  (hs:∀x,foldedSetIterable iter X.env x=pure x) (ho:own iy=o) (hNn:X.N.Nodup) (hiy:X.N[iy]?=some y) (hxy:Loc X.env.scope y) (hfy:X.fn y=true\/X.env.scope.names.lookup y=some .local) (hsw:swapsWith (.ListComp elt [⟨tg,iter,[],0⟩] scope pos) (some (.Name y py)) pos2.line X.env=pure true) :
  PS X (.Assign [.Name y py] (.ListComp elt [⟨tg,iter,[],0⟩] scope pos) pos2) (tS own (bL o iy (cG n it t fG fe re) true)):=by
 intro pins s σ H D I h;subst hm;refine M6 S hcalm hi hg he hs hNn hiy hxy hfy hsw pins s σ H D I ?_;exact lC ht (fun σ H Q h=>by obtain ⟨ρ,b,E,h,q⟩:=h;cases h;exact q H (cH.refl H)) (I.len.trans hn) (u5 ho h)
theorem G5 {n m:Nat} {y:Str} {py pos2:Pos} {iy:Nat} {o:Bool} (S:b_ X.N X.env.scope scope ownN) (hn:X.N.length=n) (hm:ownN.length=m) (hcalm:X.calm=true) (hi:PI X tg iter (gI X.K it)) (ht:TgC gt t n m) (hg:∀X',cA X X' scope ownN->PG X' tg gt) (hc:∀X',cA X X' scope ownN->PT X' c (gT gc)) (he:∀X',cA X X' scope ownN->PE X' elt (gE fe re))
  (hs:∀x,foldedSetIterable iter X.env x=pure x) (ho:own iy=o) (hNn:X.N.Nodup) (hiy:X.N[iy]?=some y) (hxy:Loc X.env.scope y) (hfy:X.fn y=true\/X.env.scope.names.lookup y=some .local) (hsw:swapsWith (.ListComp elt [⟨tg,iter,[c],0⟩] scope pos) (some (.Name y py)) pos2.line X.env=pure true) :
  PS X (.Assign [.Name y py] (.ListComp elt [⟨tg,iter,[c],0⟩] scope pos) pos2) (tS own (bL o iy (cG n it t gc fe re) true)):=by
 intro pins s σ H D I h;subst hm;refine G4 S hcalm hi hg hc he hs hNn hiy hxy hfy hsw pins s σ H D I ?_;exact lC ht (fun σ H Q h=>h) (I.len.trans hn) (u5 ho h)
theorem p6 {κ:Type} [DecidableEq κ] {p:κ×V} {r:List (κ×V)} {k:κ} {v:V} (e:p.1=k) (h:k∉r.map (·.1)):putK (p::r) k v=(k,v)::r:=by
 unfold putK;rw [if_pos (by simp [e]),List.map_cons,if_pos e,e]
 congr 1
 have:∀q∈r,(fun kv:κ×V=>if kv.1=k then (kv.1,v) else kv) q=id q:=fun q hq=>by
  have:q.1≠k:=fun z=>h (List.mem_map.mpr ⟨q,hq,z⟩)
  simp [this]
 rw [List.map_congr_left this,List.map_id]
theorem p7 {κ:Type} [DecidableEq κ] {p:κ×V} {r:List (κ×V)} {k:κ} {v:V} (e:¬p.1=k):putK (p::r) k v=p::putK r k v:=by
 unfold putK;rw [List.any_cons,decide_eq_false e,Bool.false_or];split
 ·rw [List.map_cons,if_neg e]
 ·rfl
theorem jJ {κ:Type} [DecidableEq κ] {k:κ} {v:V}:∀{kvs:List (κ×V)},(kvs.map (·.1)).Nodup->((putK kvs k v).map (·.1)).Nodup:=fun {kvs} h=>by
 by_cases hk:pD kvs k=none
 ·exact R_ v h hk
 ·unfold putK;rw [if_pos (by rw [kZ];exact Option.isSome_iff_ne_none.mpr hk),List.map_map];have:(fun x:κ×V=>x.1) ∘ (fun kv:κ×V=>if kv.1=k then (kv.1,v) else kv)=fun x=>x.1:=by
   funext q
   simp only [Function.comp];split <;> rfl
  rw [this];exact h
theorem p8 {P:Addr->Prop} {H:Hp} {k:Key} {v:V} {d:D} (rv:Rep P H v d):∀{kvs:List (Key×V)} {ds:List (D×D)},jG P H kvs ds->(kvs.map (·.1)).Nodup->jG P H (putK kvs k v) (putD ds (kD k) d)
 | _,_,.nil,_=>.cons rv .nil
 | _,_,.cons (k:=k') (v:=v') (r:=rs) r t,hn=>by
  rw [List.map_cons] at hn;obtain ⟨h1,h2⟩:=List.nodup_cons.mp hn;rw [putD,GF];by_cases h:k'=k
  ·subst h;rw [if_pos (by simp),p6 rfl h1];exact .cons rv t
  ·rw [if_neg (by simpa using h),p7 (p:=(k',v')) h];exact .cons r (p8 rv t h2)
theorem p_ {P:Addr->Prop} {H:Hp} {k:List Key} {v:V} {d:D} (rv:Rep P H v d):∀{kvs:List (List Key×V)} {ds:List (D×D)},lX P H kvs ds->(kvs.map (·.1)).Nodup->lX P H (putK kvs k v) (putD ds (.tup (k.map kD)) d)
 | _,_,.nil,_=>.cons rv .nil
 | _,_,.cons (k:=k') (v:=v') (r:=rs) r t,hn=>by
  rw [List.map_cons] at hn;obtain ⟨h1,h2⟩:=List.nodup_cons.mp hn;rw [putD,S6];by_cases h:k'=k
  ·subst h;rw [if_pos (by simp),p6 rfl h1];exact .cons rv t
  ·rw [if_neg (by simpa using h),p7 (p:=(k',v')) h];exact .cons r (p_ rv t h2)
theorem jG.length {P:Addr->Prop} {H:Hp}:∀{kvs:List (Key×V)} {ds:List (D×D)},jG P H kvs ds->kvs.length=ds.length
 | _,_,.nil=>rfl
 | _,_,.cons _ t=>by rw [List.length_cons,List.length_cons,jG.length t]
theorem lX.length {P:Addr->Prop} {H:Hp}:∀{kvs:List (List Key×V)} {ds:List (D×D)},lX P H kvs ds->kvs.length=ds.length
 | _,_,.nil=>rfl
 | _,_,.cons _ t=>by rw [List.length_cons,List.length_cons,lX.length t]
theorem qC {H:Hp} {a:Addr} {o ob:HO} (ha:H a=some ob) (hm:zZ ob=true):MF (fun _=>False) H (L2.upd H a o):=fun c oc hc h=>by
 rw [bT]
 ·exact hc
 ·intro z;subst z;rcases h with h|h
  ·exact h.elim
  ·rw [ha] at hc;cases hc;rw [hm] at h;cases h
theorem mD {d:D} {k:D} (hd:d.pure=true):∀{ds:List (D×D)},D.aU (ds.map (·.2))=true->D.aU ((putD ds k d).map (·.2))=true
 | [],_=>by simp [putD,D.aU,hd]
 | (q,w)::r,h=>by
  rw [List.map_cons,D.aU,Bool.and_eq_true] at h;rw [putD];split
  ·rw [List.map_cons,D.aU,Bool.and_eq_true];exact ⟨hd,h.2⟩
  ·rw [List.map_cons,D.aU,Bool.and_eq_true];exact ⟨h.1,mD hd h.2⟩
theorem aBc {pins:List (Addr×Obj)} {s:Shared} {σ:L2.St} {H:Hp} {ad:Addr} {y v:V} {ds:List (D×D)} {k d:D} (I:Inv X pins σ H s) (rd:Rep All H (.ref ad) (.dct ds)) (hin:D.aU (ds.map (·.2))=true) (rk:Rep All H y k) (hk:zV ds k=true) (hl:ds.length<sizeLine) (rv:Rep All H v d) (hd:d.pure=true) :
  ∃H1 o,Inv X pins σ H1 s/\PP H1 ad y v (L2.upd H ad o)/\zZ o=true/\Rep All (L2.upd H ad o) (.ref ad) (.dct (putD ds k d)):=by
 unfold zV at hk;rw [Bool.and_eq_true] at hk;obtain ⟨h1,h2⟩:=hk;have rv':Rep (fun _=>False) H v d:=rv.bI hd;cases rd with
 | @dK _ kvs ds e _ r n=>
  have hlen:=r.length;rcases iB h1 rk with ⟨q,rfl,rfl⟩|⟨b,ks,rfl,eb,rfl⟩
  ·refine ⟨H,.dK (putK kvs q v),I,.k e (by lia),rfl,.dK aO trivial ?_ (jJ n)⟩;exact (p8 rv' (r.bI hin) n).keep (qC e rfl) fun _ z=>z.elim
  ·cases r with
   | nil=>
    refine ⟨L2.upd H ad (.dT []),.dT (putK [] ks v),l_ I e,?_,rfl,.dT aO trivial ?_ (jJ List.nodup_nil)⟩
    ·have:=PP.t (H:=L2.upd H ad (.dT [])) (a:=ad) (b:=b) (kvs:=[]) (k:=ks) (v:=v) aO (by rw [bT (RC eb e (by intro z;cases z))];exact eb) hl;rwa [uC] at this
    ·exact (p_ (k:=ks) rv' .nil List.nodup_nil).keep (qC e rfl) fun _ z=>z.elim
   | cons r t=>
    rw [List.all_cons,jQ] at h2;simp [isTup] at h2
 | @dT _ kvs ds e _ r n=>
  have hlen:=r.length;rcases iB h1 rk with ⟨q,rfl,rfl⟩|⟨b,ks,rfl,eb,rfl⟩
  ·cases r with
   | nil=>
    refine ⟨L2.upd H ad (.dK []),.dK (putK [] q v),mC I e,?_,rfl,.dK aO trivial ?_ (jJ List.nodup_nil)⟩
    ·have:=PP.k (H:=L2.upd H ad (.dK [])) (a:=ad) (kvs:=[]) (k:=q) (v:=v) aO hl;rwa [uC] at this
    ·exact (p8 (k:=q) rv' .nil List.nodup_nil).keep (qC e rfl) fun _ z=>z.elim
   | cons r t=>
    rw [List.all_cons,jQ] at h2;simp [isTup] at h2
  ·refine ⟨H,.dT (putK kvs ks v),I,.t e eb (by lia),rfl,.dT aO trivial ?_ (jJ n)⟩;exact (p_ rv' (r.bI hin) n).keep (qC e rfl) fun _ z=>z.elim
theorem wR {i:Nat} {x:Str} {p1:Pos} {value k:Expr} {fv fk:FE} {rv rk:Bool} (hu:X.A.units+20<cLine) (ho:own i=true) (hN:X.N[i]?=some x) (hvi:Vis X.env.scope x) (hk:PE X k (gE fk rk)) (hv:PE X value (gE fv rv))
  (hs:swapsWith value (some (.Subscript (.Name x p1) k pos')) pos.line X.env=pure false:=by rfl) (hd:nDb x:=by decide) (hcd:nCd x:=by decide) :
  PS X (.Assign [.Subscript (.Name x p1) k pos'] value pos) (tS own (zY i fk fv)):=by
 intro pins s σ H D' I ⟨ρ,fl,E,h,q⟩;obtain ⟨d,h0,h⟩:=aX h;obtain ⟨kd,h1,h2⟩:=aX h;split at h2
 ·rename_i kvs hx;split at h2
  ·rename_i hg;cases h2;simp only [Bool.and_eq_true] at hg;obtain ⟨⟨hg1,hg2⟩,hg3⟩:=hg;obtain ⟨a,o,hσ,r,hin,ha,hm⟩:=E.ownAt ho (by rw [hx];intro z;cases z);rw [hx] at r hin;refine wpAny_Assign_Subscript (thn (hv pins s σ H (fun v H1=>cH H H1/\Rep All H1 v d) I ⟨ρ,d,E.er,h0,fun v H1 s1 r1 _=>⟨s1,r1⟩⟩) fun rr s1 ⟨v,H1,I1,rv1,sm1,rp1⟩=>
    thn (gB hN hvi hd hcd pins s1 σ H1 (fun w H2=>w=.ref a/\H2=H1) I1 ⟨_,hσ,rfl,rfl⟩) fun u s2 ⟨xx,H2,I2,rx,ex,eH⟩=>
    thn (hk pins s2 σ H2 (fun w H3=>cH H2 H3/\Rep All H3 w kd) I2 ⟨ρ,kd,by rw [eH];exact E.er.same sm1,h1,fun v H1 s1 r1 _=>⟨s1,r1⟩⟩) fun iv s3 ⟨y,H3,I3,ry,sm3,rp3⟩=>?_) hs
   subst ex eH;obtain rfl:u=Value.ref a:=rx;have sm:=sm1.trans sm3;obtain ⟨H4,o4,I4,g,hmo,rp⟩:=aBc I3 (r.same sm) hin rp3 hg2 (P_ hg1) (rp1.same sm3) hg3;obtain ⟨E2,k2⟩:=(E.same sm).mut ho hσ hmo rp (mD hg3 hin);exact DN (by lia) I4 g ry rv1 fun s4 I5=>⟨σ,_,I5,q _ _ ((KU.same sm).trans k2) E2⟩
  ·cases h2
 ·cases h2
noncomputable def TgS (own:Nat->Bool) (g:TG) (t:D->List D->Res (List D)):Prop:=∀(v:V) (d:D) (ρ ρ':List D) (σ:L2.St) (H:Hp) (Q:L2.St->Hp->Prop),ES own H σ ρ->Rep (fun a=>¬Own own σ a) H v d->t d ρ=.ok ρ'->
 (∀σ',ES own H σ' ρ'->(∀a,Own own σ' a↔Own own σ a)->Q σ' H)->g v σ H Q
theorem jK {i:Nat} (ho:own i=false):TgS own (nO i) (tg1 i):=fun v d ρ ρ' σ H Q E r h q=>by
 cases h;exact q _ (E.set ho r) fun a=>jH ho a
theorem ES.sets {H:Hp}:∀{is:List Nat} {vs:List V} {ds:List D} {σ:L2.St} {ρ:List D},(∀i∈is,own i=false)->ES own H σ ρ->bH (fun a=>¬Own own σ a) H vs ds->ES own H (yZ is vs σ) (uP is ds ρ)/\∀a,Own own (yZ is vs σ) a↔Own own σ a
 | [],_,_,_,_,_,E,_=>by simp only [yZ,uP];exact ⟨E,fun _=>trivial⟩
 | i::is,_,_,σ,ρ,h,E,.nil=>by simp only [yZ,uP];exact ⟨E,fun _=>trivial⟩
 | i::is,_,_,σ,ρ,h,E,.cons (v:=v) r t=>by
  have ho:=h i (List.mem_cons_self ..);have hO:(fun a=>¬Own own (σ.set i (some v)) a)=fun a=>¬Own own σ a:=funext fun a=>by rw [jH ho]
  obtain ⟨h1,h2⟩:=ES.sets (is:=is) (fun j hj=>h j (List.mem_cons_of_mem _ hj)) (E.set ho r) (by rw [hO];exact t);exact ⟨h1,fun a=>(h2 a).trans (jH ho a)⟩
theorem G6 (K:PySem.W.Frag) {is:List Nat} (ho:∀i∈is,own i=false):TgS own (aBu K is.length (gIx is)) (tgN is):=fun v d ρ ρ' σ H Q E r h q=>by
 cases d <;> simp only [tgN] at h <;> (try (cases h;done))
 split at h
 ·rename_i hl;cases h;have hl':=of_decide_eq_true hl;obtain ⟨a,xs,rfl,e,rr⟩:=r.eV;obtain ⟨h1,h2⟩:=E.sets ho rr;exact ⟨a,xs,rfl,.of e,by rw [rr.length];exact hl',uZ _ _ _ (by rw [rr.length];exact hl') (q _ h1 h2)⟩
 ·cases h
theorem ItQ.ku {K:PySem.W.Frag} {J:It} {items:List D} {σ σ':L2.St} {H H':Hp} {ρ:List D} (h:ItQ K (fun a=>¬Own own σ a) J H items) (k:KU own σ H σ' H') (E:ES own H σ ρ):ItQ K (fun a=>¬Own own σ' a) J H' items:=by
 cases h with
 | lst a e r=>exact .lst a e (k.rep E r)
 | tup a e r=>exact .tup a e (k.rep E r)
 | rng lo n e r=>exact .rng lo n e r
 | chs x e r=>exact .chs x e r
 | enm a ds e r h=>exact .enm a ds e (k.rep E r) h
 | enf m a ds e r h=>exact .enf m a ds e (k.rep E r) h
 | zip a b ds es e r q n h=>exact .zip a b ds es e (k.rep E r) (k.rep E q) n h
 | scr a hK e r=>exact .scr a hK e (k.rep E r)
theorem qD {K:PySem.W.Frag} {g:TG} {t:D->List D->Res (List D)} {body:FS} {D':Ends} {J:It} {items:List D} {σ:L2.St} {H1:Hp} {ρ:List D} {fl:Fl} (tg:TgS own g t) (E:ES own H1 σ ρ) (hJ:ItQ K (fun a=>¬Own own σ a) J H1 items) (hf:nH t body items ρ=.ok fl) (q:kS own D' σ H1 fl) :
  ∃W:Nat->Nat->L2.St->Hp->Prop,(∃m,W 0 m σ H1)/\∀i m σ H,W i m σ H->
   (J.stop i H/\D'.nx σ H)\/(J.go i H/\∃N:L2.St->Hp->Prop,(∀σ' H',N σ' H'->∃m',m'<m/\W (i+1) m' σ' H')/\∀x H',J.yld i H x H'->g x σ H' fun σ2 H2=>tS own body {D' with nx:=N,ct:=N,bk:=D'.nx} σ2 H2):=by
 refine ⟨fun i m σ' H'=>m=items.length-i/\i<=items.length/\ItQ K (fun a=>¬Own own σ' a) J H' items/\∃ρ',ES own H' σ' ρ'/\nH t body (items.drop i) ρ'=.ok fl/\kS own D' σ' H' fl,⟨items.length,rfl,Nat.zero_le _,hJ,ρ,E,hf,q⟩,?_⟩;rintro i m σ' H' ⟨rfl,hi,hJ',ρ',E',hf',q'⟩;rcases Nat.lt_or_ge i items.length with hlt|hge
 ·refine .inr ?_;have e:items[i]?=some items[i]:=List.getElem?_eq_getElem hlt;obtain ⟨g1,g2⟩:=hJ'.go e;rw [List.drop_eq_getElem_cons hlt] at hf';obtain ⟨ρ1,h1,hf2⟩:=aX hf';obtain ⟨r,h2,hf3⟩:=aX hf2;refine ⟨g1,fun σ2 H2=>ItQ K (fun a=>¬Own own σ2 a) J H2 items/\∃ρ',ES own H2 σ2 ρ'/\nH t body (items.drop (i+1)) ρ'=.ok fl/\kS own D' σ2 H2 fl,fun σ2 H2 ⟨n1,n2⟩=>⟨items.length-(i+1),by lia,rfl,hlt,n1,n2⟩,fun x H2 hy=>?_⟩;obtain ⟨sH,rx⟩:=g2 x H2 hy;have ks:KU own σ' H' σ' H2:=fun a o e n=>⟨sH a o e,n⟩
  have hJ':=hJ'.ku ks E';have q':=q'.step ks;have E':=E'.same sH;refine tg x items[i] ρ' ρ1 σ' H2 _ E' rx h1 fun σ2 E2 hO=>?_
  have k0:KU own σ' H2 σ2 H2:=fun a o e n=>⟨e,by rw [hO];exact n⟩
  have hJ2:=hJ'.ku k0 E';have q2:=q'.step k0;refine ⟨ρ1,r,E2,h2,?_⟩;cases r with
  | nx ρ2=>exact fun σ3 H3 k3 E3=>⟨hJ2.ku k3 E2,ρ2,E3,hf3,q2.step k3⟩
  | ct ρ2=>exact fun σ3 H3 k3 E3=>⟨hJ2.ku k3 E2,ρ2,E3,hf3,q2.step k3⟩
  | bk ρ2=>cases hf3;exact fun σ3 H3 k3 E3=>q2 σ3 H3 k3 E3
  | rt d=>cases hf3;exact q2
 ·refine .inl ⟨hJ'.stop hge,?_⟩;rw [List.drop_eq_nil_of_le hge] at hf';cases hf';exact q' σ' H' (fun a o e n=>⟨e,n⟩) E'
theorem rQ {tg iter:Expr} {body:List Stmt} {g:TG} {t:D->List D->Res (List D)} {it:FI} {fb:FS} (hp:PassesOwn (model X.prog X.w) X.A X.env X.xe) (hc:X.calm=true) (hi:PI X tg iter (gI X.K it)) (ht:TgS own g t) (hg:PG X tg g) (hb:PSs X body (tS own fb))
  (hs:∀x,foldedSetIterable iter X.env x=pure x:=by intro _;rfl):PS X (.For tg iter body [] pos) (tS own (E_ it t fb)):=PS.imp (BW hp hc hi hg hb hs) fun D' σ H ⟨ρ,fl,E,h,q⟩=>by
 obtain ⟨⟨items,k⟩,h1,h2⟩:=aX h;split at h2
 ·rename_i hk;exact ⟨ρ,items,k,E.er,h1,fun J H1 s1 _ hJ=>qD ht (E.same s1) ((hJ hk).keep (fun _ _ e _=>e) fun a ha ho=>by
   obtain ⟨o,e1,_⟩:=E.live ho;rw [show H a=none from ha] at e1;cases e1) h2 (q.step (.same s1))⟩
 ·cases h2
theorem qF {tg:Expr} {body:List Stmt} {g:TG} {t:D->List D->Res (List D)} {i:Nat} {x:Str} {px:Pos} {fb:FS} (ho:own i=false) (hp:PassesOwn (model X.prog X.w) X.A X.env X.xe) (hc:X.calm=true) (hN:X.N[i]?=some x) (hv:Vis X.env.scope x) (ht:TgS own g t) (hg:PG X tg g) (hb:PSs X body (tS own fb))
  (hs:∀z,foldedSetIterable (.Name x px) X.env z=pure z:=by intro _;rfl) (hd:nDb x:=by decide) (hcd:nCd x:=by decide):PS X (.For tg (.Name x px) body [] pos) (tS own (pR i t fb)):=PS.imp (BW hp hc (YC hN hv hd hcd) hg hb hs) fun D' σ H ⟨ρ,fl,E,h,q⟩=>by
 obtain ⟨d,h1,h⟩:=aX h;obtain ⟨items,h2,h3⟩:=aX h;obtain ⟨v,hv,r,e⟩:=E.er.var h1;have hne:ρ.getD i .uD≠.uD:=fun z=>by
  rw [z] at e;subst e;exact Rep.uD r
 obtain ⟨w,hw,hr⟩:=E.at_ i hne;rw [hv] at hw;cases hw;have r2:=hr ho;rw [e] at r2;exact ⟨v,d,items,hv,r,h2,fun J hJ=>qD ht E (hJ _ r2) h3 q⟩
theorem M7 {own:Nat->Bool} {N ps:List Str} {vs:List V} {ds:List D} {H:Hp} (hst:start N vs=vs.map some++List.replicate (N.length-ps.length) none) (hl:ds.length=ps.length) (r:bH All H vs ds) (hown:∀i,i<ps.length->own i=false) (noown:∀a,¬Own own (start N vs) a):ES own H (start N vs) (ds++List.replicate (N.length-ps.length) .uD):=by
 refine ⟨by rw [hst];simp [r.length],fun i hi=>?_,fun i v hi hv=>?_⟩
 ·have hlt:i<ds.length:=Nat.lt_of_not_le fun hge=>hi (by
   rw [List.getD_eq_getElem?_getD,List.getElem?_append_right hge,List.getElem?_replicate];split <;> rfl)
  have e:(ds++List.replicate (N.length-ps.length) D.uD).getD i .uD=ds[i]:=by
   rw [List.getD_eq_getElem?_getD,List.getElem?_append_left hlt,List.getElem?_eq_getElem hlt];rfl
  obtain ⟨v,g1,g2⟩:=r.get (i:=i) (d:=ds[i]) (by simp [hlt]);refine ⟨v,by rw [hst,List.getElem?_append_left (by simp [r.length,hlt])];simp [g1],fun _=>?_⟩;rw [e];exact g2.mono fun a _=>noown a
 ·exfalso;rw [hst] at hv;by_cases h:i<ps.length
  ·rw [hown i h] at hi;cases hi
  ·rw [List.getElem?_append_right (by simp [r.length,hl];lia)] at hv;rw [List.getElem?_replicate] at hv;split at hv <;> cases hv
theorem T3 {own:Nat->Bool} {N ps:List Str} {f:FS} {vs:List V} {H:Hp} {Q:VK} {E:XK} (hx:own rtX=false) (hown:∀i,i<ps.length->own i=false) (h0:spD (fnS ps.length N.length f) ps.length vs H Q E):tS own f {nx:=fun _ H'=>Q .non H',rt:=Q} (start N vs) H:=by
 obtain ⟨ds,d,hl,r,h,q⟩:=h0
 ·obtain ⟨fl,h1,h2⟩:=aX h;have hst:start N vs=vs.map some++List.replicate (N.length-ps.length) none:=by
   show vs.map some++List.replicate (N.length-vs.length) none=_;rw [r.length,hl]
  have noown:∀a,¬Own own (start N vs) a:=fun a ⟨i,hi,e⟩=>by
   rw [hst] at e;by_cases h:i<ps.length
   ·rw [hown i h] at hi;cases hi
   ·rw [List.getElem?_append_right (by simp [r.length,hl];lia)] at e;rw [List.getElem?_replicate] at e;split at e <;> cases e
  have E0:ES own H (start N vs) (ds++List.replicate (N.length-ps.length) .uD):=M7 hst hl r hown noown;refine ⟨_,fl,E0,h1,?_⟩;have sm:∀{σ':L2.St} {H':Hp},KU own (start N vs) H σ' H'->cH H H':=fun k a o e=>(k a o e (noown a)).1
  cases fl with
  | nx ρ'=>cases h2;exact fun σ' H' k E'=>q .non H' (sm k) .non fun _=>.non
  | rt d'=>
   cases h2;refine kRt.mk hx fun v H' hk rp=>q v H' (fun a o e=>hk a o e (noown a)) rp.all fun _=>rp.mono fun a ha=>?_
   rcases ha with ha|ha
   ·exact absurd ha (noown a)
   ·exact ha
  | bk ρ'=>cases h2
  | ct ρ'=>cases h2
theorem YF {P:Program} {w:World} {K:PySem.W.Frag} {mg:Str->Option Value} {base:Heap} {x qual:Str} {st:Stmt} {fad:Addr} {fd:FuncData} {N ps:List Str} {k:Nat} {f:FS} (F:Fun K x qual st fad fd) (S:cT N ps (aP st)) (own:Nat->Bool) (hown:∀i,i<ps.length->own i=false) (hNl:ps.length<=N.length)
  (hbody:∀(cdv:Value) (A:Around) (outer:List Env) (s:Shared) (H:Hp) (E:XK),m8 k (A.deeper (envOfC qual (aP st) s.heap.objs.size fad cdv))->PSs (KD CX0 P w K mg base N qual (aP st) fad cdv A outer s H E).nox (fM st) (tS own f)) (hx:own rtX=false:=by rfl):vV P w K mg base CX0 (k+1) fad fd ps (spD (fnS ps.length N.length f) ps.length):=
 F.ok S (fun vs H Q E h=>TF h) fun cdv A outer s H vs Q E hr h=>⟨_,hbody cdv A outer s H E hr,T3 hx hown h⟩
end
end Mi
end
section
namespace Mi
open PySem L2 PySem.SeqAt PySem.Spec PyProof.Rows
variable [KFrag]
structure aBd where
 s₀:Shared
 H₀:Hp
 env:Env
 outer:List Env
 stack:List Env
 ex:List Addr
 fn:Str->Bool
 pn:List (Addr×Obj)
noncomputable abbrev mkC (X:Cx) (scope:Scope) (ownN:List Str) (y:aBd):Cx:=
 {X with N:=X.N.map (fP ownN)++ownN,s₀:=y.s₀,H₀:=y.H₀,env:={y.env with scope:=relabel scope X.env},outer:=y.outer,stack:=y.stack,ex:=y.ex,fn:=y.fn,pn:=y.pn,xe:=fun _ _=>False}
theorem jZ {X X':Cx} {scope:Scope} {ownN:List Str} (cc:cA X X' scope ownN):∃y,X'=mkC X scope ownN y:=by
 refine ⟨⟨X'.s₀,X'.H₀,X'.env,X'.outer,X'.stack,X'.ex,X'.fn,X'.pn⟩,?_⟩;obtain ⟨h1,h2,h3,h4,h5,h6,h7,h8,h9,h10⟩:=cc;cases X' with
 | mk a b c d e f g h i j k l m n o p q=>
  cases j;dsimp only at *;subst h1 h2 h3 h4 h5 h6 h7 h8 h9 h10;rfl
section
variable {own:Nat->Bool} {X:Cx} {scope:Scope} {ownN:List Str} {elt iter tg c:Expr} {it:FI} {t:D->Res (List D)} {g:TG} {gc:FT} {fe:FE} {re:Bool} {pos:Pos} {n m:Nat}
theorem jR (S:b_ X.N X.env.scope scope ownN) (hn:X.N.length=n) (hm:ownN.length=m) (hcalm:X.calm=true) (hi:PI X tg iter (gI X.K it)) (ht:TgC g t n m) (hg:∀y,PG (mkC X scope ownN y) tg g) (he:∀y,PE (mkC X scope ownN y) elt (gE fe re))
  (hs:∀x,foldedSetIterable iter X.env x=pure x):PE X (.ListComp elt [⟨tg,iter,[],0⟩] scope pos) (gE (cG n it t fG fe re) true):=
 TQ S hn hm hcalm hi ht (fun X' cc=>by obtain ⟨y,rfl⟩:=jZ cc;exact hg y) (fun X' cc=>by obtain ⟨y,rfl⟩:=jZ cc;exact he y) hs
theorem pI (S:b_ X.N X.env.scope scope ownN) (hn:X.N.length=n) (hm:ownN.length=m) (hcalm:X.calm=true) (hi:PI X tg iter (gI X.K it)) (ht:TgC g t n m) (hg:∀y,PG (mkC X scope ownN y) tg g) (hc:∀y,PT (mkC X scope ownN y) c (gT gc)) (he:∀y,PE (mkC X scope ownN y) elt (gE fe re))
  (hs:∀x,foldedSetIterable iter X.env x=pure x):PE X (.ListComp elt [⟨tg,iter,[c],0⟩] scope pos) (gE (cG n it t gc fe re) true):=
 GZ S hn hm hcalm hi ht (fun X' cc=>by obtain ⟨y,rfl⟩:=jZ cc;exact hg y) (fun X' cc=>by obtain ⟨y,rfl⟩:=jZ cc;exact hc y) (fun X' cc=>by obtain ⟨y,rfl⟩:=jZ cc;exact he y) hs
theorem nJ {y:Str} {py pos2:Pos} {iy:Nat} {o:Bool} (S:b_ X.N X.env.scope scope ownN) (hn:X.N.length=n) (hm:ownN.length=m) (hcalm:X.calm=true) (hi:PI X tg iter (gI X.K it)) (ht:TgC g t n m) (hg:∀y,PG (mkC X scope ownN y) tg g) (he:∀y,PE (mkC X scope ownN y) elt (gE fe re))
  (hs:∀x,foldedSetIterable iter X.env x=pure x) (ho:own iy=o) (hNn:X.N.Nodup) (hiy:X.N[iy]?=some y) (hxy:Loc X.env.scope y) (hfy:X.fn y=true\/X.env.scope.names.lookup y=some .local) (hsw:swapsWith (.ListComp elt [⟨tg,iter,[],0⟩] scope pos) (some (.Name y py)) pos2.line X.env=pure true) :
  PS X (.Assign [.Name y py] (.ListComp elt [⟨tg,iter,[],0⟩] scope pos) pos2) (tS own (bL o iy (cG n it t fG fe re) true)):=
 TY S hn hm hcalm hi ht (fun X' cc=>by obtain ⟨y,rfl⟩:=jZ cc;exact hg y) (fun X' cc=>by obtain ⟨y,rfl⟩:=jZ cc;exact he y) hs ho hNn hiy hxy hfy hsw
theorem mF {y:Str} {py pos2:Pos} {iy:Nat} {o:Bool} (S:b_ X.N X.env.scope scope ownN) (hn:X.N.length=n) (hm:ownN.length=m) (hcalm:X.calm=true) (hi:PI X tg iter (gI X.K it)) (ht:TgC g t n m) (hg:∀y,PG (mkC X scope ownN y) tg g) (hc:∀y,PT (mkC X scope ownN y) c (gT gc)) (he:∀y,PE (mkC X scope ownN y) elt (gE fe re))
  (hs:∀x,foldedSetIterable iter X.env x=pure x) (ho:own iy=o) (hNn:X.N.Nodup) (hiy:X.N[iy]?=some y) (hxy:Loc X.env.scope y) (hfy:X.fn y=true\/X.env.scope.names.lookup y=some .local) (hsw:swapsWith (.ListComp elt [⟨tg,iter,[c],0⟩] scope pos) (some (.Name y py)) pos2.line X.env=pure true) :
  PS X (.Assign [.Name y py] (.ListComp elt [⟨tg,iter,[c],0⟩] scope pos) pos2) (tS own (bL o iy (cG n it t gc fe re) true)):=
 G5 S hn hm hcalm hi ht (fun X' cc=>by obtain ⟨y,rfl⟩:=jZ cc;exact hg y) (fun X' cc=>by obtain ⟨y,rfl⟩:=jZ cc;exact hc y) (fun X' cc=>by obtain ⟨y,rfl⟩:=jZ cc;exact he y) hs ho hNn hiy hxy hfy hsw
end
noncomputable def lG (P:Program) (w:World) (K:PySem.W.Frag) (mg:Str->Option Value) (base:Heap) (k:Nat) (x:Str) (n:Nat) (f:List D->Res D):Prop:=
 ∃(fad:Addr) (fd:FuncData) (ps:List Str),vV P w K mg base CX0 k fad fd ps (spD f n)/\mg x=some (.ref fad)/\PySem.W.keepIn K (.ref fad)=true/\Binds K fd ps []
section
variable {X:Cx} {e:Expr} {es:List Expr} {pos p:Pos} {fs:FA} {rr:Bool} {x:Str} {k n:Nat} {f:List D->Res D}
theorem jT {k':Nat} (C:lG X.prog X.w X.K X.mg X.base k x n f) (hr:m8 k' X.A) (hkk:k<=k') (hg:Gl X x) (ha:PA X (e::es) (gA fs rr)) (hdb:nDb x:=by decide) (he:starEach (e::es) X.env=(false,eval e X.env)::starEach es X.env:=by rfl) (hpl:(backTo pos (starEach es X.env)).any (·.1)=false:=by rfl) :
  PE X (.Call (.Name x p) (e::es) [] pos) (gE (bD (tZ n f) fs) true):=by
 obtain ⟨fad,fd,ps,F,hm,hk,hb⟩:=C;exact TJ F (hr.mono hkk) hg hm hk hb ha hdb he hpl
theorem pJ {P:Program} {w:World} {K:PySem.W.Frag} {mg:Str->Option Value} {base:Heap} {st:Stmt} {fad:Addr} {fd:FuncData} {N ps:List Str} {fs:FS} (F:Fun K x x st fad fd) (hm:mg x=some (.ref fad)) (hb:Binds K fd ps []) (S:cT N ps (aP st)) (own:Nat->Bool) (hown:∀i,i<ps.length->own i=false) (hNl:ps.length<=N.length)
  (hbody:∀(cdv:Value) (A:Around) (outer:List Env) (s:Shared) (H:Hp) (E:XK),m8 k (A.deeper (envOfC x (aP st) s.heap.objs.size fad cdv))->PSs (KD CX0 P w K mg base N x (aP st) fad cdv A outer s H E).nox (fM st) (tS own fs)) (hx:own rtX=false:=by rfl):lG P w K mg base (k+1) x ps.length (fnS ps.length N.length fs):=
 ⟨fad,fd,ps,YF F S own hown hNl hbody hx,hm,F.kp,hb⟩
end
theorem G7 {A:Around} {k:Nat} (hr:m8 k A):A.units+20<cLine:=Nat.lt_of_le_of_lt (Nat.add_le_add_left (by decide:20<=64) _) hr.units
structure Bt (mg:Str->Option Value):Prop where
 len:mg "len" = none
 min:mg "min" = none
 max:mg "max" = none
 list:mg "list" = none
 tuple:mg "tuple" = none
 sorted:mg "sorted" = none
 range:mg "range" = none
 isi:mg "isinstance" = none
 int:mg "int" = none
 bool:mg "bool" = none
 str:mg "str" = none
 dict:mg "dict" = none
 all:mg "all" = none
 enum:mg "enumerate" = none
 sum:mg "sum" = none
 zip:mg "zip" = none
 abs:mg "abs" = none
 reversed:mg "reversed" = none
theorem gP:bootBuiltins "len" = some (.builtin "len"):=by decide +kernel
theorem YG:bootBuiltins "max" = some (.builtin "max"):=by decide +kernel
theorem iM:bootBuiltins "isinstance" = some (.builtin "isinstance"):=by decide +kernel
theorem G8:bootBuiltins "list" = some (.type "list"):=by decide +kernel
theorem dG:bootBuiltins "tuple" = some (.type "tuple"):=by decide +kernel
theorem YH:bootBuiltins "str" = some (.type "str"):=by decide +kernel
theorem ints_rep {P:Addr->Prop} {H:Hp}:∀ns:List Int,bH P H (ns.map V.int) (ns.map D.int)
 | []=>.nil
 | n::ns=>.cons (.int n) (ints_rep ns)
end Mi
namespace Mi
open PySem L2
theorem G9 {K:PySem.W.Frag} {f:List D->Res D} {H:Hp} {a:Addr} {ns:List Int} {E:XK} (main:∀ns:List Int,ns.length<=63->f [.scr (ns.map D.int)]=.ok (.bl true)) (hl:ns.length<=63) (hO:Only H) (hS:SqL K H a (ns.map V.int)):@spD ⟨K⟩ f 1 [.ref a] H (fun v _=>v=.bl true) E:=by
 letI:KFrag:=⟨K⟩
 refine ⟨[.scr (ns.map D.int)],.bl true,rfl,.cons (.frz ?_ (ints_rep ns)) .nil,main ns hl,fun v H' s r n=>by cases r;rfl⟩;rcases hS with (h|⟨o,h⟩)|h
 ·rcases hO a with z|⟨o,xs,z⟩
  ·rw [h] at z;cases z
  ·rw [h] at z;cases z
 ·exact .inl ⟨o,h⟩
 ·exact .inr h
end Mi
end
section
namespace Mi
open PySem L2 PySem.SeqAt PySem.Spec PyProof.Rows
noncomputable def rR:D->D->Res D
 | .str x,.int n=>if decide (0<=n)&&decide (n<=100000)&&decide (x.length*n.toNat<=lim) then .ok (.str (Txt.mul x n)) else .bad
 | a,b=>aN .mul a b
noncomputable def inX:D->D->Res D
 | .str c,.str x=>.ok (.bl (!(Builtin.Str.occurrences x c 0 x.length 1).isEmpty))
 | a,b=>b8 .isin a b
noncomputable def YJ:D->Option Int->Option Int->Res D
 | .str x,lo,hi=>if decide (x.length<=lim) then .ok (.str (Txt.slice x lo hi)) else .bad
 | d,lo,hi=>aAh d lo hi
noncomputable def iY (a:FE) (lo hi:List D->Res (Option Int)):FE:=fun ρ=>do let x <- a ρ;let l <- lo ρ;let h <- hi ρ;YJ x l h
noncomputable def rT:D->Res (List D)
 | .str x=>if decide (x.length<=lim) then .ok (rP x) else .bad
 | d=>n6 d
noncomputable def bJ (a:FE) (fr:Bool):FI:=fun ρ=>do let x <- a ρ;let xs <- rT x;pure (xs,fr||x.pure)
noncomputable def oH:List D->Option (List Str)
 | []=>some []
 | .str x::r=>(oH r).map (x::·)
 | _::_=>none
noncomputable def joinM:D->List D->Res D
 | .str sep,[.lst ds]=>match oH ds with
  | some ts=>if JoinOk sep ts then .ok (.str (Txt.join sep ts)) else .bad
  | none=>.bad
 | _,_=>.bad
variable [KFrag]
section
variable {X:Cx}
theorem mG:OpR X (binaryOp .Mult) (r2 rR true):=by
 intro pins s σ H x y v u Q I rx ry ⟨a,b,d,p,q,e,k⟩;by_cases hs:∃z n,a=.str z/\b=.int n
 ·obtain ⟨z,n,rfl,rfl⟩:=hs;simp only [rR] at e;split at e
  ·rename_i hl;cases e;simp only [Bool.and_eq_true,decide_eq_true_eq] at hl;obtain ⟨⟨h0,h1⟩,h2⟩:=hl;cases p;cases q;obtain ⟨t,rfl⟩:=rx;obtain ⟨t',rfl⟩:=ry;have hz:z.length*n.toNat<=sizeLine:=Nat.le_trans h2 (by rw [sizeLine_eq];decide);refine SB.mul ⟨?_,fun h3 _=>?_,fun _ _=>?_⟩ fun t2 k2=>⟨.str _,H,I.tok k2,⟨t2,rfl⟩,k.str⟩
   ·rw [decide_eq_false (by lia),decide_eq_false (by lia)];rfl
   ·have hn:0<n:=by lia
    have h4:(z.length:Int)*n<=2 ^ 63-1:=by
     have h5:((z.length*n.toNat:Nat):Int)<=1000000:=by
      have:lim=1000000:=by unfold lim;exact Eq.refl _
      lia
     rw [Int.natCast_mul,Int.toNat_of_nonneg h0] at h5;lia
    have h6:=(Int.le_ediv_iff_mul_le hn).mpr h4;lia
   ·unfold Builtin.Str.tooLong;exact decide_eq_false (by lia)
  ·cases e
 ·have he:rR a b=aN .mul a b:=by
   unfold rR;split
   ·exact absurd ⟨_,_,rfl,rfl⟩ hs
   ·rfl
  rw [he] at e;exact X4 pins s σ H x y v u Q I rx ry ⟨a,b,d,p,q,e,k⟩
theorem wU (hu:X.A.units+20<cLine):OpR X (compareOp .In) (r2 inX true):=by
 intro pins s σ H x y v u Q I rx ry ⟨a,b,d,p,q,e,k⟩;by_cases hs:∃z n,a=.str z/\b=.str n
 ·obtain ⟨z,n,rfl,rfl⟩:=hs;cases e;cases p;cases q;exact BX pins s σ H _ _ v u Q I rx ry ⟨_,_,rfl,rfl,k.bl⟩
 ·have he:inX a b=b8 .isin a b:=by
   unfold inX;split
   ·exact absurd ⟨_,_,rfl,rfl⟩ hs
   ·rfl
  rw [he] at e;exact aB7 hu pins s σ H x y v u Q I rx ry ⟨a,b,d,p,q,e,k⟩
theorem part_of {v:Value} {o:Option Int} (h:IsPart v o):∃l:Option (Int×Tok),partValue l=v/\l.map (·.1)=o:=by
 cases h with
 | none=>exact ⟨none,rfl,rfl⟩
 | int i t=>exact ⟨some (i,t),rfl,rfl⟩
theorem YK (hK:KFrag.K=X.K):SlR X (fun x lo hi H Q=>∃a d,Rep All H x a/\YJ a lo hi=.ok d/\kR H d true Q):=by
 intro pins s σ H x v vl vu lo hi sl Q I rx hs pl pu ⟨a,d,p,e,k⟩;by_cases hz:∃z,a=.str z
 ·obtain ⟨z,rfl⟩:=hz;simp only [YJ] at e;split at e
  ·rename_i hl;cases e;cases p;obtain ⟨t,rfl⟩:=rx;obtain ⟨l,e1,e2⟩:=part_of pl;obtain ⟨m,e3,e4⟩:=part_of pu;subst e1 e2 e3 e4;refine ⟨"str",_,F.slot_str_getitem.lookup,typeIs_str _ _ _,?_⟩;obtain ⟨o,ho,hc,hd⟩:=hs;refine wpAny_getItem_str_slice (l:=l) (u:=m) (st:=none) ⟨o,ho,hc,hd⟩ rfl ?_;have hle:(Txt.slice z (l.map (·.1)) (m.map (·.1))).length<=sizeLine:=Nat.le_trans (Txt.slice_le ..) (iK hl);have q:∀(t':Tok) (k2:Nat),EP X pins σ Q (.str (Txt.slice z (l.map (·.1)) (m.map (·.1))) t') {s with toks:=k2}:=fun t' k2=>⟨.str _,H,I.tok k2,⟨t',rfl⟩,k.str⟩
   show Made.post (if ((1:Int)==1&&(Builtin.Str.strSliceIndices (l.map (·.1)) (m.map (·.1)) 1 z.length).length==z.length)=true then .val (.str z t) else .str ⟨((Builtin.Str.strSliceIndices (l.map (·.1)) (m.map (·.1)) 1 z.length).filterMap (z.cps[·]?)).toArray⟩) _ s;unfold Txt.slice at hle q;split
   ·rename_i hh;have:=q t s.toks;rw [if_pos hh] at this;exact this
   ·rename_i hh;rw [if_neg hh] at hle;have:=q s.toks (s.toks+1);rw [if_neg hh] at this;exact ⟨hle,this⟩
  ·cases e
 ·have he:YJ a lo hi=aAh a lo hi:=by
   unfold YJ;split
   ·exact absurd ⟨_,rfl⟩ hz
   ·rfl
  rw [he] at e;exact aB9 hK pins s σ H x v vl vu lo hi sl Q I rx hs pl pu ⟨a,d,p,e,k⟩
theorem iC {e:Expr} {fe:FE} {re:Bool} {pos:Pos} {lo hi:Option Expr} {p2:Pos} {fl fh:List D->Res (Option Int)} (hK:KFrag.K=X.K) (he:PE X e (gE fe re)) (hl:PO X lo (gO fl)) (hh:PO X hi (gO fh)):PE X (.Subscript e (.Slice lo hi none p2) pos) (gE (iY fe fl fh) true):=
 PE.imp (K7 (YK hK) he hl hh) fun σ H Q ⟨ρ,d,E,h,q⟩=>by
  obtain ⟨x,h1,h⟩:=aX h;obtain ⟨l,h2,h⟩:=aX h;obtain ⟨u,h3,h⟩:=aX h;exact ⟨ρ,x,E,h1,fun v H1 s1 r1 _=>⟨ρ,l,E.same s1,h2,fun H2 s2=>⟨ρ,u,E.same (s1.trans s2),h3,fun H3 s3=>⟨x,d,r1.same (s2.trans s3),h,q.imp ((s1.trans s2).trans s3) id⟩⟩⟩⟩
theorem wV {P:Addr->Prop} {H:Hp}:∀{xs:List V} {ds:List D} {its:List Value} {ts:List Str},bH P H xs ds->Vals xs its->oH ds=some ts->∃l:List (Str×Tok),its=strValues l/\l.map (·.1)=ts
 | [],[],[],_,_,_,h=>by cases h;exact ⟨[],rfl,rfl⟩
 | _,_,_,_,.cons (d:=d) r t,.cons rv tv,h=>by
  cases d with
  | str z=>
   obtain ⟨ts,h1,h2⟩:=Option.map_eq_some_iff.mp h;cases r;obtain ⟨tk,rfl⟩:=rv;obtain ⟨l,e1,e2⟩:=wV t tv h1;refine ⟨(z,tk)::l,?_,?_⟩
   ·rw [e1];rfl
   ·rw [<-h2,<-e2];rfl
  | _=>simp only [oH] at h;cases h
theorem T4:MtR X "str.join" (rm joinM true):=by
 intro pins s σ H x xs v us Q I rv vr ⟨a,ds,d,ra,rs,h,k⟩;unfold joinM at h;split at h
 ·split at h
  ·rename_i ts hts;split at h
   ·rename_i hok;cases h;obtain ⟨vv,uu,rfl,rfl,r,rk⟩:=jY rs vr;obtain ⟨l,ys,rfl,hl,rr⟩:=r.fH (K:=X.K);cases rk;cases ra;obtain ⟨t,rfl⟩:=rv;obtain ⟨its,vr',pl⟩:=iU I hl;obtain ⟨l2,e1,e2⟩:=wV rr vr' hts;subst e1;exact SC.join pl e2 hok fun t' k2=>⟨.str _,H,I.tok k2,⟨t',rfl⟩,k.str⟩
   ·cases h
  ·cases h
 ·cases h
theorem M8 {d:D} {ds:List D} {r:D} {v:V} {H:Hp} (h:joinM d ds=.ok r) (rp:Rep All H v d):tyV X.K "str" v H:=by
 have:∃z,d=.str z:=by
  unfold joinM at h;split at h
  ·exact ⟨_,rfl⟩
  ·cases h
 obtain ⟨z,rfl⟩:=this;cases rp;rfl
theorem M9 {P:Program} {w:World} {K:PySem.W.Frag} {tg:Expr} (x:Str) (t:Tok) (it:Addr):Turn P w K tg (aBb x) [it] it (fun i h=>h.IsStrIter it (strIterType x) x t i) where
 mem:=by simp
 obj:=fun i h st b hb=>by
  have e:b=it:=by simpa using hb
  subst e;obtain ⟨o,e,c,d⟩:=st;exact ⟨o,e,fun v z=>by rw [d] at z;cases z⟩
 keep:=fun i h h' st k=>by
  obtain ⟨o,e,r⟩:=st;exact ⟨o,k it (by simp) o e,r⟩
 item:=by
  intro Y hP hw hK hc i pins s σ H E I hf st hg;subst hP hw hK;obtain ⟨f0,f1,f2,f3,f4,f5⟩:=hf it (by simp);have hx:x.cps[i]?=some x.cps[i]:=Array.getElem?_eq_getElem hg;have fin:∀(h':Heap) (ty:String),(["enumerate", "zip", "dict_itemiterator", "dict_reverseitemiterator", "odict_iterator", "itertools.zip_longest", "itertools.pairwise"].contains ty=false)->strIterType x=ty->h'.IsStrIter it ty x t (i+1)->Heap.SameBut it s.heap h'->
    ∃u,some (Value.str ⟨#[x.cps[i]]⟩ s.toks)=some u/\wpAny (model Y.prog Y.w) Y.A (letOwnedTupleGo tg (.ref it) u) (fun _ s2=>∃v H',Inv Y pins σ H' s2/\RelV v u/\(aBb x).yld i H v H'/\s2.heap.IsStrIter it (strIterType x) x t (i+1)/\∀b∈[it],H' b=none) E {s with heap:=h',toks:=s.toks+1}:=by
   intro h' ty hn hty st' sb;have I1:Inv Y pins σ H {s with heap:=h',toks:=s.toks+1}:=I.turned (fun b o hb e=>(sb.2 b hb).trans e) f0 f1 f3 f4 f5;obtain ⟨o,e,c,d⟩:=id st';exact ⟨_,rfl,K3 (s:={s with heap:=h',toks:=s.toks+1}) e c d hn ⟨.str ⟨#[x.cps[i]]⟩,H,I1,⟨_,rfl⟩,⟨rfl,_,hx,rfl⟩,by rw [hty];exact st',fun b hb=>(hf b hb).1⟩⟩
  cases ha:x.cps.all (·<128)
  ·have hty:strIterType x = "str_iterator":=by simp [strIterType,ha]
   rw [hty] at st;exact wpAny_pyNext_wide_item st hx fun h' st' sb=>fin h' _ (by decide) hty st' sb
  ·have hty:strIterType x = "str_ascii_iterator":=by simp [strIterType,ha]
   rw [hty] at st;exact wpAny_pyNext_ascii_item st hx fun h' st' sb=>fin h' _ (by decide) hty st' sb
 done:=by
  intro Y hP hw hK hc i pins s σ H E I hf st hg;subst hP hw hK;obtain ⟨f0,f1,f2,f3,f4,f5⟩:=hf it (by simp);have hx:x.cps[i]?=none:=Array.getElem?_eq_none hg;cases ha:x.cps.all (·<128)
  ·have hty:strIterType x = "str_iterator":=by simp [strIterType,ha]
   rw [hty] at st;exact wpAny_pyNext_wide_end (I.ok.hd hc) st hx fun h' eb=>⟨rfl,I.turned (t':=s.toks) (fun b o hb e=>eb b o hb e) f0 f1 f3 f4 f5⟩
  ·have hty:strIterType x = "str_ascii_iterator":=by simp [strIterType,ha]
   rw [hty] at st;exact wpAny_pyNext_ascii_end (I.ok.hd hc) st hx fun h' eb=>⟨rfl,I.turned (t':=s.toks) (fun b o hb e=>eb b o hb e) f0 f1 f3 f4 f5⟩
 self:=fun _ _ _ _ _ st h=>by
  cases ha:x.cps.all (·<128)
  ·have hty:strIterType x = "str_iterator":=by simp [strIterType,ha]
   rw [hty] at st;exact wpAny_pyIter_striter_wide st h
  ·have hty:strIterType x = "str_ascii_iterator":=by simp [strIterType,ha]
   rw [hty] at st;exact wpAny_pyIter_striter_ascii st h
section
variable {tg l a:Expr} {fl fa:FE} {rl ra:Bool} {p pos:Pos}
theorem G_ {pins:List (Addr×Obj)} {s1:Shared} {σ:L2.St} {H1:Hp} {R:It->Hp->Prop} {v:V} {u:Value} {d:D} {items:List D} (I1:Inv X pins σ H1 s1) (r:Rep All H1 v d) (ru:RelV v u) (hi:rT d=.ok items)
  (q:∀J,(∀P:Addr->Prop,Rep P H1 v d->ItQ X.K P J H1 items)->R J H1):wpAny (model X.prog X.w) X.A (pyIter u) (PIE X pins σ tg R) X.xe s1:=by
 by_cases hz:∃z,d=.str z
 ·obtain ⟨z,rfl⟩:=hz;simp only [rT] at hi;split at hi
  ·cases hi;cases r;obtain ⟨t,rfl⟩:=ru;refine wpAny_pyIter_strU ?_;refine ⟨s1.heap.objs.size,[s1.heap.objs.size],_,_,H1,rfl,I1.kept (t':=s1.toks) fun b o e=>Heap.get?_push_of_some _ e,M9 z t _,⟨_,Heap.get?_push_size _ rfl,rfl,rfl⟩,fun b hb=>?_,q _ fun P r=>.chs z rfl rfl⟩;have e:b=s1.heap.objs.size:=by simpa using hb
   subst e;exact I1.aAb (Nat.le_refl _) (I1.hok.fresh (Nat.le_refl _))
  ·cases hi
 ·have he:rT d=n6 d:=by
   unfold rT;split
   ·exact absurd ⟨_,rfl⟩ hz
   ·rfl
  rw [he] at hi;exact wN I1 r ru hi q
theorem eX (hl:PE X l (gE fl rl)):PI X tg l (gI X.K (bJ fl rl)):=by
 intro pins s σ H R I ⟨ρ,items,k,E,h,q⟩;obtain ⟨d,h1,h⟩:=aX h;obtain ⟨its,h2,h⟩:=aX h;cases h;refine thn (hl pins s σ H _ I ⟨ρ,d,E,h1,fun v H1 s1 r1 n1=>(show (∃d',Rep All H1 v d/\d'=d/\∀J,(∀P:Addr->Prop,Rep P H1 v d->ItQ X.K P J H1 items)->R J H1) from ⟨d,r1,rfl,fun J hJ=>q J H1 s1 (hJ _ r1) fun hk=>hJ _ ?_⟩)⟩) fun u s1 ⟨v,H1,I1,ru,d',r1,e,q1⟩=>G_ I1 r1 ru h2 q1
 rw [Bool.or_eq_true] at hk;rcases hk with hk|hk
 ·exact n1 hk
 ·exact r1.bI hk
end
end
section
variable {X:Cx} {pos p:Pos} {x:Str} {k:Nat} {f:List D->Res D}
end
end Mi
end
section
namespace Mi
open PySem L2
theorem a_:lim=1000000:=by unfold lim;exact Eq.refl _
theorem HB {n:Nat} {ρ:List D} (h:ρ.length=n):v6 n ρ=ρ:=by
 subst h;apply List.ext_getElem
 ·simp [v6]
 ·intro i h1 h2;simp [v6,h2]
theorem mH {n:Nat} {f:List D->Res D} {ds:List D} (h:ds.length=n):tZ n f ds=f ds:=by
 unfold tZ;rw [if_pos (by simp [h])]
theorem aH {f:D->D->Res D} {a b:FE} {ρ:List D} {x y z:D} (h1:a ρ=.ok x) (h2:b ρ=.ok y) (h3:f x y=.ok z):b2 f a b ρ=.ok z:=by
 unfold b2;rw [h1,Res.aK,h2,Res.aK,h3]
theorem cD {i:Nat} {f:FE} {ρ:List D} {d:D} (h:f ρ=.ok d):bL false i f true ρ=.ok (.nx (ρ.set i d)):=by
 unfold bL;rw [h,Res.aK];rfl
theorem dM {i:Nat} {f:FE} {ρ:List D} {d:D} (h:f ρ=.ok d) (hp:d.pure=true):bL false i f false ρ=.ok (.nx (ρ.set i d)):=by
 unfold bL;rw [h,Res.aK];simp only [hp,Bool.false_or,Bool.false_eq_true,if_false,if_true]
theorem eG {i:Nat} {f:FE} {ρ:List D} {d:D} (h:f ρ=.ok d) (hp:inner d=true):bL true i f true ρ=.ok (.nx (ρ.set i d)):=by
 unfold bL;rw [h,Res.aK];simp only [hp,Bool.and_self,if_true]
theorem T5 {i j:Nat} {ρ:List D} {d:D} (h:bR j ρ=.ok d):sAl i j ρ=.ok (.nx (ρ.set i d)):=by
 unfold sAl;rw [h,Res.aK]
theorem aJ {f g:FS} {ρ ρ':List D} {r:Res Fl} (h1:f ρ=.ok (.nx ρ')) (h2:g ρ'=r):bA f g ρ=r:=by
 unfold bA;rw [h1,Res.aK];exact h2
theorem T6 {c:FT} {f g:FS} {ρ:List D} {k:Bool} {r:Res Fl} (h1:c ρ=.ok k) (h2:(if k then f ρ else g ρ)=r):sIf c f g ρ=r:=by
 unfold sIf;rw [h1,Res.aK];exact h2
theorem KJ {c:FT} {f g:FS} {ρ:List D} {r:Res Fl} (h1:c ρ=.ok true) (h2:f ρ=r):sIf c f g ρ=r:=T6 h1 (by rw [if_pos rfl];exact h2)
theorem wW {c:FT} {f g:FS} {ρ:List D} {r:Res Fl} (h1:c ρ=.ok false) (h2:g ρ=r):sIf c f g ρ=r:=T6 h1 (by rw [if_neg (by simp)];exact h2)
theorem d7 {f:FE} {ρ:List D} {k:Bool} (h1:f ρ=.ok (.bl k)):bTB f ρ=.ok k:=by
 unfold bTB;rw [h1,Res.aK];rfl
theorem T7 {a b:FT} {ρ:List D} {r:Res Bool} (h1:a ρ=.ok true) (h2:b ρ=r):zW a b ρ=r:=by
 unfold zW;rw [h1,Res.aK,if_pos rfl,h2]
theorem T8 {a b:FT} {ρ:List D} (h1:a ρ=.ok false):zW a b ρ=.ok false:=by
 unfold zW;rw [h1,Res.aK,if_neg (by simp)];rfl
theorem aF {a:FE} {b:FA} {ρ:List D} {x:D} {xs:List D} (h1:a ρ=.ok x) (h2:b ρ=.ok xs):aB a b ρ=.ok (x::xs):=by
 unfold aB;rw [h1,Res.aK,h2,Res.aK];rfl
theorem bG {f:List D->Res D} {a:FA} {ρ:List D} {xs:List D} {d:D} (h1:a ρ=.ok xs) (h2:f xs=.ok d):bD f a ρ=.ok d:=by
 unfold bD;rw [h1,Res.aK,h2]
theorem dO {a:FA} {ρ:List D} {xs:List D} (h:a ρ=.ok xs) (hl:xs.length<=lim):fV a ρ=.ok (.tup xs):=by
 unfold fV;rw [h,Res.aK,if_pos (decide_eq_true hl)];rfl
theorem rW {f:FE} {ρ:List D} {d:D} {k:Bool} (h:f ρ=.ok d) (hp:(k||d.pure)=true):rH f k ρ=.ok (.rt d):=by
 unfold rH;rw [h,Res.aK,if_pos hp]
theorem rY {it:FI} {t:D->List D->Res (List D)} {body:FS} {ρ:List D} {xs:List D} {r:Res Fl} (h1:it ρ=.ok (xs,true)) (h2:nH t body xs ρ=r):E_ it t body ρ=r:=by
 unfold E_;rw [h1,Res.aK];exact h2
theorem qG {i:Nat} {t:D->List D->Res (List D)} {body:FS} {ρ:List D} {d:D} {xs:List D} {r:Res Fl} (h1:bR i ρ=.ok d) (h2:n6 d=.ok xs) (h3:nH t body xs ρ=r):pR i t body ρ=r:=by
 unfold pR;rw [h1,Res.aK,h2,Res.aK];exact h3
theorem oJ {f:FA} {ρ:List D} {n:Int} (h:f ρ=.ok [.int n]) (h1:0<=n) (h2:n<=1000000):iW f gH ρ=.ok ((List.range n.toNat).map fun (k:Nat)=>D.int (0+(k:Int)),true):=by
 unfold iW;rw [h,Res.aK];have:j7 n=true:=by
  simp only [j7,Bool.and_eq_true,decide_eq_true_eq];lia
 simp only [gH,this,if_true]
theorem wX {i:Nat} {f g:FE} {ρ:List D} {kvs:List (D×D)} {k d:D} (h1:g ρ=.ok d) (h2:f ρ=.ok k) (h3:ρ.getD i .uD=.dct kvs) (h4:kvs.length<lim) (h5:zV kvs k=true) (h6:d.pure=true):zY i f g ρ=.ok (.nx (ρ.set i (.dct (putD kvs k d)))):=by
 unfold zY;rw [h1,Res.aK,h2,Res.aK,h3];simp only [decide_eq_true h4,h5,h6,Bool.and_self,if_true]
theorem mZ {i:Nat} {f:FE} {ρ:List D} {xs:List D} {d:D} (h1:f ρ=.ok d) (h3:ρ.getD i .uD=.lst xs) (h4:xs.length<lim) (h5:d.pure=true):pQ i f ρ=.ok (.nx (ρ.set i (.lst (xs++[d])))):=by
 unfold pQ;rw [h1,Res.aK,h3];simp only [decide_eq_true h4,h5,Bool.and_self,if_true]
theorem dD {t:D->List D->Res (List D)} {body:FS} {x:D} {xs:List D} {ρ ρ1 ρ2:List D} {r:Res Fl} (h1:t x ρ=.ok ρ1) (h2:body ρ1=.ok (.nx ρ2)) (h3:nH t body xs ρ2=r):nH t body (x::xs) ρ=r:=by
 rw [nH,h1,Res.aK,h2,Res.aK];exact h3
theorem HD {n:Nat} {it:FI} {t:D->Res (List D)} {c:FT} {f:FE} {k kk:Bool} {ρ:List D} {xs ys:List D} (h1:it ρ=.ok (xs,kk)) (h2:xs.length<=lim) (h3:nD (uN n t c f k ρ) [] xs=.ok ys):cG n it t c f k ρ=.ok (.lst ys):=by
 unfold cG;rw [h1,Res.aK];simp only [decide_eq_true h2,if_true];rw [h3];rfl
theorem rZ {n:Nat} {c:FT} {f:FE} {k:Bool} {ρ acc:List D} {x y:D} {b:Bool} (hρ:ρ.length=n) (h1:c (ρ++[x])=.ok b) (h2:b=true->f (ρ++[x])=.ok y/\(k||y.pure)=true):uN n i_ c f k ρ acc x=.ok (if b then acc++[y] else acc):=by
 unfold uN;show (do let ok <- c (v6 n ρ++[x]);_)=_;rw [HB hρ,h1,Res.aK];cases b with
 | true=>
  obtain ⟨e1,e2⟩:=h2 rfl;rw [if_pos rfl,e1,Res.aK,if_pos e2,if_pos rfl];rfl
 | false=>
  rw [if_neg (by simp),if_neg (by simp)];rfl
theorem cY (a b:Int):aN .add (.int a) (.int b)=.ok (.int (a+b)):=rfl
theorem sE (a b:Int):aN .sub (.int a) (.int b)=.ok (.int (a-b)):=rfl
theorem YL (a b:Int) (h:iT b=true):aN .mul (.int a) (.int b)=.ok (.int (a*b)):=by
 simp only [aN,h,Bool.or_true,if_true]
theorem cV (a b:Int) (h1:0<b) (h2:b<1073741824):aN .fdiv (.int a) (.int b)=.ok (.int (a / b)):=by
 simp only [aN,decide_eq_true h1,decide_eq_true h2,Bool.and_self,if_true]
theorem bV (a b:Int) (h1:0<b):aN .mod (.int a) (.int b)=.ok (.int (a % b)):=by
 simp only [aN,decide_eq_true h1,if_true]
theorem wY (a:Int) (h1:-1000000<=a) (h2:a<=1000000):iT a=true:=by
 simp only [iT,Bool.and_eq_true,decide_eq_true_eq];lia
theorem HF (a b:Str) (h:a.length+b.length<=lim):aN .add (.str a) (.str b)=.ok (.str (a++b)):=by
 simp only [aN,decide_eq_true h,if_true]
theorem mJ (a b:List D) (h:a.length+b.length<=lim) (ha:D.aU a=true) (hb:D.aU b=true):aN .add (.lst a) (.lst b)=.ok (.lst (a++b)):=by
 simp only [aN,decide_eq_true h,ha,hb,Bool.and_self,if_true]
theorem mK (S:List Int):D.aU (S.map D.int)=true:=by
 induction S with
 | nil=>rfl
 | cons q Q ih=>rw [List.map_cons,D.aU,ih];rfl
theorem T9 (ns:List Int) (lo hi:Option Int):cutD (ns.map D.int) lo hi=(cutD ns lo hi).map D.int:=by
 unfold cutD;rw [List.length_map,List.map_take,List.map_drop]
end Mi
end
section
namespace Mi
open PySem L2 PySem.SeqAt PySem.Spec PyProof.Rows
section
variable {P:Program} {w:World} {K:PySem.W.Frag} {mg:Str->Option Value} {base:Heap} {N:List Str} {qual:Str} {scope:Scope} {f C:Addr} {cd:Value} {A:Around} {outer:List Env} {s:Shared} {H:Hp} {E:XK}
end
section
variable [KFrag]
end
end Mi
end
section
namespace Mi
open PySem L2 PySem.W PySem.SeqAt PySem.Spec PyProof.Rows PySem.Builtin PySem.Builtin.ObjectAttr PySem.Builtin.Getset_descriptor
section
variable {prog:Program} {w:World} {A:Around} {E:Value->Shared->Prop} {s:Shared} {K:Frag} {x C:Addr}
end
end Mi
end
section
namespace Mi
open PySem L2 PySem.W PySem.SeqAt PySem.Spec PyProof.Rows
section
variable {X:Cx} {pins:List (Addr×Obj)} {σ:L2.St} {H H1 H2:Hp} {s:Shared} {h h6:Heap} {a:Addr}
end
end Mi
end
section
namespace Mi
open PySem L2 PySem.W PySem.SeqAt PySem.Spec PyProof.Rows
variable [KFrag]
section
variable {X:Cx} {C:Addr} {i:Nat} {cs:List Addr} {b:Bool} {y:Str} {p np tpos pos:Pos} {es:List Expr} {kk:Nat} {ce:Expr} {v:V} {u:Value}
end
end Mi
end
section
namespace Mi
open PySem L2 PySem.SeqAt PySem.Spec PyProof.Rows
noncomputable def intsOf:List D->Option (List Int)
 | []=>some []
 | .int i::r=>(intsOf r).map (i::·)
 | _::_=>none
noncomputable def u9:List D->Res D
 | [.lst ds]=>match intsOf ds with
  | some ns=>if ns.all (fun i=>decide (-1000<=i)&&decide (i<=1000))&&decide (ns.length<=100000) then .ok (.int ns.sum) else .bad
  | none=>.bad
 | _=>.bad
theorem sG:∀{ds:List D} {ns:List Int},intsOf ds=some ns->ds=ns.map D.int
 | [],ns,h=>by cases h;rfl
 | d::ds,ns,h=>by
  unfold intsOf at h;split at h
  ·rename_i e;cases e
  ·rename_i i r e;cases e;obtain ⟨ms,h1,h2⟩:=Option.map_eq_some_iff.mp h;subst h2;rw [List.map_cons,<-sG h1]
  ·cases h
theorem HH (ps:List (Int×Tok)):∀j,j<=ps.length->preSum (numAt ps.toArray) j=((ps.map (·.1)).take j).sum:=by
 intro j;induction j with
 | zero=>intro _;simp [preSum]
 | succ j ih=>
  intro hj;have hlt:j<ps.length:=by lia
  have e:numAt ps.toArray j=(ps.map (·.1))[j]'(by simpa using hlt):=by simp [numAt,hlt]
  rw [preSum,ih (by lia),e,<-List.take_append_getElem (by simpa using hlt),List.sum_append];simp
theorem sI (c:Int) (hc:0<=c):∀(l:List Int),(∀i∈l,-c<=i/\i<=c)->-(c*l.length)<=l.sum/\l.sum<=c*l.length
 | [],_=>by simp
 | x::l,h=>by
  have h1:=h x (List.mem_cons_self ..);have h2:=sI c hc l fun i hi=>h i (List.mem_cons_of_mem _ hi)
  simp only [List.sum_cons,List.length_cons,Int.natCast_add,Int.mul_add];simp only [Int.natCast_one,Int.mul_one];lia
variable [KFrag]
section
variable {X:Cx} {a e:Expr} {es:List Expr} {p p2 pos pos2:Pos} {fs:FA} {rr:Bool}
end
section
variable {X:Cx} {own:Nat->Bool} {a b e:Expr} {pos:Pos} {fs:FA} {rr re:Bool} {fe:FE}
theorem jC {P:Addr->Prop} {H:Hp}:∀{ns:List Int} {ys:List V} {its:List Value},bH P H ys (ns.map D.int)->Vals ys its->∃ps:List (Int×Tok),its=ps.map (fun p=>Value.int p.1 p.2)/\ps.map (·.1)=ns
 | [],_,_,.nil,.nil=>⟨[],rfl,rfl⟩
 | n::ns,_,_,.cons r t,.cons v vs=>by
  obtain ⟨ps,h1,h2⟩:=jC t vs;cases r;obtain ⟨tk,rfl⟩:=v;exact ⟨(n,tk)::ps,by rw [h1];rfl,by rw [List.map_cons,h2]⟩
theorem QF (hc:X.calm=true):lN X (.builtin "sum") (rs u9 true):=by
 intro pins s σ H xs us Q I vr ⟨ds,d,r,e,k⟩;unfold u9 at e;split at e
 ·split at e
  ·rename_i ns hns;split at e
   ·rename_i hb;rw [Bool.and_eq_true] at hb;cases e;obtain ⟨vv,uu,rfl,rfl,r,v⟩:=jY r vr;obtain ⟨l,ys,rfl,hl',rr⟩:=r.fH (K:=X.K);cases v;rw [sG hns] at rr;obtain ⟨its,vi,il,_⟩:=I.list hl';obtain ⟨ps,h1,h2⟩:=jC rr vi;subst h1;have hlen:ps.length=ns.length:=by rw [<-h2,List.length_map]
    have hn:ns.length<=100000:=of_decide_eq_true hb.2;have hall:∀i∈ns,-1000<=i/\i<=1000:=fun i hi=>by
     have:=List.all_eq_true.mp hb.1 i hi;rw [Bool.and_eq_true,decide_eq_true_eq,decide_eq_true_eq] at this;exact this
    have ia:s.heap.IsList l (intItems ps.toArray):=by
     obtain ⟨o,n,e1,e2,e3,e4⟩:=il;exact ⟨o,e1,e2,n,by simpa [intItems] using e4⟩
    refine sum_intList (I.ok.hd hc) ia (fun j hj=>?_) fun h' tk t' kp=>⟨.int ns.sum,H,I.kept (t':=tk) kp,⟨t',?_⟩,k _ _ (cH.refl H) (.int _) fun _=>.int _⟩
    ·have hj':j<ps.length:=by simpa using hj
     refine ⟨?_,?_⟩
     ·have hm:numAt ps.toArray j∈ns:=by
       have e:numAt ps.toArray j=(ps.map (·.1))[j]'(by simpa using hj'):=by simp [numAt,hj']
       rw [e,<-h2];exact List.getElem_mem _
      have:=hall _ hm;unfold InLong;lia
     ·rw [HH ps (j+1) (by lia),h2];have:=sI 1000 (by decide) (ns.take (j+1)) fun i hi=>hall i (List.mem_of_mem_take hi)
      have hl:(ns.take (j+1)).length<=100000:=Nat.le_trans (List.length_take_le' ..) hn;unfold InLong;lia
    ·have:=HH ps ps.length (Nat.le_refl _);rw [h2,hlen,List.take_length] at this;rw [List.size_toArray,hlen,this]
   ·cases e
  ·cases e
 ·cases e
theorem QG:bootBuiltins "sum" = some (.builtin "sum"):=by decide +kernel
end
end Mi
end
section
namespace Mi
open PySem L2 PySem.SeqAt PySem.Spec PyProof.Rows
variable [KFrag]
section
variable {X:Cx} {pins:List (Addr×Obj)} {σ:L2.St} {H:Hp} {s:Shared} {a:Addr} {kvs:List (Key×V)}
end
noncomputable def aAj:HO->Bool
 | .tup _=>false
 | .frz _ (.lst _)=>false
 | _=>true
mutual
theorem wZ {P:Addr->Prop} {H:Hp} {a:Addr} {u:HO} (ea:∀ob,H a=some ob->aAj ob=true):∀{v:V} {d:D},Rep P H v d->d.pure=true->Rep P (upd H a u) v d
 | _,_,.non,_=>.non
 | _,_,.bl b,_=>.bl b
 | _,_,.int i,_=>.int i
 | _,_,.str x,_=>.str x
 | _,_,.tup (a:=b) e r,h=>.tup (by rw [bT (fun z=>by rw [z] at e;have:=ea _ e;cases this)];exact e) (jL ea r (by rw [D.pure] at h;exact h))
 | _,_,.lst _ _ _,h=>by rw [D.pure] at h;cases h
 | _,_,.frz e r,h=>.frz (e.imp (fun ⟨o,e⟩=>⟨o,by rw [bT (fun z=>by rw [z] at e;have:=ea _ e;cases this)];exact e⟩) id) (jL ea r (by rw [D.pure] at h;exact h))
 | _,_,.cel _ _ _,h=>by rw [D.pure] at h;cases h
 | _,_,.dK _ _ _ _,h=>by rw [D.pure] at h;cases h
 | _,_,.dT _ _ _ _,h=>by rw [D.pure] at h;cases h
 | _,_,.fdK _ _ _,h=>by rw [D.pure] at h;cases h
 | _,_,.fdT _ _ _,h=>by rw [D.pure] at h;cases h
theorem jL {P:Addr->Prop} {H:Hp} {a:Addr} {u:HO} (ea:∀ob,H a=some ob->aAj ob=true):∀{v:List V} {d:List D},bH P H v d->D.aU d=true->bH P (upd H a u) v d
 | _,_,.nil,_=>.nil
 | _,_,.cons r t,h=>by
  rw [D.aU,Bool.and_eq_true] at h;exact .cons (wZ ea r h.1) (jL ea t h.2)
end
section
variable {X:Cx} {scope:Scope} {x c:Str} {i n:Nat} {elt:Expr} {fe:FE} {re:Bool} {np ap cp cpos pos:Pos}
end
end Mi
end
section
namespace Mi
open PySem L2 PySem.SeqAt PySem.Spec PyProof.Rows AutoSeq1 MeetsSeq MeetsSeq2 MeetsSeq3
section
variable {P:Program} {w:World} {l b:Addr} {xs ys:Array Value} {n m:Nat} {dd de:Option Addr} {sl sm:Array (Option Value)} {e:Nat->Bool}
end
variable [KFrag]
section
variable {X:Cx} {pins:List (Addr×Obj)} {σ:L2.St} {H:Hp} {s:Shared}
end
end Mi
end
section
namespace Mi
open PySem L2 PySem.SeqAt PySem.Spec PyProof.Rows
variable [KFrag]
section
variable {P:Program} {w:World} {K:PySem.W.Frag} {mg:Str->Option Value} {base:Heap} {x qual:Str} {st:Stmt} {fad T:Addr} {its:Array Value} {fd:FuncData} {N ps:List Str} {k:Nat} {f:FS}
end
section
variable {X:Cx} {e ke:Expr} {es:List Expr} {pos p kp:Pos} {fs:FA} {rr re:Bool} {fk:FE} {x kw:Str} {k k' n:Nat} {df:D} {f:List D->Res D}
end
end Mi
end
section
namespace Mi
open PySem L2 PySem.SeqAt PySem.Spec PyProof.Rows
noncomputable def KN:D->D->Res D
 | .tup a,.tup b=>if decide (a.length+b.length<=lim) then .ok (.tup (a++b)) else .bad
 | _,_=>.bad
noncomputable def w6 (c:FT) (body:FS):Nat->List D->Res Fl
 | 0,_=>.bad
 | n+1,ρ=>do
  let k <- c ρ
  if k then (do
   let r <- body ρ
   match r with
   | .nx ρ'=>w6 c body n ρ'
   | .ct ρ'=>w6 c body n ρ'
   | .bk ρ'=>.ok (.nx ρ')
   | .rt d=>.ok (.rt d))
  else .ok (.nx ρ)
def aAk (c:FT) (body:FS):FS:=fun ρ=>w6 c body 1000 ρ
variable [KFrag]
section
variable {X:Cx} {pos:Pos}
theorem qH:OpR X (binaryOp .Add) (r2 KN false):=by
 intro pins s σ H x y v u Q I rx ry h;obtain ⟨a,b,d,p,q,e,k⟩:=h;unfold KN at e;split at e
 ·rename_i da db;split at e
  ·rename_i hl;cases e;cases p with
   | @tup l1 xs1 _ e1 r1=>
    cases q with
    | @tup l2 xs2 _ e2 r2=>
     cases rx;cases ry;have hz:xs1.length+xs2.length<=sizeLine:=by rw [r1.length,r2.length];exact iK hl
     obtain ⟨its,w1,p1,_⟩:=I.tuple (.of e1);obtain ⟨its2,w2,p2,_⟩:=I.tuple (.of e2);obtain ⟨⟨cls,dd,data,sl⟩,ho,hc,n,hd⟩:=id p1;obtain ⟨⟨cls2,dd2,data2,sl2⟩,ho2,hc2,n2,hd2⟩:=id p2;simp only at hc hd hc2 hd2;by_cases hv:its=[]
     ·have:xs1=[]:=w1.nW.mp hv;subst this;cases r1;refine concat_meets ⟨_,ho,hc⟩ ⟨_,ho2,hc2⟩ noFill_tuple_add seq_tuple_add PySem.F.slot_tuple_add PySem.F.entry_tuple_add (PySem.F.args_tuple_add_2 _ _)
       (tuple_addW0 l1 l2 its.toArray its2.toArray n n2 dd dd2 sl sl2 (by simp [hv])) ⟨by subst hc hd;exact ho,by subst hc2 hd2;exact ho2,.ref l2,H,I,rfl,?_⟩
      exact k.self (.tup e2 r2) (fun z=>by cases z)
     ·refine R0 pins s σ H (.ref l1) (.ref l2) _ _ Q I rfl rfl ⟨l1,l2,xs1,xs2,rfl,rfl,.of e1,.of e2,fun z=>hv (w1.nW.mpr z),hz,fun z=>?_,fun z p hp=>?_⟩
      ·subst z;cases r2;rw [List.append_nil] at k;exact k.self (.tup e1 r1) (fun z=>by cases z)
      ·have sp:cH H (upd H p (.tup (xs1++xs2))):=cH.upd hp;exact k _ _ sp (.tup aO ((r1.append r2).same sp)) fun z=>by cases z
  ·cases e
 ·cases e
theorem HJ {own:Nat->Bool} {c:Expr} {body:List Stmt} {gc:FT} {fb:FS} (hp:PassesOwn (model X.prog X.w) X.A X.env X.xe) (hc:PT X c (gT gc)) (hb:PSs X body (tS own fb)):PS X (.While c body [] pos) (tS own (aAk gc fb)):=
 PS.imp (K1 hp hc hb) fun D σ H ⟨ρ,fl,E,h,q⟩=>by
 refine ⟨fun m σ' H'=>∃ρ' ,ES own H' σ' ρ'/\w6 gc fb m ρ'=.ok fl/\kS own D σ' H' fl,⟨1000,ρ,E,h,q⟩,?_⟩;rintro m σ H ⟨ρ,E,h,q⟩;cases m with
 | zero=>cases h
 | succ m=>
  rw [w6] at h;obtain ⟨k,h1,h2⟩:=aX h;refine ⟨ρ,k,E.er,h1,fun H1 s=>?_⟩;cases k with
  | true=>
   rw [if_pos rfl];rw [if_pos rfl] at h2;obtain ⟨r,h3,h4⟩:=aX h2;refine ⟨fun σ' H'=>∃ρ',ES own H' σ' ρ'/\w6 gc fb m ρ'=.ok fl/\kS own D σ' H' fl,fun σ' H' w=>⟨m,Nat.lt_succ_self m,w⟩,ρ,r,E.same s,h3,?_⟩;have q1:=q.step (.same s);cases r with
   | nx ρ'=>exact fun σ' H' ku E'=>⟨ρ',E',h4,q1.step ku⟩
   | ct ρ'=>exact fun σ' H' ku E'=>⟨ρ',E',h4,q1.step ku⟩
   | bk ρ'=>cases h4;exact fun σ' H' ku E'=>q1 σ' H' ku E'
   | rt d=>cases h4;exact q1
  | false=>
   rw [if_neg (by simp)];rw [if_neg (by simp)] at h2;cases h2;exact (q.step (.same s)) σ H1 (fun a o e n=>⟨e,n⟩) (E.same s)
end
end Mi
end
section
namespace Mi
open PySem L2 PySem.SeqAt PySem.Spec PyProof.Rows
variable [KFrag]
section
variable {X:Cx} {own:Nat->Bool} {e:Expr} {fe:FE} {re:Bool} {pos:Pos}
end
end Mi
end
section
namespace Mi
open PySem L2 PySem.SeqAt PySem.Spec PyProof.Rows
variable [KFrag]
section
variable {X:Cx} {pins:List (Addr×Obj)} {σ:L2.St} {H:Hp} {s:Shared} {a:Addr} {kvs:List (Key×V)}
end
end Mi
end
section
namespace Mi
open PySem L2 PySem.SeqAt PySem.Spec PyProof.Rows
variable [KFrag]
section
variable {X:Cx} {scope:Scope} {own:Nat->Bool} {x c y:Str} {i n iy:Nat} {elt cnd:Expr} {fe:FE} {gc:FT} {re o:Bool} {np cpos pos py pos2:Pos}
end
section
variable {own:Nat->Bool}
end
end Mi
end
section
namespace Wz
open PySem PySem.Spec
section
variable {prog:Program} {w:World} {A:Around} {E:Value->Shared->Prop} {s:Shared} {it t:Addr} {i:Nat} {xs:Array Value} {x:Value} {n:Nat} {dd:Option Addr} {sl:Array (Option Value)}
end
section
variable {z TI TO i1 i2 l1 l2:Addr} {o1 o2:Obj} {f0 f1 g0 g1 a b c d:Value} {k1 k2:Nat} {h h':Heap}
end
section
variable {prog:Program} {w:World} {A:Around} {E:Value->Shared->Prop} {s:Shared} {z TI TO i1 i2 l1 l2:Addr} {n1 n2:Nat} {d1 d2:Option Addr} {s1 s2:Array (Option Value)} {f0 f1 a b x y:Value} {k:Nat} {xs ys:Array Value}
end
end Wz
end
section
namespace Wz
open PySem PySem.Spec
section
variable {prog:Program} {w:World} {A:Around} {E:Value->Shared->Prop} {s:Shared} {z TI TO i1 i2 l1 l2:Addr} {n1 n2:Nat} {d1 d2:Option Addr} {s1 s2:Array (Option Value)} {f0 f1 a b x y:Value} {k:Nat} {xs ys:Array Value}
end
end Wz
end
section
namespace Wz
open PySem PySem.Spec
section
variable {prog:Program} {w:World} {A:Around} {E:Value->Shared->Prop} {s:Shared}
end
section
variable {prog:Program} {w:World} {A:Around} {E:Value->Shared->Prop} {hp:Heap} {g:Array GenState} {d:Drawn} {tk:Nat} {os:OsState} {a TI TO:Addr} {f0 f1:Value}
end
end Wz
end
section
namespace Wz
open PySem PySem.Spec
section
variable {prog:Program} {w:World} {A:Around} {E:Value->Shared->Prop} {s:Shared} {z TI TO i1 i2 l1 l2 d:Addr} {n1 n2:Nat} {d1 d2:Option Addr} {s1 s2:Array (Option Value)} {x y:Value} {k:Nat} {xs ys:Array Value}
end
theorem sJ:entryFor table "dict.update.loop" = some Builtin.«dict.update.loop»:=entryFor_of_tree (by kernel_rfl)
section
variable {prog:Program} {w:World} {K:Type} [DecidableEq K] {knd:KeyKind prog w K} {A:Around} {R:Except Value Flow->Shared->Prop} {z TI TO i1 i2 l1 l2 d:Addr} {n1 n2:Nat} {d1 d2:Option Addr} {s1 s2:Array (Option Value)} {xs ys:Array Value} {ks:List K}
end
section
variable {prog:Program} {w:World} {K:Type} [DecidableEq K] {knd:KeyKind prog w K} {A:Around} {E:Value->Shared->Prop} {hp:Heap} {g:Array GenState} {dr:Drawn} {tk:Nat} {os:OsState} {z TI TO i1 i2 l1 l2:Addr} {n1 n2:Nat} {d1 d2:Option Addr} {s1 s2:Array (Option Value)} {xs ys:Array Value} {ks:List K}
end
end Wz
end
section
namespace Mi
open PySem L2 PySem.SeqAt PySem.Spec PyProof.Rows
variable [KFrag]
theorem M_:bootBuiltins "dict" = some (.type "dict"):=by decide +kernel
theorem xF {P:Addr->Prop} {H:Hp} {k:Key} {v:V} {d:D} (r:Rep P H v d):∀{kvs:List (Key×V)} {ds:List (D×D)},jG P H kvs ds->(kvs.map (·.1)).Nodup->jG P H (putK kvs k v) (putD ds (kD k) d)
 | _,_,.nil,_=>.cons r .nil
 | _,_,.cons (k:=k') (v:=v') (r:=kvs) (ds:=ds) r' t,hn=>by
  rw [List.map_cons,List.nodup_cons] at hn;rw [putD,GF];by_cases h:k'=k
  ·rw [p6 h (by rw [<-h];exact hn.1),if_pos (decide_eq_true h),h];exact .cons r t
  ·rw [p7 h,if_neg (by simpa using h)];exact .cons r' (xF r t hn.2)
section
variable {X:Cx} {a b:Expr} {fs:FA} {rr:Bool} {p p2 pos pos2:Pos}
end
end Mi
end
section
namespace Mi
open PySem L2 PySem.SeqAt PySem.Spec PyProof.Rows
noncomputable def y_ (i j:Nat):FS:=fun ρ=>match ρ.getD i .uD with
 | .lst xs=>(match xs[xs.length-1]? with|some x=>.ok (.nx ((ρ.set i (.lst xs.dropLast)).set j x))|none=>.bad)
 | _=>.bad
noncomputable def T_ (i:Nat) (f:FE):FS:=fun ρ=>do
 let d <- f ρ
 match ρ.getD i .uD,d with
 | .lst xs,.lst ys=>if decide (xs.length+ys.length<=lim)&&D.aU ys then .ok (.nx (ρ.set i (.lst (xs++ys)))) else .bad
 | _,_=>.bad
variable [KFrag]
section
variable {X:Cx} {own:Nat->Bool} {e:Expr} {fe:FE} {re:Bool} {pos:Pos}
theorem UG {i j:Nat} {x y:Str} {p1 py apos cpos:Pos} (ho:own i=true) (hN:X.N[i]?=some x) (hv:Vis X.env.scope x) (hnd:X.N.Nodup) (hj:X.N[j]?=some y) (hy:Loc X.env.scope y) (hoj:own j=false) (hd:nDb x:=by decide) (hcd:nCd x:=by decide)
  (hbase:attributeBase (.Name x p1) "pop" X.env (eval (.Name x p1) X.env)=eval (.Name x p1) X.env:=by rfl)
  (hline:(apos.endLine==cpos.line)=true:=by rfl)
  (hs:swapsWith (.Call (.Attribute (.Name x p1) "pop" apos) [] [] cpos) (some (.Name y py)) pos.line X.env=pure false:=by rfl) (hf:X.fn y=true\/X.env.scope.names.lookup y=some .local:=by first|exact .inl rfl|exact .inr rfl|assumption) :
  PS X (.Assign [.Name y py] (.Call (.Attribute (.Name x p1) "pop" apos) [] [] cpos) pos) (tS own (y_ i j)):=
 PS.imp (vU hnd hj hy (PL PySem.F.plainAttrs_list PySem.F.slot_list_pop PySem.F.type_list_pop PN (gB hN hv hd hcd) hbase hline) hs hf) fun D' σ H ⟨ρ,fl,E,h,q⟩=>by
 unfold y_ at h;split at h
 ·rename_i xs hx;split at h
  ·rename_i dx hdx;cases h;obtain ⟨a,o,hσ,r,hin,ha,hm⟩:=E.ownAt ho (by rw [hx];intro z;cases z);rw [hx] at r hin;obtain ⟨vs,hl,rr⟩:=wQ r;obtain ⟨v,hvx,rv⟩:=rr.get hdx;have hlen:=rr.length;refine ⟨_,hσ,.inl ⟨rfl,vs,.of hl⟩,a,vs,v,rfl,rfl,hl,by rw [hlen];exact hvx,?_⟩;have hin':D.aU xs=true:=hin;have pall:∀y∈xs,y.pure=true:=fun y hy=>d_.mp hin' y hy
   have pdx:dx.pure=true:=pall dx (List.mem_of_getElem? hdx);have pe:D.aU xs.dropLast=true:=d_.mpr fun y hy=>pall y (List.dropLast_subset _ hy)
   have er:bH All H vs.dropLast xs.dropLast:=by
    rw [List.dropLast_eq_take,List.dropLast_eq_take,hlen];exact rr.take _
   obtain ⟨E2,k2⟩:=E.mut (o:=.lst vs.dropLast) (d:=.lst xs.dropLast) ho hσ rfl (.lst aO trivial (er.upd pe hl rfl)) pe;have r1:=(bH.cons rv .nil).upd (o:=.lst vs.dropLast) (by rw [D.aU,pdx];rfl) hl rfl;cases r1 with
   | cons r1 _=>
    have E3:=E2.set hoj (v:=v) (d:=dx) (r1.bI pdx);exact q _ _ (k2.trans fun b ob eb nb=>⟨eb,by rw [jH hoj];exact nb⟩) E3
  ·cases h
 ·cases h
theorem QH {i:Nat} {x:Str} {p1 apos cpos:Pos} (ho:own i=true) (hN:X.N[i]?=some x) (hv:Vis X.env.scope x) (he:PE X e (gE fe re)) (hd:nDb x:=by decide) (hcd:nCd x:=by decide)
  (hbase:attributeBase (.Name x p1) "extend" X.env (eval (.Name x p1) X.env)=eval (.Name x p1) X.env:=by rfl)
  (hs1:starEach [e] X.env=(false,eval e X.env)::starEach [] X.env:=by rfl)
  (hfew:((backTo cpos (starEach [e] X.env)).all (fun x=>!x.1)&&(backToKw cpos (keywordEach [] X.env)).all (fun x=>x.1.isSome)
   && decide (([e]:List Expr).length+([]:List Keyword).length+(if ([]:List Keyword).isEmpty then 0 else 1)<30))=true:=by rfl)
  (hline:(apos.endLine==cpos.line)=true:=by rfl)
  (hs:swapsWith (.Call (.Attribute (.Name x p1) "extend" apos) [e] [] cpos) none pos.line X.env=pure false:=by rfl) :
  PS X (.Expr (.Call (.Attribute (.Name x p1) "extend" apos) [e] [] cpos) pos) (tS own (T_ i fe)):=
 PS.imp (BL (R3 PySem.F.plainAttrs_list PySem.F.slot_list_extend PySem.F.type_list_extend CV (gB hN hv hd hcd) (gC he nR hs1) hbase hfew hline hs1 rfl) hs) fun D' σ H ⟨ρ,fl,E,h,q⟩=>by
 obtain ⟨d,h1,h2⟩:=aX h;split at h2
 ·rename_i xs ys hx;split at h2
  ·rename_i hk;cases h2;rw [Bool.and_eq_true,decide_eq_true_eq] at hk;obtain ⟨a,o,hσ,r,hin,ha,hm⟩:=E.ownAt ho (by rw [hx];intro z;cases z);rw [hx] at r hin;obtain ⟨vs,hl,rr⟩:=wQ r;refine ⟨_,hσ,.inl ⟨rfl,vs,.of hl⟩,ρ,_,E.er,h1,fun v H' s rv _=>?_⟩;cases rv with
   | @lst b zs _ hb _ rz=>
    have E':=E.same s;have hl':=s _ _ hl;refine ⟨a,b,vs,zs,rfl,rfl,hl',hb,by rw [rr.length,rz.length];exact Nat.le_trans hk.1 (by rw [sizeLine_eq];decide),?_⟩;have hp:D.aU (xs++ys)=true:=by rw [oG,Bool.and_eq_true];exact ⟨hin,hk.2⟩
    obtain ⟨E2,k2⟩:=E'.mut (o:=.lst (vs++zs)) (d:=.lst (xs++ys)) ho hσ rfl (.lst aO trivial (((rr.same s).append rz).upd hp hl' rfl)) hp;exact q _ _ ((KU.same s).trans k2) E2
  ·cases h2
 ·cases h2
end
end Mi
end
section
namespace Ws
open PySem PySem.Spec PySem.Builtin PySem.Builtin.Str
end Ws
namespace Mi
open PySem L2 PySem.SeqAt PySem.Spec PyProof.Rows
variable [KFrag]
end Mi
end
section
namespace Ws
open PySem PySem.Spec PySem.Builtin PySem.SeqAt PyProof.Rows
section
variable {prog:Program} {w:World} {A:Around} {E:Value->Shared->Prop} {s:Shared}
end
end Ws
namespace Mi
open PySem L2 PySem.SeqAt PySem.Spec PyProof.Rows
noncomputable def UJ (y:D):List D->Option Nat
 | []=>none
 | z::r=>if eqD z y then some 0 else (UJ y r).map (·+1)
noncomputable def j0:D->List D->Res D
 | .lst xs,[y]=>if y.bK aQ&&D.bY aQ xs then (match UJ y xs with|some j=>.ok (.int j)|none=>.bad) else .bad
 | _,_=>.bad
variable [KFrag]
theorem HN {H:Hp} {a:D}:∀{xs:List V} {ds:List D} {its:List Value} {j:Nat},D.bY aQ ds=true->bH All H xs ds->Vals xs its->UJ a ds=some j->∃hj:j<its.length,eqD (pX H its[j]) a=true/\∀m (hm:m<its.length),m<j->eqD (pX H its[m]) a=false
 | _,_,_,_,_,.nil,.nil,h=>by cases h
 | _,_,_,j,hq,.cons r t,.cons v vt,h=>by
  rw [D.bY,Bool.and_eq_true] at hq;rw [UJ] at h;split at h
  ·rename_i he;cases h;refine ⟨Nat.zero_lt_succ _,?_,fun m hm z=>absurd z (Nat.not_lt_zero _)⟩;rw [List.getElem_cons_zero,pY hq.1 v r];exact he
  ·rename_i he;obtain ⟨k,h1,rfl⟩:=Option.map_eq_some_iff.mp h;obtain ⟨hj,h2,h3⟩:=HN hq.2 t vt h1;refine ⟨Nat.succ_lt_succ hj,by rw [List.getElem_cons_succ];exact h2,fun m hm z=>?_⟩;cases m with
   | zero=>rw [List.getElem_cons_zero,pY hq.1 v r];exact Bool.eq_false_iff.mpr he
   | succ m=>rw [List.getElem_cons_succ];exact h3 m (Nat.lt_of_succ_lt_succ hm) (Nat.lt_of_succ_lt_succ z)
section
variable {X:Cx}
theorem sO (hu:X.A.units+20<cLine):MtR X "list.index" (rm j0 true):=by
 intro pins s σ H x xs v us Q I rv vr ⟨a,ds,d,ra,rs,h,k⟩;unfold j0 at h;split at h
 ·rename_i ys y;split at h
  ·rename_i hl;rw [Bool.and_eq_true] at hl;split at h
   ·rename_i j hj;cases h;obtain ⟨vv,uu,rfl,rfl,r,rk⟩:=jY rs vr;obtain ⟨l,zs,rfl,ee,rr⟩:=ra.fH (K:=X.K);cases rv;obtain ⟨its,vr',pl,hz⟩:=I.list ee;obtain ⟨h1,h2,h3⟩:=HN hl.2 rr vr' hj;have mm:=fun w hw=>oE I hu hl.1 r rk hl.2 rr vr' w hw
    obtain ⟨⟨cls,dd,data,sl⟩,ho,hc,n,hd⟩:=id pl.isList;simp only at hc hd;subst hc hd;have hls:(j:Int)<2 ^ 63-1:=by
     have:its.length=zs.length:=vr'.length.symm;have hz':zs.length<=sizeLine:=hz;rw [sizeLine_eq] at hz';lia
    exact call_meets F.slot_list_index ⟨_,ho,rfl⟩ F.entry_list_index (F.args_list_index_2 _ _) (list_indexAt l its.toArray n dd sl uu (fun u=>eqD (pX H u) y) j (by simpa using h1) hls (by simpa using h2) (fun m hm hmj=>by simpa using h3 m (by simpa using hm) hmj)) ⟨ho,fun w hw=>mm w (by simpa using hw),⟨.int j,H,I.tok _,⟨_,rfl⟩,k.int⟩⟩
   ·cases h
  ·cases h
 ·cases h
theorem sS {d:D} {ds:List D} {r:D} {v:V} {H:Hp} (h:j0 d ds=.ok r) (rp:Rep All H v d):tyV X.K "list" v H:=by
 unfold j0 at h;split at h
 ·obtain ⟨a,xs,rfl,e,_⟩:=rp.fH (K:=X.K);exact .inl ⟨rfl,_,e⟩
 ·cases h
end
end Mi
end
section
namespace Mi
open PySem L2 PySem.SeqAt PySem.Spec PyProof.Rows
abbrev FX:=List D->Res (D×List D)
abbrev FXT:=List D->Res (Bool×List D)
noncomputable def t_:D->Option (List D)
 | .lst xs=>some xs
 | .cel _ xs=>some xs
 | _=>none
noncomputable def NB:D->List D->D
 | .cel a _,xs=>.cel a xs
 | _,xs=>.lst xs
def oF (k:Nat):Nat->Bool:=fun i=>decide (i<k)
open Classical in
noncomputable def ch1 (f:List D->Res D) (xs rest:List D):Res (D×List D):=
 if h:∃p:D×List D,∀b,f (.cel b xs::rest)=.ok (.tup [p.1,.cel b p.2]) then .ok h.choose else .bad
theorem YM {f:List D->Res D} {xs rest:List D} {p:D×List D} (h:ch1 f xs rest=.ok p):∀b,f (.cel b xs::rest)=.ok (.tup [p.1,.cel b p.2]):=by
 unfold ch1 at h;split at h
 ·rename_i e;cases h;exact e.choose_spec
 ·cases h
theorem xG {f:List D->Res D} {xs rest xs':List D} {r:D} (h:∀b,f (.cel b xs::rest)=.ok (.tup [r,.cel b xs'])):ch1 f xs rest=.ok (r,xs'):=by
 have e:∃p:D×List D,∀b,f (.cel b xs::rest)=.ok (.tup [p.1,.cel b p.2]):=⟨(r,xs'),h⟩
 have q:ch1 f xs rest=.ok e.choose:=by unfold ch1;rw [dif_pos e]
 rw [q];have z:=e.choose_spec 0;rw [h 0] at z;injection z with z
 injection z with z
 injection z with z1 z2
 injection z2 with z2
 injection z2 with _ z2
 rw [z1,z2]
noncomputable def aBe (k:Nat):Fl->Res D
 | .rt (.tup (d::ρ))=>.ok (.tup (d::ρ.take k))
 | .nx ρ=>.ok (.tup (.non::ρ.take k))
 | _=>.bad
noncomputable def fnX (k n m:Nat) (f:FS):List D->Res D:=fun ds=>do
 let r <- f (ds++List.replicate (m-n) .uD)
 aBe k r
noncomputable def bZ (f:List D->Res D) (n i:Nat) (fs:FA):FX:=fun ρ=>do
 let rest <- fs ρ
 match t_ (ρ.getD i .uD) with
 | some xs=>if decide (rest.length+1=n) then (do
   let p <- ch1 f xs rest
   if D.aU p.2 then .ok (p.1,ρ.set i (NB (ρ.getD i .uD) p.2)) else .bad) else .bad
 | none=>.bad
noncomputable def x2L (f:D->D->Res D) (fa:FX) (fb:FE):FX:=fun ρ=>do
 let p <- fa ρ
 if p.1.pure then (do
  let y <- fb p.2
  let d <- f p.1 y
  if d.pure then .ok (d,p.2) else .bad) else .bad
noncomputable def x2R (f:D->D->Res D) (fa:FE) (fb:FX):FX:=fun ρ=>do
 let x <- fa ρ
 let p <- fb ρ
 let d <- f x p.1
 if d.pure then .ok (d,p.2) else .bad
noncomputable def xTB (f:FX):FXT:=fun ρ=>do
 let p <- f ρ
 let b <- asB p.1
 .ok (b,p.2)
noncomputable def fW (o:Bool) (i:Nat) (f:FX):FS:=fun ρ=>do
 let p <- f ρ
 if (if o then inner p.1 else true) then .ok (.nx (p.2.set i p.1)) else .bad
noncomputable def UL (c:FXT) (f g:FS):FS:=fun ρ=>do
 let p <- c ρ
 if p.1 then f p.2 else g p.2
noncomputable def u_ (i:Nat) (fk fv:FE):FS:=fun ρ=>do
 let d <- fv ρ
 let k <- fk ρ
 match t_ (ρ.getD i .uD),k with
 | some xs,.int k=>if d.pure then (match ixD xs.length k with|some j=>.ok (.nx (ρ.set i (NB (ρ.getD i .uD) (xs.set j d))))|none=>.bad) else .bad
 | _,_=>.bad
noncomputable def bPu (f:FE):FE:=fun ρ=>do
 let d <- f ρ
 if d.pure then .ok d else .bad
noncomputable def isI:D->Bool
 | .int _=>true
 | _=>false
noncomputable def UT:List D->Res (List D)
 | []=>.bad
 | .lst ys::xs=>if ys.all isI&&D.aU xs then .ok (.scr ys::xs) else .bad
 | x::xs=>if x.pure then (do let r <- UT xs;.ok (x::r)) else .bad
noncomputable def aAl (f:FE):FE:=fun ρ=>do
 let d <- f ρ
 match d with
 | .lst xs=>(do let r <- UT xs;.ok (.lst r))
 | _=>.bad
variable [KFrag]
section
variable {own:Nat->Bool}
theorem QJ {P:Addr->Prop} {H:Hp} {a:Addr} {d:D} {xs:List D} (r:Rep P H (.ref a) d) (h:t_ d=some xs):∃vs,H a=some (.lst vs)/\P a/\bH P H vs xs:=by
 cases d <;> simp only [t_] at h <;> cases h <;> cases r
 ·exact ⟨_,by assumption,by assumption,by assumption⟩
 ·exact ⟨_,by assumption,by assumption,by assumption⟩
theorem HQ {P:Addr->Prop} {H:Hp} {v:V} {b:Nat} {xs:List D} (r:Rep P H v (.cel b xs)):v=.ref b:=by cases r;rfl
theorem QK {P P':Addr->Prop} {H H':Hp} {a:Addr} {d:D} {xs xs':List D} {vs':List V} (r:Rep P H (.ref a) d) (h:t_ d=some xs) (e:H' a=some (.lst vs')) (p:P' a) (r':bH P' H' vs' xs'):Rep P' H' (.ref a) (NB d xs'):=by
 cases d <;> simp only [t_] at h <;> cases h <;> cases r
 ·exact .lst e p r'
 ·exact .cel e p r'
theorem YQ {d:D} {xs:List D} (h:t_ d=some xs):inner d=D.aU xs:=by
 cases d <;> simp only [t_] at h <;> cases h <;> rfl
theorem HR {d:D} {xs xs':List D} (h:t_ d=some xs):inner (NB d xs')=D.aU xs':=by
 cases d <;> simp only [t_] at h <;> cases h <;> rfl
theorem YS {d:D} {xs:List D} (h:t_ d=some xs):d≠.uD:=fun z=>by subst z;cases h
theorem ES.aBx {H H':Hp} {σ:L2.St} {ρ:List D} {i:Nat} {a:Addr} {o:HO} {d:D} (E:ES own H σ ρ) (ho:own i=true) (hi:σ[i]?=some (some (.ref a))) (hk:∀b ob,H b=some ob->b≠a->H' b=some ob) (e:H' a=some o) (hm:zZ o=true) (r:Rep All H' (.ref a) d) (hin:inner d=true) :
  ES own H' σ (ρ.set i d)/\KU own σ H σ H':=by
 have hOa:Own own σ a:=⟨i,ho,hi⟩
 obtain ⟨a',oa,ea,_,_,hHa,hma,huq⟩:=E.own i _ ho hi;cases ea;have k:KU own σ H σ H':=fun b ob e n=>⟨hk b ob e (fun z=>by subst z;exact n hOa),n⟩
 have hl:i<ρ.length:=by rw [<-E.len];exact (List.getElem?_eq_some_iff.mp hi).1
 refine ⟨⟨by simp [E.len],fun j hj=>?_,fun j w hj hw=>?_⟩,k⟩
 ·rw [cP] at hj ⊢;by_cases h:i=j/\i<ρ.length
  ·obtain ⟨rfl,_⟩:=h;exact ⟨_,hi,fun z=>by rw [ho] at z;cases z⟩
  ·rw [if_neg h] at hj ⊢;obtain ⟨w,h1,h2⟩:=E.at_ j hj;exact ⟨w,h1,fun hj=>k.rep E (h2 hj)⟩
 ·by_cases hij:i=j
  ·subst hij;rw [hi] at hw;cases hw;rw [cP,if_pos ⟨rfl,hl⟩];exact ⟨a,o,rfl,r,hin,e,hm,huq⟩
  ·rw [cP,if_neg fun z=>hij z.1];obtain ⟨b,ob,h1,h2,h3,h4,h5,h6⟩:=E.own j w hj hw;subst h1;have hba:b≠a:=fun z=>by subst z;exact hij (h6 i ho hi)
   refine ⟨b,ob,rfl,?_,h3,hk _ _ h4 hba,h5,h6⟩;refine (h2.oF (P':=fun c=>c=b) h3 rfl).keep (fun c oc hc hp=>?_) fun _ _=>trivial
   refine hk _ _ hc fun z=>?_
   subst z;rcases hp with hp|hp
   ·exact hba hp.symm
   ·rw [hHa] at hc;cases hc;rw [hma] at hp;cases hp
noncomputable def NS (own:Nat->Bool) (ρ ρ':List D):Prop:=∀i,own i=false->ρ'.getD i .uD=ρ.getD i .uD
theorem NS.refl {ρ:List D}:NS own ρ ρ:=fun _ _=>rfl
theorem NS.set {ρ:List D} {i:Nat} {d:D} (ho:own i=true):NS own ρ (ρ.set i d):=fun j hj=>by
 rw [cP,if_neg];rintro ⟨rfl,_⟩;rw [ho] at hj;cases hj
noncomputable def kX (own:Nat->Bool) (σ:L2.St) (H:Hp) (ρ:List D) (d:D) (ρ':List D) (Q:VK):Prop:=∀v H',KU own σ H σ H'->ES own H' σ ρ'->NS own ρ ρ'->Rep (New H) H' v d->Q v H'
noncomputable def gX (own:Nat->Bool) (f:FX):TE:=fun σ H Q=>∃ρ d ρ',ES own H σ ρ/\f ρ=.ok (d,ρ')/\kX own σ H ρ d ρ' Q
noncomputable def gXT (own:Nat->Bool) (f:FXT):TT:=fun σ H Q=>∃ρ d ρ',ES own H σ ρ/\f ρ=.ok (d,ρ')/\∀H',KU own σ H σ H'->ES own H' σ ρ'->NS own ρ ρ'->Q d H'
noncomputable def gAO (own:Nat->Bool) (f:FA):TA:=fun σ H Q=>∃ρ ds,ES own H σ ρ/\f ρ=.ok ds/\∀vs H',cH H H'->bH (fun a=>¬Own own σ a) H' vs ds->Q vs H'
theorem UV {σ:L2.St} {H:Hp} {ρ:List D} (E:ES own H σ ρ) {a:Addr} (h:H a=none):¬Own own σ a:=fun n=>by
 obtain ⟨o',e,_⟩:=E.live n;rw [h] at e;cases e
theorem ES.aCt {H H':Hp} {σ:L2.St} {ρ ρ':List D} {i:Nat} {a:Addr} {o:HO} {d:D} (E:ES own H σ ρ) (k:KU own σ H σ H') (E':ES own H' σ ρ') (ns:NS own ρ ρ') (ho:own i=true) (hn:H a=none) (r:Rep All H' (.ref a) d) (hin:inner d=true) (ha:H' a=some o) (hm:zZ o=true) :
  ES own H' (σ.set i (some (.ref a))) (ρ'.set i d)/\KU own σ H (σ.set i (some (.ref a))) H':=by
 have hO:∀b,H b≠none->¬Own own σ b->¬Own own (σ.set i (some (.ref a))) b:=fun b hb n ⟨j,hj,e⟩=>by
  by_cases hij:i=j
  ·subst hij;by_cases hl:i<σ.length
   ·rw [List.getElem?_set_self hl] at e;cases e;exact hb hn
   ·rw [List.getElem?_set,if_pos rfl,if_neg hl] at e;cases e
  ·rw [List.getElem?_set_ne hij] at e;exact n ⟨j,hj,e⟩
 have hna:¬Own own σ a:=UV E hn;refine ⟨⟨by simp [E'.len],fun j hj=>?_,fun j w hj hw=>?_⟩,fun b ob e n=>⟨(k b ob e n).1,hO b (by rw [e];simp) n⟩⟩
 ·rw [cP] at hj ⊢;by_cases h:i=j/\i<ρ'.length
  ·rw [if_pos h];obtain ⟨rfl,hl⟩:=h;exact ⟨.ref a,by rw [List.getElem?_set_self (by rw [E'.len];exact hl)],fun z=>by rw [ho] at z;cases z⟩
  ·rw [if_neg h] at hj ⊢;obtain ⟨w,h1,h2⟩:=E'.at_ j hj;by_cases hij:i=j
   ·subst hij;have:i<σ.length:=(List.getElem?_eq_some_iff.mp h1).1;rw [E'.len] at this;exact absurd ⟨rfl,this⟩ h
   ·refine ⟨w,by rw [List.getElem?_set_ne hij];exact h1,fun hoj=>?_⟩;rw [ns j hoj] at hj ⊢;obtain ⟨w',h1',h2'⟩:=E.at_ j hj;rw [h1] at h1';cases h1';exact (h2' hoj).dom.keep (fun c oc hc hp=>k.keep E c oc hc (hp.imp And.left id)) fun b ⟨n,hb⟩=>hO b hb n
 ·by_cases hij:i=j
  ·subst hij;have hl:i<σ.length:=by
    have:=(List.getElem?_eq_some_iff.mp hw).1;simpa using this
   rw [List.getElem?_set_self hl] at hw;cases hw;rw [cP,if_pos ⟨rfl,by rw [<-E'.len];exact hl⟩];refine ⟨a,o,rfl,r,hin,ha,hm,fun k hk hs=>?_⟩;by_cases hik:i=k
   ·exact hik.symm
   ·rw [List.getElem?_set_ne hik] at hs;exact absurd ⟨k,hk,hs⟩ hna
  ·rw [List.getElem?_set_ne hij] at hw;rw [cP,if_neg fun z=>hij z.1];obtain ⟨b,ob,h1,h2,h3,h4,h5,h6⟩:=E'.own j w hj hw;refine ⟨b,ob,h1,h2,h3,h4,h5,fun k hk hs=>?_⟩;by_cases hik:i=k
   ·subst hik;by_cases hl:i<σ.length
    ·rw [List.getElem?_set_self hl] at hs;cases hs;subst h1;exact absurd ⟨j,hj,hw⟩ hna
    ·rw [List.getElem?_set,if_pos rfl,if_neg hl] at hs;cases hs
   ·rw [List.getElem?_set_ne hik] at hs;exact h6 k hk hs
end
section
variable {own:Nat->Bool} {X:Cx} {a b c e:Expr} {pos pos':Pos} {fa fb fe:FE} {ra rb re:Bool} {xa xb xe:FX}
theorem aBy {f:D->D->Res D} {fr:Bool} {σ:L2.St} {H:Hp} {Q:VK} (h:gX own (x2L f xa fb) σ H Q):tOp (r2 f fr) (gX own xa) (gE fb rb) σ H Q:=by
 obtain ⟨ρ,d,ρ',E,h,q⟩:=h;obtain ⟨⟨x,ρ1⟩,h1,h⟩:=aX h;split at h
 ·rename_i hp;obtain ⟨y,h2,h⟩:=aX h;obtain ⟨z,h3,h⟩:=aX h;split at h
  ·rename_i hz;cases h;refine ⟨ρ,x,ρ1,E,h1,fun v H1 k1 E1 ns r1=>⟨ρ1,y,E1.er,h2,fun w H2 s2 r2 _=>⟨x,y,_,(r1.same s2).all,r2,h3,fun u H3 s3 r3 _=>?_⟩⟩⟩;exact q u H3 (k1.trans (.same (s2.trans s3))) (E1.same (s2.trans s3)) ns (r3.bI hz)
  ·cases h
 ·cases h
theorem xH {o:Operator} {f:D->D->Res D} {fr:Bool} (ho:OpR X (binaryOp o) (r2 f fr)) (ha:PE X a (gX own xa)) (hb:PE X b (gE fb rb)):PE X (.BinOp a o b pos) (gX own (x2L f xa fb)):=PE.imp (WQ ho ha hb) fun _ _ _=>aBy
theorem HS {o:CmpOp} {f:D->D->Res D} {fr:Bool} (ho:OpR X (compareOp o) (r2 f fr)) (ha:PE X a (gX own xa)) (hb:PE X b (gE fb rb)) (hm:behindInMarks o b=false):PT X (.Compare a [o] [b] pos) (gXT own (xTB (x2L f xa fb))):=
 PT.imp (BZ ho ha hb hm) fun σ H Q ⟨ρ,k,ρ',E,h,q⟩=>by
  obtain ⟨⟨d,ρ1⟩,h1,h2⟩:=aX h;obtain ⟨b,h3,h4⟩:=aX h2;cases h4;refine aBy ⟨ρ,d,_,E,h1,fun v H' k1 E1 ns r=>?_⟩;cases XS h3;cases r;exact ⟨_,rfl,q H' k1 E1 ns⟩
theorem YT {σ:L2.St} {H:Hp} {ρ:List D} {i:Nat} {d:D} (E:ES own H σ ρ) (ho:own i=false) (h:bR i ρ=.ok d):∃v,σ[i]?=some (some v)/\Rep (fun a=>¬Own own σ a) H v d:=by
 obtain ⟨v,hv,r,e⟩:=E.er.var h;have hne:ρ.getD i .uD≠.uD:=fun z=>by
  rw [z] at e;subst e;exact Rep.uD r
 obtain ⟨w,hw,hr⟩:=E.at_ i hne;rw [hv] at hw;cases hw;have r2:=hr ho;rw [e] at r2;exact ⟨v,hv,r2⟩
theorem aCu {i:Nat} {f:D->D->Res D} {fr:Bool} {σ:L2.St} {H:Hp} {Q:VK} (ho:own i=false) (h:gX own (x2R f (bR i) xb) σ H Q):tOp (r2 f fr) (aBr i) (gX own xb) σ H Q:=by
 obtain ⟨ρ,d,ρ',E,h,q⟩:=h;obtain ⟨x,h1,h⟩:=aX h;obtain ⟨⟨y,ρ1⟩,h2,h⟩:=aX h;obtain ⟨z,h3,h⟩:=aX h;obtain ⟨v,hv,rv⟩:=YT E ho h1;split at h
 ·rename_i hz;cases h;refine ⟨v,hv,ρ,y,ρ1,E,h2,fun w H2 k2 E2 ns r2=>⟨x,y,_,(k2.rep E rv).all,r2.all,h3,fun u H3 s3 r3 _=>?_⟩⟩;exact q u H3 (k2.trans (.same s3)) (E2.same s3) ns (r3.bI hz)
 ·cases h
theorem YW {i:Nat} {x:Str} {pv:Pos} {f:D->D->Res D} {fr:Bool} (ho:IxR X (r2 f fr)) (hoi:own i=false) (hN:X.N[i]?=some x) (hv:Vis X.env.scope x) (hb:PE X b (gX own xb)) (hs:uH b) (hd:nDb x:=by decide) (hcd:nCd x:=by decide):PE X (.Subscript (.Name x pv) b pos) (gX own (x2R f (bR i) xb)):=PE.imp (W8 ho (gB hN hv hd hcd) hb hs) fun _ _ _=>aCu hoi
theorem NK {o:Bool} {i:Nat} {D':Ends} {σ:L2.St} {H:Hp} (ho:own i=o) (h:tS own (fW o i xe) D' σ H):RM (gX own xe) (nO i) D' σ H:=by
 obtain ⟨ρ,fl,E,h,q⟩:=h;obtain ⟨⟨d,ρ1⟩,h1,h2⟩:=aX h;cases o with
 | true=>
  simp only [if_true] at h2;split at h2
  ·rename_i hk;cases h2;refine ⟨ρ,d,ρ1,E,h1,fun v H' k E1 ns r=>?_⟩;obtain ⟨a,ob,rfl,hn,ha,hm⟩:=QD r hk;obtain ⟨E2,k2⟩:=E.aCt k E1 ns ho hn r.all hk ha hm;exact q _ H' k2 E2
  ·cases h2
 | false=>
  simp only [Bool.false_eq_true,if_false,if_true] at h2;cases h2;refine ⟨ρ,d,ρ1,E,h1,fun v H' k E1 ns r=>?_⟩;exact q _ H' (fun a ob e hn=>⟨(k a ob e hn).1,by rw [jH ho];exact hn⟩) (E1.set ho (u0 E r))
theorem j4 {i:Nat} {x:Str} {o:Bool} (ho:own i=o) (hN:X.N.Nodup) (hi:X.N[i]?=some x) (hx:Loc X.env.scope x) (he:PE X e (gX own xe)) (hs:swapsWith e (some (.Name x pos')) pos.line X.env=pure false:=by rfl) (hf:X.fn x=true\/X.env.scope.names.lookup x=some .local:=by first|exact .inl rfl|exact .inr rfl|assumption) :
  PS X (.Assign [.Name x pos'] e pos) (tS own (fW o i xe)):=PS.imp (vU hN hi hx he hs hf) fun _ _ _=>NK ho
theorem YX {s1 s2:List Stmt} {f g:FS} {xc:FXT} (hc:PT X c (gXT own xc)) (ha:PSs X s1 (tS own f)) (hb:PSs X s2 (tS own g)):PS X (.If c s1 s2 pos) (tS own (UL xc f g)):=PS.imp (WL hc ha hb) fun D σ H ⟨ρ,fl,E,h,q⟩=>by
 obtain ⟨⟨k,ρ1⟩,h1,h2⟩:=aX h;refine ⟨ρ,k,ρ1,E,h1,fun H' ku E1 ns=>?_⟩;cases k with
 | true=>rw [if_pos rfl];rw [if_pos rfl] at h2;exact ⟨ρ1,fl,E1,h2,q.step ku⟩
 | false=>rw [if_neg (by simp)];rw [if_neg (by simp)] at h2;exact ⟨ρ1,fl,E1,h2,q.step ku⟩
end
end Mi
end
section
namespace Mi
open PySem L2 PySem.SeqAt PySem.Spec PyProof.Rows
variable [KFrag]
section
variable {own:Nat->Bool} {X:Cx} {a b c e:Expr} {pos pos':Pos} {fa fb fe:FE} {ra rb re:Bool} {xa xb xe:FX}
theorem kRt.new {D:Ends} {σ:L2.St} {H:Hp} {d0:Mi.D} {ρ':List Mi.D} (h:kRt own D σ H (.tup (d0::ρ'))) (hx:own rtX=true):∀v σ' H',KU own σ H σ' H'->ES own H' σ' ρ'->Rep (fun a=>(Own own σ a\/H a=none)/\∀i b xs,ρ'.getD i .uD=.cel b xs->a≠b) H' v d0->D.rt v H':=by
 unfold kRt at h;rw [if_pos hx] at h;obtain ⟨d1,ρ1,e,g⟩:=h;cases e;exact g
theorem iD {σ:L2.St} {H:Hp} {ρ:List D} (E:ES own H σ ρ) {i b:Nat} {xs:List D} (h:ρ.getD i .uD=.cel b xs):∃vs,σ[i]?=some (some (.ref b))/\H b=some (.lst vs):=by
 obtain ⟨v,h1,h2⟩:=E.er i (by rw [h];intro z;cases z);rw [h] at h2;cases h2 with
 | cel e _ _=>exact ⟨_,h1,e⟩
theorem vA (he:PE X e (gE fe re)) (hx:own rtX=true:=by rfl):PS X (.Return (some e) pos) (tS own (uO fe re)):=PS.imp (qT he) fun D σ H ⟨ρ,fl,E,h,q⟩=>by
 obtain ⟨d,h1,h2⟩:=aX h;split at h2
 ·rename_i hk;cases h2;refine ⟨ρ,d,E.er,h1,fun v H' s r n=>kRt.new q hx v σ H' (.same s) (E.same s) ?_⟩;rw [Bool.or_eq_true] at hk;rcases hk with hk|hk
  ·refine (n hk).mono fun a ha=>⟨.inr ha,fun i b xs hb z=>?_⟩
   obtain ⟨vs,_,e⟩:=iD E hb;subst z;rw [show H a=none from ha] at e;cases e
  ·exact r.bI hk
 ·cases h2
theorem xJ {i:Nat} {x:Str} (ho:own i=true) (hN:X.N[i]?=some x) (hv:Vis X.env.scope x) (hd:nDb x:=by decide) (hcd:nCd x:=by decide) (hx:own rtX=true:=by rfl):PS X (.Return (some (.Name x pos')) pos) (tS own (pG i)):=
 PS.imp (qT (gB hN hv hd hcd)) fun D σ H ⟨ρ,fl,E,h,q⟩=>by
 obtain ⟨d,h1,h2⟩:=aX h;split at h2
 ·rename_i hc;cases h2;obtain ⟨v,hv,r,e⟩:=E.er.var h1;obtain ⟨a,o,rfl,r2,hin,_,_,huq⟩:=E.own i v ho hv;rw [e] at hin;refine ⟨_,hv,kRt.new q hx _ σ H (.same (cH.refl H)) E (r.oF hin ⟨.inl ⟨i,ho,hv⟩,fun j b xs hb z=>?_⟩)⟩;obtain ⟨vs,hj,eb⟩:=iD E hb;subst z;cases hoj:own j with
  | true=>
   have:=huq j hoj hj;subst this;rw [hb] at e;subst e;cases hc
  | false=>
   obtain ⟨w,hw,hr⟩:=E.at_ j (by rw [hb];intro z;cases z);have r3:=hr hoj;rw [hb] at r3;cases r3 with
   | cel e p r=>exact p ⟨i,ho,hv⟩
 ·cases h2
noncomputable def spV (k:Nat) (f:List D->Res D) (n:Nat):Sp:=fun vs H Q _=>∃ds d ds',ds.length=n/\vs.length=n/\ES (oF k) H (vs.map some) ds/\(∀i,i<k->∃b xs xs',ds.getD i .uD=.cel b xs/\ds'.getD i .uD=.cel b xs')/\f ds=.ok (.tup (d::ds'))/\
 ∀v H',(∀a o,H a=some o->¬Own (oF k) (vs.map some) a->H' a=some o)->(∀i v,i<k->vs[i]?=some v->Rep All H' v (ds'.getD i .uD)/\inner (ds'.getD i .uD)=true)->Rep (New H) H' v d->Q v H'
theorem UW {k:Nat} {f:List D->Res D} {n:Nat} {vs:List V} {H:Hp} {Q:VK} {E:XK} (h:spV k f n vs H Q E):vs.length=n:=by
 obtain ⟨ds,d,ds',h1,h2,_⟩:=h;exact h2
theorem sU {ρ:List D} {k i:Nat} (h:i<k):(ρ.take k).getD i .uD=ρ.getD i .uD:=by
 rw [List.getD_eq_getElem?_getD,List.getD_eq_getElem?_getD,List.getElem?_take,if_pos h]
theorem NP {k:Nat} {N ps:List Str} {f:FS} {vs:List V} {H:Hp} {Q:VK} {E:XK} (hx:own rtX=true) (hown:∀i,i<ps.length->own i=oF k i) (hkn:k<=ps.length) (h0:spV k (fnX k ps.length N.length f) ps.length vs H Q E):tS own f {nx:=fun _ H'=>Q .non H',rt:=Q} (start N vs) H:=by
 obtain ⟨ds,d,ds',hl,hvl,E0,hc,h,q⟩:=h0;obtain ⟨fl,h1,h2⟩:=aX h;have hst:start N vs=vs.map some++List.replicate (N.length-ps.length) none:=by
  show vs.map some++List.replicate (N.length-vs.length) none=_;rw [hvl]
 have low:∀i,i<ps.length->(start N vs)[i]?=(vs.map some)[i]?:=fun i hi=>by rw [hst,List.getElem?_append_left (by simp [hvl,hi])]
 have high:∀i v,ps.length<=i->(start N vs)[i]?≠some (some v):=fun i v hi e=>by
  rw [hst,List.getElem?_append_right (by simp [hvl];lia),List.getElem?_replicate] at e;split at e <;> cases e
 have hO:∀a,Own own (start N vs) a↔Own (oF k) (vs.map some) a:=fun a=>by
  constructor
  ·rintro ⟨i,hi,e⟩;by_cases hlt:i<ps.length
   ·exact ⟨i,by rw [<-hown i hlt];exact hi,by rw [<-low i hlt];exact e⟩
   ·exact absurd e (high i _ (by lia))
  ·rintro ⟨i,hi,e⟩;have hik:i<k:=by simpa [oF] using hi
   have hlt:i<ps.length:=by lia
   exact ⟨i,by rw [hown i hlt];exact hi,by rw [low i hlt];exact e⟩
 have hOf:(fun a=>¬Own own (start N vs) a)=fun a=>¬Own (oF k) (vs.map some) a:=funext fun a=>by rw [hO]
 have gd:∀i,i<ps.length->(ds++List.replicate (N.length-ps.length) D.uD).getD i .uD=ds.getD i .uD:=fun i hi=>by
  rw [List.getD_eq_getElem?_getD,List.getElem?_append_left (by lia),List.getD_eq_getElem?_getD]
 have ES0:ES own H (start N vs) (ds++List.replicate (N.length-ps.length) .uD):=by
  refine ⟨by rw [hst];simp [hvl,hl],fun i hi=>?_,fun i v hi hv=>?_⟩
  ·have hlt:i<ps.length:=Nat.lt_of_not_le fun hge=>hi (by
    rw [List.getD_eq_getElem?_getD,List.getElem?_append_right (by lia),List.getElem?_replicate];split <;> rfl)
   rw [gd i hlt] at hi ⊢;obtain ⟨v,g1,g2⟩:=E0.at_ i hi;exact ⟨v,by rw [low i hlt];exact g1,fun ho=>by rw [hOf];exact g2 (by rw [<-hown i hlt];exact ho)⟩
  ·have hlt:i<ps.length:=Nat.lt_of_not_le fun hge=>high i v hge hv
   rw [low i hlt] at hv;rw [gd i hlt];obtain ⟨a,o,g1,g2,g3,g4,g5,g6⟩:=E0.own i v (by rw [<-hown i hlt];exact hi) hv;refine ⟨a,o,g1,g2,g3,g4,g5,fun j hj hs=>?_⟩;have hjl:j<ps.length:=Nat.lt_of_not_le fun hge=>high j _ hge hs
   exact g6 j (by rw [<-hown j hjl];exact hj) (by rw [<-low j hjl];exact hs)
 have fin:∀v σ' H' ρ',ds'=ρ'.take k->KU own (start N vs) H σ' H'->ES own H' σ' ρ'->Rep (New H) H' v d->Q v H':=fun v σ' H' ρ' ed ku E' r=>by
  refine q v H' (fun a o e n=>(ku a o e (by rw [hO];exact n)).1) (fun i w hi hw=>?_) r;have hlt:i<ps.length:=by lia
  obtain ⟨b,xs,xs',g1,g2⟩:=hc i hi;have hoi:own i=true:=by rw [hown i hlt];simp [oF,hi]
  have g3:ρ'.getD i .uD=.cel b xs':=by rw [ed,sU hi] at g2;exact g2
  obtain ⟨vs0,z1,_⟩:=iD E0 g1;rw [List.getElem?_map,hw] at z1;cases z1;obtain ⟨w',z2,_⟩:=E'.at_ i (by rw [g3];intro z;cases z);obtain ⟨a,o,rfl,g4,g5,_⟩:=E'.own i w' hoi z2;rw [g3] at g4 g5;have:=HQ g4;cases this;rw [g2];exact ⟨g4,g5⟩
 refine ⟨_,fl,ES0,h1,?_⟩;cases fl with
 | nx ρ'=>
  simp only [aBe] at h2;injection h2 with h2
  injection h2 with h2
  injection h2 with z1 z2
  subst z1;exact fun σ' H' ku E'=>fin .non σ' H' ρ' z2.symm ku E' .non
 | bk ρ'=>cases h2
 | ct ρ'=>cases h2
 | rt d'=>
  show kRt own _ _ _ d';unfold kRt;rw [if_pos hx];unfold aBe at h2;split at h2
  ·rename_i d1 ρ' heq;cases heq;injection h2 with h2
   injection h2 with h2
   injection h2 with z1 z2
   subst z1;refine ⟨_,_,rfl,fun v σ' H' ku E' r=>fin v σ' H' ρ' z2.symm ku E' (r.mono fun a ha=>?_)⟩;rcases ha.1 with ⟨i,hi,e⟩|hn
   ·exfalso;have hlt:i<ps.length:=Nat.lt_of_not_le fun hge=>high i _ hge e
    have hik:i<k:=by rw [hown i hlt] at hi;simpa [oF] using hi
    obtain ⟨b,xs,xs',g1,g2⟩:=hc i hik;obtain ⟨vs0,q1,_⟩:=iD E0 g1;rw [low i hlt,q1] at e;cases e;rw [<-z2,sU hik] at g2;exact ha.2 i _ xs' g2 rfl
   ·exact hn
  ·rename_i heq;cases heq
  ·cases h2
theorem YZ {P:Program} {w:World} {K:PySem.W.Frag} {mg:Str->Option Value} {base:Heap} {x qual:Str} {st:Stmt} {fad:Addr} {fd:FuncData} {N ps:List Str} {k c:Nat} {f:FS} (F:Fun K x qual st fad fd) (S:cT N ps (aP st)) (own:Nat->Bool) (hx:own rtX=true) (hown:∀i,i<ps.length->own i=oF c i) (hkn:c<=ps.length)
  (hbody:∀(cdv:Value) (A:Around) (outer:List Env) (s:Shared) (H:Hp) (E:XK),m8 k (A.deeper (envOfC qual (aP st) s.heap.objs.size fad cdv))->PSs (KD CX0 P w K mg base N qual (aP st) fad cdv A outer s H E).nox (fM st) (tS own f)):vV P w K mg base CX0 (k+1) fad fd ps (spV c (fnX c ps.length N.length f) ps.length):=
 F.ok S (fun vs H Q E h=>UW h) fun cdv A outer s H vs Q E hr h=>⟨_,hbody cdv A outer s H E hr,NP hx hown hkn h⟩
noncomputable def zA (P:Program) (w:World) (K:PySem.W.Frag) (mg:Str->Option Value) (base:Heap) (k:Nat) (x:Str) (n c:Nat) (f:List D->Res D):Prop:=
 ∃(fad:Addr) (fd:FuncData) (ps:List Str),vV P w K mg base CX0 k fad fd ps (spV c f n)/\mg x=some (.ref fad)/\PySem.W.keepIn K (.ref fad)=true/\Binds K fd ps []
theorem qI {P:Program} {w:World} {K:PySem.W.Frag} {mg:Str->Option Value} {base:Heap} {x:Str} {k:Nat} {st:Stmt} {fad:Addr} {fd:FuncData} {N ps:List Str} {fs:FS} (c:Nat) (F:Fun K x x st fad fd) (hm:mg x=some (.ref fad)) (hb:Binds K fd ps []) (S:cT N ps (aP st)) (own:Nat->Bool) (hown:∀i,i<ps.length->own i=oF c i) (hkn:c<=ps.length)
  (hbody:∀(cdv:Value) (A:Around) (outer:List Env) (s:Shared) (H:Hp) (E:XK),m8 k (A.deeper (envOfC x (aP st) s.heap.objs.size fad cdv))->PSs (KD CX0 P w K mg base N x (aP st) fad cdv A outer s H E).nox (fM st) (tS own fs)) (hx:own rtX=true:=by rfl):zA P w K mg base (k+1) x ps.length c (fnX c ps.length N.length fs):=
 ⟨fad,fd,ps,YZ F S own hx hown hkn hbody,hm,F.kp,hb⟩
theorem iG:PA X [] (gAO own aR):=PA.imp nR fun σ H Q ⟨ρ,ds,E,h,q⟩=>by cases h;exact q [] H (cH.refl H) .nil
theorem sV {i:Nat} {x:Str} {es:List Expr} {f:FA} (ho:own i=false) (hN:X.N[i]?=some x) (hv:Vis X.env.scope x) (hes:PA X es (gAO own f)) (hd:nDb x:=by decide) (hcd:nCd x:=by decide) (hs:starEach (.Name x pos::es) X.env=(false,eval (.Name x pos) X.env)::starEach es X.env:=by rfl):PA X (.Name x pos::es) (gAO own (aB (bR i) f)):=PA.imp (gC (gB hN hv hd hcd) hes hs) fun σ H Q ⟨ρ,ds,E,h,q⟩=>by
 obtain ⟨x,h1,h⟩:=aX h;obtain ⟨xs,h2,h⟩:=aX h;cases h;obtain ⟨v,hv,rv⟩:=YT E ho h1;exact ⟨v,hv,ρ,xs,E,h2,fun vs H2 s2 r2=>q _ _ s2 (.cons (rv.same s2) r2)⟩
theorem aBf {es:List Expr} {f:FA} (he:PE X e (gE fe re)) (hes:PA X es (gAO own f)) (hs:starEach (e::es) X.env=(false,eval e X.env)::starEach es X.env:=by rfl):PA X (e::es) (gAO own (aB (bPu fe) f)):=PA.imp (gC he hes hs) fun σ H Q ⟨ρ,ds,E,h,q⟩=>by
 obtain ⟨x,h1,h⟩:=aX h;obtain ⟨xs,h2,h⟩:=aX h;cases h;obtain ⟨y,h3,h1⟩:=aX h1;split at h1
 ·rename_i hp;cases h1;exact ⟨ρ,_,E.er,h3,fun v H1 s1 r1 _=>⟨ρ,xs,E.same s1,h2,fun vs H2 s2 r2=>q _ _ (s1.trans s2) (.cons ((r1.bI hp).same s2) r2)⟩⟩
 ·cases h1
theorem aBg {H:Hp} {a:Addr} {xs:List D} {vs0:List V} {vs:List V} {rest:List D} (ha:H a=some (.lst vs0)) (ra:bH All H vs0 xs) (hp:D.aU xs=true) (rs:bH (fun b=>b≠a) H vs rest):ES (oF 1) H ((V.ref a::vs).map some) (.cel a xs::rest):=by
 have hO:∀b,Own (oF 1) ((V.ref a::vs).map some) b->b=a:=fun b ⟨j,hj,e⟩=>by
  have:j=0:=by simp [oF] at hj;lia
  subst this;simp at e;exact e.symm
 refine ⟨by simp [rs.length],fun i hi=>?_,fun i v hi hv=>?_⟩
 ·cases i with
  | zero=>exact ⟨.ref a,rfl,fun z=>by simp [oF] at z⟩
  | succ i=>
   have e:(D.cel a xs::rest).getD (i+1) .uD=rest.getD i .uD:=rfl;rw [e] at hi ⊢;cases hq:rest[i]? with
   | none=>rw [List.getD_eq_getElem?_getD,hq] at hi;exact absurd rfl hi
   | some d=>
    obtain ⟨v,g1,g2⟩:=rs.get hq;rw [List.getD_eq_getElem?_getD,hq];exact ⟨v,by simp [g1],fun _=>g2.mono fun b hb ho=>hb (hO b ho)⟩
 ·have:i=0:=by simp [oF] at hi;lia
  subst this;simp at hv;subst hv;exact ⟨a,.lst vs0,rfl,.cel ha trivial ra,hp,ha,rfl,fun j hj _=>by simp [oF] at hj;lia⟩
theorem HW {σ:L2.St} {H:Hp} {ρ:List D} {i:Nat} {xs:List D} (E:ES own H σ ρ) (ho:own i=true) (h:t_ (ρ.getD i .uD)=some xs):∃a vs,σ[i]?=some (some (.ref a))/\H a=some (.lst vs)/\bH All H vs xs/\D.aU xs=true/\Rep All H (.ref a) (ρ.getD i .uD)/\∀b,ρ.getD i .uD=.cel b xs->b=a:=by
 obtain ⟨a,o,hσ,r,hin,ha,hm⟩:=E.ownAt ho (YS h);obtain ⟨vs,e,_,rr⟩:=QJ r h;exact ⟨a,vs,hσ,e,rr,by rw [YQ h] at hin;exact hin,r,fun b hb=>by rw [hb] at r;have:=HQ r;cases this;rfl⟩
theorem Y0 {H H':Hp} {a:Addr} {d:D} {xs xs':List D} (r:Rep All H (.ref a) d) (h:t_ d=some xs) (r':Rep All H' (.ref a) (.cel a xs')):∃vs,H' a=some (.lst vs)/\Rep All H' (.ref a) (NB d xs'):=by
 obtain ⟨vs,e,_,rr⟩:=QJ r' rfl;exact ⟨vs,e,QK r h e trivial rr⟩
theorem dB {x y:Str} {p py:Pos} {es:List Expr} {fs:FA} {k k' n i:Nat} {f:List D->Res D} (C:zA X.prog X.w X.K X.mg X.base k x n 1 f) (hr:m8 k' X.A) (hkk:k<=k') (hg:Gl X x) (ho:own i=true) (hN:X.N[i]?=some y) (hv:Vis X.env.scope y) (ha:PA X es (gAO own fs)) (hdb:nDb x:=by decide) (hd:(y==("__debug__" : Str))=false:=by decide) (hcd:(y==("__classdict__" : Str))=false:=by decide)
  (he:starEach (.Name y py::es) X.env=(false,eval (.Name y py) X.env)::starEach es X.env:=by rfl) (hpl:(backTo pos (starEach es X.env)).any (·.1)=false:=by rfl):PE X (.Call (.Name x p) (.Name y py::es) [] pos) (gX own (bZ f n i fs)):=by
 obtain ⟨fad,fd,ps,F,hm,hk,hb⟩:=C;refine PE.imp (CG F (hr.mono hkk) hg hm hk hb .nil XH (gC (gB hN hv hd hcd) ha he) hdb he hpl) fun σ H Q ⟨ρ,d,ρ',E,h,q⟩=>?_
 obtain ⟨rest,h1,h⟩:=aX h;split at h
 ·rename_i xs hx;split at h
  ·rename_i hn;obtain ⟨⟨r0,xs'⟩,h2,h⟩:=aX h;split at h
   ·rename_i hp';cases h;obtain ⟨a,vs0,hσ,e0,rr0,hp0,rp0,_⟩:=HW E ho hx;refine ⟨_,hσ,ρ,rest,E,h1,fun vs H1 s1 rs=>?_⟩;have hOa:Own own σ a:=⟨i,ho,hσ⟩
    have hl:rest.length+1=n:=of_decide_eq_true hn;dsimp only;rw [List.append_nil];refine ⟨.cel a xs::rest,_,[.cel a xs'],by simp;lia,by simp [rs.length];lia,aBg (s1 _ _ e0) (rr0.same s1) hp0 (rs.mono fun b hb z=>by subst z;exact hb hOa),fun j hj=>?_,YM h2 a,fun v H' k1 own1 rn=>?_⟩
    ·have:j=0:=by lia
     subst this;exact ⟨a,xs,xs',rfl,rfl⟩
    ·obtain ⟨r1,hin⟩:=own1 0 _ (by lia) rfl;have r1:Rep All H' (.ref a) (.cel a xs'):=r1;obtain ⟨vs1,e1,r2⟩:=Y0 (rp0.same s1) hx r1;have hk1:∀b ob,H1 b=some ob->b≠a->H' b=some ob:=fun b ob e n=>k1 b ob e fun ⟨j,hj,ej⟩=>by
      have:j=0:=by simp [oF] at hj;lia
      subst this;simp at ej;exact n ej.symm
     obtain ⟨E2,k2⟩:=(E.same s1).aBx ho hσ hk1 e1 rfl r2 (by rw [HR hx];exact hp');exact q v H' ((KU.same s1).trans k2) E2 (.set ho) (rn.mono fun b hb=>s1.free hb)
   ·cases h
  ·cases h
 ·cases h
end
end Mi
end
section
namespace Mi
open PySem L2 PySem.SeqAt PySem.Spec PyProof.Rows
variable [KFrag]
section
variable {own:Nat->Bool} {X:Cx} {a b c e:Expr} {pos pos':Pos} {fa fb fe:FE} {ra rb re:Bool} {xa xb xe:FX}
theorem HX {i:Nat} {x:Str} {p1:Pos} {value k:Expr} {fv fk:FE} {rv rk:Bool} (ho:own i=true) (hN:X.N[i]?=some x) (hvi:Vis X.env.scope x) (hk:PE X k (gE fk rk)) (hv:PE X value (gE fv rv)) (hs:swapsWith value (some (.Subscript (.Name x p1) k pos')) pos.line X.env=pure false:=by rfl) (hd:nDb x:=by decide) (hcd:nCd x:=by decide) :
  PS X (.Assign [.Subscript (.Name x p1) k pos'] value pos) (tS own (u_ i fk fv)):=by
 intro pins s σ H D' I ⟨ρ,fl,E,h,q⟩;obtain ⟨d,h0,h⟩:=aX h;obtain ⟨kd,h1,h2⟩:=aX h;split at h2
 ·rename_i xs kk hx;split at h2
  ·rename_i hp;split at h2
   ·rename_i j hj;cases h2;obtain ⟨a,vs,hσ,e0,rr,hin,rp,_⟩:=HW E ho hx;have pn:D.aU (xs.set j d)=true:=d_.mpr fun y hy=>by
     rcases List.mem_or_eq_of_mem_set hy with hy|hy
     ·exact d_.mp hin y hy
     ·subst hy;exact hp
    have go:∀{v:V} {H2:Hp},cH H H2->Rep All H2 v d->D'.nx σ (upd H2 a (.lst (vs.set j v))):=fun {v H2} sm rv=>by
     have rn:bH All (upd H2 a (.lst (vs.set j v))) (vs.set j v) (xs.set j d):=((rr.same sm).set rv j).upd pn (sm _ _ e0) rfl;obtain ⟨E2,k2⟩:=(E.same sm).aBx (H':=upd H2 a (.lst (vs.set j v))) (o:=.lst (vs.set j v)) (d:=NB (ρ.getD i .uD) (xs.set j d)) ho hσ (fun b ob e n=>by rw [bT n];exact e) aO rfl (QK (rp.same sm) hx aO trivial rn) (by rw [HR hx];exact pn);exact q _ _ ((KU.same sm).trans k2) E2
    refine wpAny_Assign_Subscript (thn (hv pins s σ H (fun v H1=>cH H H1/\Rep All H1 v d) I ⟨ρ,d,E.er,h0,fun v H1 s1 r1 _=>⟨s1,r1⟩⟩) fun u1 t1 ⟨v,H1,I1,rv1,sm1,rp1⟩=>
     thn (gB hN hvi hd hcd pins t1 σ H1 (fun w H2=>w=.ref a/\H2=H1) I1 ⟨_,hσ,rfl,rfl⟩) fun u2 t2 ⟨xx,H2,I2,rx,ex,eH⟩=>?_) hs
    subst ex;rw [eH] at I2;refine thn (hk pins t2 σ _ (fun w H3=>cH H1 H3/\w=.int kk) I2 ⟨ρ,_,E.er.same sm1,h1,fun w H3 s3 r3 _=>⟨s3,by cases r3;rfl⟩⟩) fun u3 t3 ⟨y,H3,I3,ry,sm3,ey⟩=>?_
    subst ey;exact thn (set_list pins t3 σ H3 (.ref a) (.int kk) v u2 u3 u1 (fun H4=>D'.nx σ H4) I3 rx ry rv1 ⟨a,vs,kk,j,rfl,rfl,(sm1.trans sm3) _ _ e0,by rw [rr.length];exact hj,go (sm1.trans sm3) (rp1.same sm3)⟩) fun _ t4 ⟨H4,I4,q4⟩=>⟨σ,H4,I4,q4⟩
   ·cases h2
  ·cases h2
 ·cases h2
theorem zB {pins:List (Addr×Obj)} {σ:L2.St} {H:Hp} {s:Shared} {a:Addr} {vs:List V} (I:Inv X pins σ H s) (e:H a=some (.lst vs)):∃o,Inv X pins σ (upd H a (.frz o (.lst vs))) s:=by
 obtain ⟨its,n,r,ho,hz⟩:=I.lst e;refine ⟨_,I.write (t':=s.toks) (x:=a) (e:=a) (h':=s.heap) (o:=.frz _ (.lst vs)) (by rw [e];trivial) (.inl rfl) (fun _ _ _ q=>q) ⟨_,ho⟩ ⟨ho,hz,its,n,r,ho⟩⟩
theorem HY {ys:List D} (h:ys.all isI=true):D.aU ys=true:=d_.mpr fun y hy=>by
 have:=List.all_eq_true.mp h y hy;cases y <;> first|rfl|cases this
theorem QL {H H':Hp}:∀{xs r:List D} {vs:List V},UT xs=.ok r->bH (New H) H' vs xs->∃b ws,H b=none/\H' b=some (.lst ws)/\D.aU r=true/\(∃(k:Nat) (ys:List D),vs[k]?=some (V.ref b)/\bH (New H) H' ws ys/\ys.all isI=true)/\∀o,bH (fun c=>H c=none) (upd H' b (.frz o (.lst ws))) vs r
 | [],r,vs,h,_=>by cases h
 | x::xs,r,_,h,.cons (v:=v) (vs:=vs) rx t=>by
  by_cases hl:∃ys,x=.lst ys
  ·obtain ⟨ys,rfl⟩:=hl;simp only [UT] at h;split at h
   ·rename_i hp;rw [Bool.and_eq_true] at hp;cases h;have hpi:=HY hp.1;cases rx with
    | @lst b ws _ e p rr=>
     have hne:∀ob,H' b=some ob->aAj ob=true:=fun ob z=>by rw [e] at z;cases z;rfl
     refine ⟨b,ws,p,e,by rw [D.aU,Bool.and_eq_true];exact ⟨hpi,hp.2⟩,⟨0,ys,rfl,rr,hp.1⟩,fun o=>.cons (.frz (.inl ⟨o,aO⟩) ((jL hne rr hpi).bI hpi)) ((jL hne t hp.2).bI hp.2)⟩
   ·cases h
  ·have h':(if x.pure then (do let r <- UT xs;.ok (x::r)) else .bad)=Res.ok r:=by
    cases x <;> first|exact h|exact absurd ⟨_,rfl⟩ hl
   split at h'
   ·rename_i hp;obtain ⟨r',h1,h2⟩:=aX h';cases h2;obtain ⟨b,ws,g1,g2,g3,⟨k,ys,g5,g6,g7⟩,g4⟩:=QL h1 t;have hne:∀ob,H' b=some ob->aAj ob=true:=fun ob z=>by rw [g2] at z;cases z;rfl
    exact ⟨b,ws,g1,g2,by rw [D.aU,Bool.and_eq_true];exact ⟨hp,g3⟩,⟨k+1,ys,by simpa using g5,g6,g7⟩,fun o=>.cons ((wZ hne rx hp).bI hp) (g4 o)⟩
   ·cases h'
theorem Y4 (ha:PE X a (gE fa true)):PE X a (gE (aAl fa) true):=by
 intro pins s σ H Q I ⟨ρ,d,E,h,q⟩;obtain ⟨x,h1,h⟩:=aX h;split at h
 ·rename_i xs;obtain ⟨r,h2,h⟩:=aX h;cases h;refine thn (ha pins s σ H (fun v H'=>cH H H'/\Rep (New H) H' v (.lst xs)) I ⟨ρ,_,E,h1,fun v H' sm rr n=>⟨sm,n rfl⟩⟩) fun u s' ⟨v,H',I',rv,sm,rn⟩=>?_
  cases rn with
  | @lst a vs _ e p rr=>
   obtain ⟨b,ws,g1,g2,g3,⟨k,ys,g5,g6,g7⟩,g4⟩:=QL h2 rr;have hab:a≠b:=fun z=>by
    subst z;rw [e] at g2;cases g2;obtain ⟨d,hd,rd⟩:=g6.at g5;have:=List.all_eq_true.mp g7 d (List.mem_of_getElem? hd);cases d <;> first|(cases this;done)|(cases rd;done)
   obtain ⟨o,I2⟩:=zB I' g2;have s2:cH H (upd H' b (.frz o (.lst ws))):=fun c oc hc=>by
    rw [bT (fun z=>by subst z;rw [g1] at hc;cases hc)];exact sm c oc hc
   have e2:upd H' b (.frz o (.lst ws)) a=some (.lst vs):=by rw [bT hab];exact e
   exact ⟨.ref a,_,I2,rv,q _ _ s2 (.lst e2 trivial (g4 o).all) fun _=>.lst e2 p (g4 o)⟩
 ·cases h
end
end Mi
end
section
namespace Mi
open PySem L2 PySem.SeqAt PySem.Spec PyProof.Rows
variable [KFrag]
section
variable {X:Cx} {a:Expr} {fa:FE} {ra:Bool} {pos p p1 p2 p3:Pos}
theorem zE (ha:PE X a (gE fa ra)):PE X a (gE (bPu fa) true):=PE.imp ha fun σ H Q ⟨ρ,d,E,h,q⟩=>by
 obtain ⟨x,h1,h⟩:=aX h;split at h
 ·rename_i hp;cases h;exact ⟨ρ,_,E,h1,fun v H' s r _=>q v H' s r fun _=>r.bI hp⟩
 ·cases h
end
end Mi
end
section
namespace Mi
open PySem L2 PySem.SeqAt PySem.Spec PyProof.Rows
variable [KFrag]
section
variable {own:Nat->Bool} {X:Cx} {pos:Pos}
end
end Mi
end
section
namespace Mi
open PySem L2 PySem.SeqAt PySem.Spec PyProof.Rows
noncomputable def zF (i:Nat):FX:=fun ρ=>match ρ.getD i .uD with
 | .lst xs=>(match xs[xs.length-1]? with|some x=>.ok (x,ρ.set i (.lst xs.dropLast))|none=>.bad)
 | _=>.bad
noncomputable def QM (a:FT) (b:FXT):FXT:=fun ρ=>do
 let k <- a ρ
 if k then b ρ else .ok (false,ρ)
noncomputable def Y5 (f:FX):List D->Res (List D×List D):=fun ρ=>do
 let p <- f ρ
 let r <- gH [p.1]
 .ok (r.1,p.2)
noncomputable def H_ (it:List D->Res (List D×List D)) (t:D->List D->Res (List D)) (body:FS):FS:=fun ρ=>do
 let p <- it ρ
 nH t body p.1 p.2
variable [KFrag]
section
variable {X:Cx} {own:Nat->Bool} {a b e:Expr} {pos:Pos} {ga:FT} {xb:FXT} {xa:FX}
theorem U0 {i:Nat} {x:Str} {p1 apos cpos:Pos} (ho:own i=true) (hN:X.N[i]?=some x) (hv:Vis X.env.scope x) (hd:nDb x:=by decide) (hcd:nCd x:=by decide)
  (hbase:attributeBase (.Name x p1) "pop" X.env (eval (.Name x p1) X.env)=eval (.Name x p1) X.env:=by rfl)
  (hline:(apos.endLine==cpos.line)=true:=by rfl) :
  PE X (.Call (.Attribute (.Name x p1) "pop" apos) [] [] cpos) (gX own (zF i)):=
 PE.imp (PL PySem.F.plainAttrs_list PySem.F.slot_list_pop PySem.F.type_list_pop PN (gB hN hv hd hcd) hbase hline) fun σ H Q ⟨ρ,d,ρ',E,h,q⟩=>by
 unfold zF at h;split at h
 ·rename_i xs hx;split at h
  ·rename_i dx hdx;cases h;obtain ⟨a,o,hσ,r,hin,ha,hm⟩:=E.ownAt ho (by rw [hx];intro z;cases z);rw [hx] at r hin;obtain ⟨vs,hl,rr⟩:=wQ r;obtain ⟨v,hvx,rv⟩:=rr.get hdx;have hlen:=rr.length;refine ⟨_,hσ,.inl ⟨rfl,vs,.of hl⟩,a,vs,v,rfl,rfl,hl,by rw [hlen];exact hvx,?_⟩;have hin':D.aU xs=true:=hin;have pall:∀y∈xs,y.pure=true:=fun y hy=>d_.mp hin' y hy
   have pdx:d.pure=true:=pall d (List.mem_of_getElem? hdx);have pe:D.aU xs.dropLast=true:=d_.mpr fun y hy=>pall y (List.dropLast_subset _ hy)
   have er:bH All H vs.dropLast xs.dropLast:=by
    rw [List.dropLast_eq_take,List.dropLast_eq_take,hlen];exact rr.take _
   obtain ⟨E2,k2⟩:=E.mut (o:=.lst vs.dropLast) (d:=.lst xs.dropLast) ho hσ rfl (.lst aO trivial (er.upd pe hl rfl)) pe;have r1:=(bH.cons rv .nil).upd (o:=.lst vs.dropLast) (by rw [D.aU,pdx];rfl) hl rfl;cases r1 with
   | cons r1 _=>exact q _ _ k2 E2 (.set ho) (r1.bI pdx)
  ·cases h
 ·cases h
theorem U3 (ha:PT X a (gXT own xb)):PW X (.BoolOp .And [a] pos) (gXT own xb):=BJ ha
theorem Y6 {rest:List Expr} (ha:PT X a (gT ga)) (hb:PW X (.BoolOp .And (b::rest) pos) (gXT own xb)):PW X (.BoolOp .And (a::b::rest) pos) (gXT own (QM ga xb)):=PW.imp (O_ ha hb) fun σ H Q ⟨ρ,d,ρ',E,h,q⟩=>by
 obtain ⟨k,h1,h2⟩:=aX h;refine ⟨ρ,k,E.er,h1,fun H' s=>?_⟩;cases k with
 | true=>
  rw [if_pos rfl];rw [if_pos rfl] at h2;exact ⟨ρ,d,ρ',E.same s,h2,fun H2 k2 E2 n2=>q H2 ((KU.same s).trans k2) E2 n2⟩
 | false=>
  rw [if_neg (by simp)];rw [if_neg (by simp)] at h2;cases h2;exact q H' (.same s) (E.same s) .refl
noncomputable def gIX (K:PySem.W.Frag) (own:Nat->Bool) (f:List D->Res (List D×List D)):TI:=fun σ H R=>∃ρ items ρ',ES own H σ ρ/\f ρ=.ok (items,ρ')/\∀J H1,KU own σ H σ H1->ES own H1 σ ρ'->ItQ K (fun a=>¬Own own σ a) J H1 items->R J H1
theorem Y7 {tg:Expr} {p:Pos} (hg:Gl X "range") (hm:X.mg "range" = none) (ha:PE X a (gX own xa)) (hs:starEach [a] X.env=[(false,eval a X.env)]:=by rfl):PI X tg (.Call (.Name "range" p) [a] [] pos) (gIX X.K own (Y5 xa)):=
 PI.imp (qU hg hm (gC ha nR hs) hs) fun σ H R ⟨ρ,items,ρ',E,h,q⟩=>by
 obtain ⟨p,h1,h⟩:=aX h;obtain ⟨r,h2,h⟩:=aX h;cases h;refine ⟨ρ,p.1,p.2,E,h1,fun v H1 k1 E1 n1 r1=>?_⟩;unfold gH at h2;split at h2
 ·rename_i n he;split at h2
  ·rename_i hb;cases h2;obtain ⟨b1,b2⟩:=pH hb;injection he with he _
   rw [he] at r1;cases r1;exact ⟨_,rfl,b1,b2,q _ H1 k1 E1 (.rng 0 _ rfl rfl)⟩
  ·cases h2
 ·cases h2
theorem Y8 {tg iter:Expr} {body:List Stmt} {g:TG} {t:D->List D->Res (List D)} {it:List D->Res (List D×List D)} {fb:FS} (hp:PassesOwn (model X.prog X.w) X.A X.env X.xe) (hc:X.calm=true) (hi:PI X tg iter (gIX X.K own it)) (ht:TgS own g t) (hg:PG X tg g) (hb:PSs X body (tS own fb))
  (hs:∀x,foldedSetIterable iter X.env x=pure x:=by intro _;rfl):PS X (.For tg iter body [] pos) (tS own (H_ it t fb)):=PS.imp (BW hp hc hi hg hb hs) fun D' σ H ⟨ρ,fl,E,h,q⟩=>by
 obtain ⟨⟨items,ρ1⟩,h1,h2⟩:=aX h;exact ⟨ρ,items,ρ1,E,h1,fun J H1 k1 E1 hJ=>qD ht E1 hJ h2 (q.step k1)⟩
end
end Mi
end
section
namespace Mi
open PySem L2 PySem.SeqAt PySem.Spec PyProof.Rows
noncomputable def bOw (i:Nat):FE:=fun ρ=>do
 let d <- bR i ρ
 if d.v7 then .ok d else .bad
noncomputable def sW (f:FA):FS:=fun ρ=>do
 let ds <- f ρ
 if decide (ds.length<=lim) then .ok (.rt (.tup (.lst ds::ρ))) else .bad
noncomputable def IK (f:FX) (is:List Nat):FS:=fun ρ=>do
 let p <- f ρ
 match p.1 with
 | .lst xs=>if decide (xs.length=is.length) then .ok (.nx (uP is xs p.2)) else .bad
 | _=>.bad
variable [KFrag]
section
variable {prog:Program} {w:World} {A:Around} {E:Value->Shared->Prop} {s:Shared}
theorem sX {it t:Addr} {items:Array Value} (hne:t≠it):∀(n i:Nat) (s:Shared) (Q:List Value->Shared->Prop),s.heap.IsListIter it t i->s.heap.IsList t items->i+n<=items.size->
  (∀h',h'.IsListIter it t (i+n)->Heap.SameBut it s.heap h'->Q ((items.toList.drop i).take n) {s with heap:=h'})->wpAny (model prog w) A (draw (.ref it) n) Q E s
 | 0,i,s,Q,hit,_,_,hQ=>by
  show wpAny _ _ (pure []) Q E s;exact wpAny_pure (by simpa using hQ s.heap hit (Heap.SameBut.refl ..))
 | n+1,i,s,Q,hit,ht,hle,hQ=>by
  have hlt:i<items.size:=by lia
  have keep:∀{h h':Heap},h.IsList t items->Heap.SameBut it h h'->h'.IsList t items:=fun {h h'} ⟨o,e,r⟩ sb=>⟨o,(sb.2 t hne).trans e,r⟩
  show wpAny _ _ (pyNext (.ref it) >>= _) Q E s;refine wpAny_bind (wpAny_pyNext_list_item hit ht (x:=items[i]) (by simp [hlt]) fun h₁ hit₁ hs₁=>?_);refine wpAny_bind (wpAny_holding (sX hne n (i+1) _ _ hit₁ (keep ht hs₁) (by lia) fun h₂ hit₂ hs₂=>wpAny_pure ?_));have hd:items.toList.drop i=items[i]::items.toList.drop (i+1):=by simp [List.drop_eq_getElem_cons,hlt]
  have:=hQ h₂ (by rw [show i+(n+1)=i+1+n by lia];exact hit₂) (hs₁.trans hs₂);rw [hd,List.take_succ_cons] at this;exact this
theorem vB {t:Addr} {items:Array Value} {targets:List (Bool×(Value->Sem Unit))} {Q:Unit->Shared->Prop} (hh:A.handled=none) (ht:s.heap.IsList t items)
  (hn:targets.length=items.size) (hstar:targets.findIdx? (·.1)=none)
  (h:∀h',Heap.ExtBut s.heap.objs.size s.heap h'->wpAny (model prog w) A (assignInOrder (targets.map (·.2)) items.toList) Q E {s with heap:=h'}) :
  wpAny (model prog w) A (unpack (.ref t) targets) Q E s:=by
 have hlt:t≠s.heap.objs.size:=by obtain ⟨o,ho,_⟩:=ht;exact Nat.ne_of_lt (Heap.lt_size ho)
 have push:∀o,(s.heap.push o).IsList t items:=fun o=>let ⟨o',e,r⟩:=ht;⟨o',Heap.get?_push_of_some _ e,r⟩
 unfold unpack;rw [hn,hstar];refine wpAny_bind (wpAny_holding ?_);unfold unpackItems;refine wpAny_bind ?_;unfold notIterableAtAll;refine wpAny_bind (wpAny_specialOf ht.typeIs PySem.F.slot_list_iter.lookup ?_);refine wpAny_pure ?_;simp only [Bool.false_eq_true,if_false];refine wpAny_bind (wpAny_holding (wpAny_pyIter_list ht ?_));refine wpAny_bind (wpAny_holding (sX hlt items.size 0 _ _ ⟨_,Heap.get?_push_size _ rfl,rfl,rfl⟩ (push _) (by lia) fun h₁ hit₁ hs₁=>?_));have hall:List.take items.size (List.drop 0 items.toList)=items.toList:=by
  rw [List.drop_zero];exact List.take_of_length_le (by simp)
 rw [hall];rw [if_neg (by simp)];have ht₁:h₁.IsList t items:=let ⟨o,e,r⟩:=push {cls:=.type "list_iterator",data:=.fields #[.ref t,.int 0 0]};⟨o,(hs₁.2 t hlt).trans e,r⟩
 refine wpAny_bind (wpAny_holding (wpAny_pyNext_list_end hh hit₁ ht₁ (by simp) fun h₂ he₂=>?_));simp only [Option.isSome_none,Bool.false_eq_true,if_false];exact wpAny_pure (h h₂ fun b o hb e=>he₂ b o hb (hs₁.extBut b o hb (Heap.get?_push_of_some _ e)))
end
section
variable {X:Cx} {own:Nat->Bool} {e:Expr} {pos pos':Pos} {fe:FE} {re:Bool} {xe:FX}
noncomputable def Y9 (K:PySem.W.Frag) (n:Nat) (t:TGs):TG:=fun v σ H Q=>∃a xs,v=.ref a/\SqL K H a xs/\xs.length=n/\t xs σ H Q
theorem U4 {es:List Expr} {k:Nat} {t:TGs} {n:Nat} (hc:X.calm=true) (h:PGs X es t)
  (hn:(assignEach es X.env).length=n:=by rfl) (hst:(assignEach es X.env).findIdx? (·.1)=none:=by rfl):PG X (.Tuple es k pos) (Y9 X.K n t):=by
 intro pins s σ H v u Q I r hw;obtain ⟨a,xs,e1,hq,hl,hw⟩:=hw;subst e1;cases r;obtain ⟨its,rv,ht,hz⟩:=I.list hq;rw [assign_Tuple];refine wpAny_bind (wpAny_standAt (vB (I.ok.hd hc) ht.isList (by simp [hn,<-hl,rv.length]) hst fun h' hx=>?_));have I1:Inv X pins σ H {s with heap:=h'}:=I.kept (t':=s.toks) fun b o e=>hx b o (Nat.ne_of_lt (Heap.lt_size e)) e
 exact h pins _ σ H xs _ Q I1 (by simpa using rv) hw
noncomputable def RP (own:Nat->Bool) (σ:L2.St) (H:Hp) (ρ:List D) (a:Addr):Prop:=(Own own σ a\/H a=none)/\∀i b xs,ρ.getD i .uD=.cel b xs->a≠b
theorem RP.same {σ:L2.St} {H H':Hp} {ρ:List D} {a:Addr} (s:cH H H') (h:RP own σ H' ρ a):RP own σ H ρ a:=⟨h.1.imp id s.free,h.2⟩
theorem QR {σ:L2.St} {H:Hp} {ρ:List D} {a:Addr} (E:ES own H σ ρ) (h:H a=none):RP own σ H ρ a:=⟨.inr h,fun i b xs hb z=>by
 obtain ⟨vs,_,e⟩:=iD E hb;subst z;rw [h] at e;cases e⟩
noncomputable def gAR (own:Nat->Bool) (f:FA):TA:=fun σ H Q=>∃ρ ds,ES own H σ ρ/\f ρ=.ok ds/\∀vs H',cH H H'->bH (RP own σ H ρ) H' vs ds->Q vs H'
theorem Y_:PA X [] (gAR own aR):=PA.imp nR fun σ H Q ⟨ρ,ds,E,h,q⟩=>by cases h;exact q [] H (cH.refl H) .nil
theorem IV {i:Nat} {x:Str} {es:List Expr} {f:FA} (ho:own i=true) (hN:X.N[i]?=some x) (hv:Vis X.env.scope x) (hes:PA X es (gAR own f)) (hd:nDb x:=by decide) (hcd:nCd x:=by decide) (hs:starEach (.Name x pos::es) X.env=(false,eval (.Name x pos) X.env)::starEach es X.env:=by rfl):PA X (.Name x pos::es) (gAR own (aB (bOw i) f)):=PA.imp (gC (gB hN hv hd hcd) hes hs) fun σ H Q ⟨ρ,ds,E,h,q⟩=>by
 obtain ⟨y,h1,h⟩:=aX h;obtain ⟨xs,h2,h⟩:=aX h;cases h;obtain ⟨d,h3,h1⟩:=aX h1;split at h1
 ·rename_i hc;cases h1;obtain ⟨v,hv,r,e⟩:=E.er.var h3;obtain ⟨a,o,rfl,r2,hin,_,_,huq⟩:=E.own i v ho hv;rw [e] at hin;have hp:RP own σ H ρ a:=⟨.inl ⟨i,ho,hv⟩,fun j b xs hb z=>by
   obtain ⟨vs,hj,eb⟩:=iD E hb;subst z;cases hoj:own j with
   | true=>
    have:=huq j hoj hj;subst this;rw [hb] at e;subst e;cases hc
   | false=>
    obtain ⟨w,hw,hr⟩:=E.at_ j (by rw [hb];intro z;cases z);have r3:=hr hoj;rw [hb] at r3;cases r3 with
    | cel e p r=>exact p ⟨i,ho,hv⟩⟩
  exact ⟨_,hv,ρ,xs,E,h2,fun vs H2 s2 r2=>q _ _ s2 (.cons ((r.oF hin hp).same s2) r2)⟩
 ·cases h1
theorem ZC {es:List Expr} {f:FA} (he:PE X e (gE fe true)) (hes:PA X es (gAR own f)) (hs:starEach (e::es) X.env=(false,eval e X.env)::starEach es X.env:=by rfl):PA X (e::es) (gAR own (aB fe f)):=PA.imp (gC he hes hs) fun σ H Q ⟨ρ,ds,E,h,q⟩=>by
 obtain ⟨y,h1,h⟩:=aX h;obtain ⟨xs,h2,h⟩:=aX h;cases h;exact ⟨ρ,_,E.er,h1,fun v H1 s1 r1 n1=>⟨ρ,xs,E.same s1,h2,fun vs H2 s2 r2=>q _ _ (s1.trans s2) (.cons (((n1 rfl).mono fun a ha=>QR E ha).same s2) (r2.mono fun a ha=>ha.same s1))⟩⟩
theorem NQ {es:List Expr} {f:FA} (h:PA X es (gAR own f)) (hx:own rtX=true:=by rfl):PS X (.Return (some (.List es pos')) pos) (tS own (sW f)):=PS.imp (qT (PJ h)) fun D σ H ⟨ρ,fl,E,h,q⟩=>by
 obtain ⟨ds,h1,h2⟩:=aX h;split at h2
 ·rename_i hl;cases h2;refine ⟨ρ,ds,E,h1,fun vs H1 s1 r1=>⟨by rw [r1.length];exact iK hl,fun p hp=>?_⟩⟩;have s2:cH H1 (upd H1 p (.lst vs)):=cH.upd hp;have hpH:H p=none:=s1.free hp;exact kRt.new q hx _ σ _ (.same (s1.trans s2)) (E.same (s1.trans s2)) (.lst aO (QR E hpH) (r1.same s2))
 ·cases h2
theorem ZD {es:List Expr} {k:Nat} {is:List Nat} {pt:Pos} (ho:∀i∈is,own i=false) (he:PE X e (gX own xe)) (hg:PG X (.Tuple es k pt) (Y9 X.K is.length (gIx is))) (hs:swapsWithSole [.Tuple es k pt] e pos.line X.env=pure false:=by rfl) (hw:swappedStores [.Tuple es k pt] e X.env=pure none:=by rfl)
  (h1:(assignEach [.Tuple es k pt] X.env).map (·.2)=[assign (.Tuple es k pt) X.env]:=by rfl):PS X (.Assign [.Tuple es k pt] e pos) (tS own (IK xe is)):=PS.imp (WN he hg hs hw h1) fun D' σ H ⟨ρ,fl,E,h,q⟩=>by
 obtain ⟨p,h1,h2⟩:=aX h;refine ⟨ρ,p.1,p.2,E,h1,fun v H1 k1 E1 n1 r=>?_⟩;split at h2
 ·rename_i xs hxs;split at h2
  ·rename_i hl;cases h2;have hl':=of_decide_eq_true hl;rw [hxs] at r;have r2:=u0 E r;obtain ⟨a,vs,rfl,sq,rr⟩:=r2.fH (K:=X.K);refine ⟨a,vs,rfl,sq,by rw [rr.length];exact hl',uZ _ _ _ (by rw [rr.length];exact hl') ?_⟩;obtain ⟨E2,hO⟩:=ES.sets ho E1 rr;exact q _ H1 (k1.trans fun a o e n=>⟨e,by rw [hO];exact n⟩) E2
  ·cases h2
 ·cases h2
end
end Mi
end
section
namespace Mi
open PySem PySem.Spec
namespace Rv
theorem zG:typeLookup (.type "tuple") "__reversed__" = pure none:=by rw [typeLookup_type,builtinLookup_eq_fast];kernel_rfl
theorem zH:typeLookup (.type "reversed") "__len__" = pure none:=by rw [typeLookup_type,builtinLookup_eq_fast];kernel_rfl
theorem slot_next:Slot "reversed" "__next__" "reversed.__next__":=
 .of (owner := "reversed") (n := "__next__") (by rw [typeLookup_type,builtinLookup_eq_fast];kernel_rfl) (by decide +kernel) (by decide +kernel) (by decide +kernel)
  (by first|exact .inl (by decide +kernel)|exact .inr (by decide +kernel)) (by rw [isSubtype_type];kernel_rfl)
theorem oK:Slot "reversed" "__length_hint__" "reversed.__length_hint__":=
 .of (owner := "reversed") (n := "__length_hint__") (by rw [typeLookup_type,builtinLookup_eq_fast];kernel_rfl) (by decide +kernel) (by decide +kernel) (by decide +kernel)
  (by first|exact .inl (by decide +kernel)|exact .inr (by decide +kernel)) (by rw [isSubtype_type];kernel_rfl)
theorem sY:Slot "reversed" "__iter__" "reversed.__iter__":=
 .of (owner := "reversed") (n := "__iter__") (by rw [typeLookup_type,builtinLookup_eq_fast];kernel_rfl) (by decide +kernel) (by decide +kernel) (by decide +kernel)
  (by first|exact .inl (by decide +kernel)|exact .inr (by decide +kernel)) (by rw [isSubtype_type];kernel_rfl)
theorem entry_next:entryFor table "reversed.__next__" = some Builtin.«reversed.__next__»:=entryFor_of_tree (by kernel_rfl)
theorem zJ:entryFor table "reversed.__length_hint__" = some Builtin.«reversed.__length_hint__»:=entryFor_of_tree (by kernel_rfl)
theorem zK:entryFor table "reversed.__iter__" = some Builtin.«dict_keyiterator.__iter__»:=
 entryFor_alias (id' := "dict_keyiterator.__iter__") (by kernel_rfl) (by first|rfl|decide +kernel|(unfold String.splitOn;simp +decide [String.splitOnAux])) (by decide +kernel) (by kernel_rfl)
theorem owner:Manifest.owners.lookup (String.ofList ['d','e','s','r','e','v','e','r'].reverse)=some Manifest.sig_reversed:=by kernel_rfl
theorem args_next (a:Value):argsOk "reversed.__next__" ⟨[a],[]⟩:=by
 unfold argsOk;rw [signature?_of (id := "reversed.__next__") (n:=['_','_','t','x','e','n','_','_']) (o:=['d','e','s','r','e','v','e','r']) (by kernel_rfl) owner];kernel_rfl
theorem IW (a:Value):argsOk "reversed.__iter__" ⟨[a],[]⟩:=by
 unfold argsOk;rw [signature?_of (id := "reversed.__iter__") (n:=['_','_','r','e','t','i','_','_']) (o:=['d','e','s','r','e','v','e','r']) (by kernel_rfl) owner];kernel_rfl
theorem I_ (a:Value):argsOk "reversed.__length_hint__" ⟨[a],[]⟩:=by
 unfold argsOk;rw [signature?_of (id := "reversed.__length_hint__") (n:=['_','_','t','n','i','h','_','h','t','g','n','e','l','_','_']) (o:=['d','e','s','r','e','v','e','r']) (by kernel_rfl) owner];kernel_rfl
theorem JB:Slot "reversed" "__init__" "object.__init__":=
 .of (owner := "object") (n := "__init__") (by rw [typeLookup_type,builtinLookup_eq_fast];kernel_rfl) (by decide +kernel) (by decide +kernel) (by decide +kernel)
  (by first|exact .inl (by decide +kernel)|exact .inr (by decide +kernel)) (by rw [isSubtype_type];kernel_rfl)
theorem called:TypeCalled "reversed" "reversed.__new__" "object.__init__":=
 ⟨by decide +kernel,by decide +kernel,⟨_,_,PySem.F.mro_reversed⟩,PySem.F.made_reversed,by decide +kernel,by rw [isSubtype_type];kernel_rfl,JB⟩
noncomputable def obj (t:Addr) (i:Int):Obj:={cls:=.type "reversed",data:=.fields #[.ref t,rawInt i]}
theorem JC (t:Addr) (items:Array Value) (n:Nat) (dct:Option Addr) (sl:Array (Option Value)) (hz:(items.size:Int)<2 ^ 62) :
  Meets (Builtin.«reversed.__new__» ⟨[.type "reversed",.ref t],[]⟩) (fun _ R s=>s.heap.get? t=some {cls:=.type "tuple",dict:=dct,data:=.seq items n,slots:=sl}/\
   ∀tk,R (.ok (.ret (.ref s.heap.objs.size))) {s with heap:=s.heap.push (obj t ((items.size:Int)-1)),toks:=tk}):=
 .of_wp fun prog w A R s h=>by
  obtain ⟨hp,g,d,tk,os⟩:=s;obtain ⟨hl,h⟩:=h;have hT:(Shared.mk hp g d tk os).TypeIs (.ref t) "tuple":=⟨_,hl,rfl⟩
  unfold Builtin.«reversed.__new__»;refine wpAny_bind (wpAny_of_eq (newClass_reversed _) ?_)
  try dsimp only
  refine wpAny_bind (wpAny_of_eq (a:=()) (by first|rfl|kernel_rfl) ?_);refine wpAny_bind (wpAny_of_eq (a:=()) (by first|rfl|kernel_rfl) ?_)
  try dsimp only
  refine wpAny_bind (wpAny_specialOf hT zG ?_)
  try dsimp only
  refine wpAny_bind ?_;refine wpAny_bind (wpAny_isInstance (T := "tuple") (b:=false) hT (by rw [isSubtype_type];kernel_rfl) ?_);refine wpAny_ite_split (fun hab=>absurd hab (by decide)) (fun _=>?_);refine wpAny_bind (wpAny_specialOf hT PyProof.Rows.slot_tuple_getitem.lookup ?_);dsimp only;rw [if_pos (by decide +kernel)];refine wpAny_pure ?_;rw [if_neg (by decide)];refine wpAny_bind (PyProof.Rows.len_tuple (items:=items) ⟨_,hl,rfl,n,rfl⟩ (by lia) ?_);refine wpAny_bind (wpAny_of_eq (a:=some (items.size:Int)) rfl ?_);dsimp only;refine wpAny_bind ?_;unfold Builtin.SmallTypes.newRecord;exact wpAny_newObj_type (wpAny_pure ⟨_,rfl,h _⟩)
theorem NT {prog:Program} {w:World} {A:Around} {E:Value->Shared->Prop} {s:Shared} {t:Addr} {items:Array Value} {Q:Value->Shared->Prop} (hL:s.heap.IsTuple t items) (hz:(items.size:Int)<2 ^ 62)
  (h:∀tk,Q (.ref s.heap.objs.size) {s with heap:=s.heap.push (obj t ((items.size:Int)-1)),toks:=tk}):wpAny (model prog w) A (call (.type "reversed") [.ref t]) Q E s:=by
 obtain ⟨⟨c,dct,dt,sl⟩,hl,hc,n,hd⟩:=hL;replace hc:c=.type "tuple":=hc;replace hd:dt=.seq items n:=hd;subst hc hd;refine callType_new called (by decide) (PySem.F.typeCall_reversed_1 _) (PySem.F.newCall_reversed_1 _) (fun obj=>PySem.F.args_object_init_2 obj _) PySem.F.entry_reversed_new (JC t items n dct sl hz) ⟨hl,fun tk=>⟨⟨_,Heap.get?_push_size _ rfl,rfl⟩,h tk⟩⟩
noncomputable def Is (h:Heap) (a t:Addr) (i:Int):Prop:=∃o,h.get? a=some o/\o.cls=.type "reversed"/\o.data=.fields #[.ref t,rawInt i]
theorem Is.ty {s:Shared} {a t:Addr} {i:Int} (x:Is s.heap a t i):s.TypeIs (.ref a) "reversed":=let ⟨o,ho,hc,_⟩:=x;⟨o,ho,hc⟩
theorem Is.at {h h':Heap} {a t:Addr} {i:Int} (x:Is h a t i) (e:∀o,h.get? a=some o->h'.get? a=some o):Is h' a t i:=let ⟨o,ho,r⟩:=x;⟨o,e o ho,r⟩
section
variable {prog:Program} {w:World} {A:Around} {E:Value->Shared->Prop} {s:Shared}
theorem next_item {it t:Addr} {i:Nat} {items:Array Value} {x:Value} {Q:Option Value->Shared->Prop} (hit:Is s.heap it t (i:Int)) (hl:s.heap.IsTuple t items) (hx:items[i]?=some x) (hz:(items.size:Int)<2 ^ 62)
  (hQ:∀h' tk,Is h' it t ((i:Int)-1)->Heap.SameBut it s.heap h'->Q (some x) {s with heap:=h',toks:=tk}):wpAny (model prog w) A (pyNext (.ref it)) Q E s:=by
 obtain ⟨o,ho,hc,hd⟩:=id hit;have hi:i<items.size:=(Array.getElem?_eq_some_iff.mp hx).1;unfold pyNext;refine wpAny_bind (wpAny_attempt (wpAny_callSpecial?_slot (name:=Str.ofString "__next__") hit.ty slot_next
  (wpAny_call_entry slot_next hit.ty entry_next ?_ (args_next _))))
 unfold Builtin.«reversed.__next__»;refine wpAny_bind (wpAny_of_eq (a:=(Value.ref it,[])) rfl ?_)
 try dsimp only
 refine wpAny_bind (wpAny_field ho hd (x:=.ref t) rfl ?_);refine wpAny_bind (wpAny_field ho hd (x:=rawInt (i:Int)) rfl ?_);show wpAny _ _ (if (i:Int)<0 then _ else _) _ _ s;rw [if_neg (by lia)];refine wpAny_bind (wpAny_specialOf hl.typeIs PyProof.Rows.slot_tuple_getitem.lookup ?_);rw [if_neg (by simp)];refine wpAny_bind (wpAny_mkInt ?_);refine wpAny_bind (wpAny_attempt (PyProof.Rows.getItem_tuple (items:=items) (j:=i) (x:=x) hl (by lia) (by lia) (by unfold seqIndex?;simp;lia) hx ?_));dsimp only;refine wpAny_bind (wpAny_field ho hd (x:=rawInt (i:Int)) rfl ?_);show wpAny _ _ (setField (.ref it) 1 (rawInt ((i:Int)-1)) >>= _) _ _ _;refine wpAny_bind (wpAny_setField ho hd (by simp) ?_);refine wpAny_pure ⟨x,rfl,wpAny_pure (hQ _ _ ?_ (Heap.SameBut.update ..))⟩;exact ⟨_,Heap.get?_update_self _ ho (Obj.isFreed_of_fields (Obj.data_mapFields hd _)),(Obj.cls_mapFields ..).trans hc,by
  rw [Obj.data_mapFields hd];simp⟩
theorem next_end {it t:Addr} {Q:Option Value->Shared->Prop} (hh:A.handled=none) (hit:Is s.heap it t (-1))
  (hQ:∀h',Heap.ExtBut it s.heap h'->Q none {s with heap:=h'}):wpAny (model prog w) A (pyNext (.ref it)) Q E s:=by
 obtain ⟨o,ho,hc,hd⟩:=id hit;unfold pyNext;refine wpAny_bind (wpAny_attempt (wpAny_callSpecial?_slot (name:=Str.ofString "__next__") hit.ty slot_next
  (wpAny_call_entry slot_next hit.ty entry_next ?_ (args_next _))))
 unfold Builtin.«reversed.__next__»;refine wpAny_bind (wpAny_of_eq (a:=(Value.ref it,[])) rfl ?_)
 try dsimp only
 refine wpAny_bind (wpAny_field ho hd (x:=.ref t) rfl ?_);refine wpAny_bind (wpAny_field ho hd (x:=rawInt (-1)) rfl ?_);show wpAny _ _ (if (-1:Int)<0 then _ else _) _ _ s;rw [if_pos (by decide)];refine wpAny_bind (wpAny_rule ?_);refine wpAny_bind ?_;refine wpAny_bind (wpAny_setField ho hd (by simp) ?_);have h1:=Heap.get?_update_self (h:=s.heap) (a:=it) (Obj.mapFields (·.set! 1 (rawInt (-1)))) ho (Obj.isFreed_of_fields (Obj.data_mapFields hd _));have hd1:(Obj.mapFields (·.set! 1 (rawInt (-1))) o).data=.fields #[.ref t,rawInt (-1)]:=by rw [Obj.data_mapFields hd];simp
 refine wpAny_setField h1 hd1 (by simp) ?_;refine wpAny_bind ?_;unfold Builtin.SmallTypes.stopIteration;simp only [newExc,newTuple];refine wpAny_bind ?_;refine wpAny_bind (wpAny_newObj_type ?_ (by size_fits));refine wpAny_bind (m:=firstArgMember _ _) (wpAny_of_eq (a:=Value.none) (by first|rfl|(simp only [firstArgMember];rfl)) ?_);refine wpAny_newObj_type ?_ (by size_fits);simp only [raiseNew];refine wpAny_bind (wpAny_handled ?_)
 first|rw [show A.in1.handled=none from hh]|rw [hh]
 refine wpAny_bind (wpAny_pure (wpAny_throw ?_));refine wpAny_bind (wpAny_isInstance (T := "StopIteration") (b:=true) ⟨_,Heap.get?_push_size _ rfl,rfl⟩ isSubtype_stop ?_);exact wpAny_pure (hQ _ ((((Heap.SameBut.update ..).trans (Heap.SameBut.update ..)).extBut.push _).push _))
theorem sZ {it t:Addr} {i:Int} {Q:Value->Shared->Prop} (hit:Is s.heap it t i) (h:Q (.ref it) s):wpAny (model prog w) A (pyIter (.ref it)) Q E s:=by
 refine wpAny_pyIter_slot hit.ty sY (wpAny_call_entry sY hit.ty zK ?_ (IW _));show wpAny _ _ (ret (.ref it)) _ _ s;exact wpAny_pure ⟨_,rfl, "reversed",_,hit.ty,slot_next.lookup,h⟩
end
theorem walks {prog:Program} {w:World} {A:Around} (hh:A.handled=none) (I l:Addr) (hne:l≠I) (items:Array Value) (hz:(items.size:Int)<2 ^ 62) :
  Walks prog w A I [I,l] [I] items.size (fun i v=>items[items.size-1-i]?=some v) (fun i h=>i<=items.size/\Is h I l ((items.size:Int)-1-(i:Int))/\h.IsTuple l items) where
 sub:=fun b hb=>by simp at hb;simp [hb]
 frame:=fun _ _ _ x hk=>⟨x.1,x.2.1.at fun o e=>hk I (by simp) o e,let ⟨o,e,r⟩:=x.2.2;⟨o,hk l (by simp) o e,r⟩⟩
 item:=fun i s Q E hi x hQ=>by
  have e:(items.size:Int)-1-(i:Int)=((items.size-1-i:Nat):Int):=by lia
  have hit:=x.2.1;rw [e] at hit;have hx:items[items.size-1-i]?=some (items[items.size-1-i]'(by lia)):=Array.getElem?_eq_getElem (by lia);refine next_item hit x.2.2 hx hz fun h' tk hit' hs'=>?_
  have e2:((items.size-1-i:Nat):Int)-1=(items.size:Int)-1-((i+1:Nat):Int):=by lia
  rw [e2] at hit';exact hQ _ h' tk hx ⟨hi,hit',let ⟨o,eo,r⟩:=x.2.2;⟨o,(hs'.2 l hne).trans eo,r⟩⟩ fun b o hb eo=>hs'.extBut b o (fun h=>hb (by simp [h])) eo
 done:=fun s Q E x hQ=>by
  have e:(items.size:Int)-1-(items.size:Int)=-1:=by lia
  have hit:=x.2.1;rw [e] at hit;exact next_end hh hit fun h' he'=>hQ h' s.toks fun b o hb eo=>he' b o (fun h=>hb (by simp [h])) eo
 self:=fun _ _ _ _ x hQ=>sZ x.2.1 hQ
section
variable {prog:Program} {w:World} {A:Around} {E:Value->Shared->Prop} {s:Shared}
theorem hint {I l:Addr} {items:Array Value} {Q:Bool->Shared->Prop} (hit:Is s.heap I l ((items.size:Int)-1)) (hl:s.heap.IsTuple l items) (hz:items.size<=sizeLine) (h:∀b tk,Q b {s with toks:=tk}):wpAny (model prog w) A (Builtin.List.listLengthHint (.ref I)) Q E s:=by
 unfold Builtin.List.listLengthHint;refine wpAny_bind (wpAny_specialOf hit.ty zH ?_);dsimp only;refine wpAny_ite_split (fun hab=>absurd hab (by decide +kernel)) (fun _=>?_);rw [if_neg (by simp)];refine wpAny_bind (wpAny_specialOf hit.ty oK.lookup ?_);generalize hid:("reversed.__length_hint__" : String)=id0
 wp_delta
 rw [show splitId id0=some ("reversed", "__length_hint__") from by subst hid;decide +kernel];subst hid;refine wpAny_bind (wpAny_isInstance (T := "reversed") (b:=true) hit.ty PySem.F.sub_reversed_self ?_);refine wpAny_ite_split (fun hab=>absurd hab (by decide)) (fun _=>?_);refine wpAny_ite_split (fun hab=>absurd hab (by decide +kernel)) (fun _=>?_);refine wpAny_bind (wpAny_rule ?_);refine wpAny_bind (wpAny_of_eq (oK.bind _) ?_);refine wpAny_bind (wpAny_attempt (wpAny_call_entry oK hit.ty zJ ?_ (I_ _)));obtain ⟨o,ho,hc,hd⟩:=id hit;unfold Builtin.«reversed.__length_hint__»;refine wpAny_bind (wpAny_of_eq (a:=Value.ref I) rfl ?_);refine wpAny_bind (wpAny_field ho hd (x:=.ref l) rfl ?_);rw [if_neg (show ¬((Value.ref l==Value.none)=true) from Bool.false_ne_true)];rw [sizeLine_eq] at hz;refine wpAny_bind (PyProof.Rows.len_tuple (items:=items) hl (by lia) ?_);refine wpAny_bind (wpAny_of_eq (a:=some (items.size:Int)) rfl ?_);dsimp only;refine wpAny_bind (wpAny_field ho hd (x:=rawInt ((items.size:Int)-1)) rfl ?_);show wpAny _ _ (if (items.size:Int)<(items.size:Int)-1+1 then _ else _) _ _ _;rw [if_neg (by lia)];refine wpAny_bind (wpAny_mkInt (wpAny_pure ⟨_,rfl,?_⟩));dsimp only;refine wpAny_bind (wpAny_of_eq (a:=some ((items.size:Int)-1+1)) rfl ?_);dsimp only;rw [if_neg (by simp only [Builtin.List.listFitsIndex,Bool.not_eq_true',Bool.not_eq_false,Bool.and_eq_true,decide_eq_true_eq];lia),if_neg (by lia),if_neg (by simp only [Builtin.List.listTooLong,decide_eq_true_eq,sizeLine_eq];lia)];exact wpAny_pure (h _ _)
theorem extend {R:Result->Shared->Prop} {I l:Addr} {items:Array Value} (hh:A.handled=none) (hit:Is s.heap I l ((items.size:Int)-1)) (hl:s.heap.IsTuple l items) (hIl:l≠I) (S:Addr) (hSr:S≠I) (hSd:S≠l) (res:Value) (c₀:Nat) (hS:s.heap.get? S=some {cls:=.type "list",data:=.seq #[] c₀})
  (hR:∀h' tk acc' c',(∀b o,b≠S->b≠I->s.heap.get? b=some o->h'.get? b=some o)->h'.get? S=some {cls:=.type "list",dict:=none,data:=.seq acc' c',slots:=#[]}->ItemsOf (fun i v=>items[items.size-1-i]?=some v) acc' items.size->R (.ok (.ret res)) {s with heap:=h',toks:=tk}) (hn:items.size<=sizeLine) :
  wpAny (model prog w) A.in1 (Builtin.List.listExtendWith (.ref S) (.ref I) res)
   (fun fin s'=>match fin with|.done f=>R (.ok f) s'|.again c'=>c'.quiet=true/\codeAny (model prog w) A c' R s') (fun e s'=>R (.error e) s') s:=by
 have hz:(items.size:Int)<2 ^ 62:=by rw [sizeLine_eq] at hn;lia
 have W:=walks (prog:=prog) (w:=w) (A:=A.in1) hh I l hIl items hz;have hSf:S∉[I,l]:=by simp only [List.mem_cons,List.not_mem_nil,or_false,not_or];exact ⟨hSr,hSd⟩
 have st0:∀{h:Heap},Is h I l ((items.size:Int)-1)->h.IsTuple l items->0<=items.size/\Is h I l ((items.size:Int)-1-((0:Nat):Int))/\h.IsTuple l items:=fun {h} a b=>⟨Nat.zero_le _,by simpa using a,b⟩
 have key:∀(h:Heap) (c₁ tk:Nat),Is h I l ((items.size:Int)-1)->h.IsTuple l items->(∀b o,b≠S->s.heap.get? b=some o->h.get? b=some o)->
   h.get? S=some {cls:=.type "list",data:=.seq #[] c₁}->codeAny (model prog w) A (.builtin "list.extend.loop" ⟨[.ref S,.ref I,res],[]⟩) R {s with heap:=h,toks:=tk}:=by
  intro h c₁ tk h1 h2 hk hS₁;refine codeAny_extend_loopS W.toS hn S hSf res items.size 0 _ #[] c₁ rfl (Nat.zero_le _) (st0 h1 h2) hS₁ (ItemsOf.nil _) fun s' acc' c' hm hS' hacc=>?_
  rw [Moved.eq_with hm];refine hR s'.heap s'.toks acc' c' (fun b o hb hbI e=>hm.heap b o (fun hmem=>?_) (hk b o hb e)) hS' hacc;rcases List.mem_cons.mp hmem with e'|hmem
  ·exact hb e'
  ·exact hbI (List.mem_singleton.mp hmem)
 unfold Builtin.List.listExtendWith;refine wpAny_bind (wpAny_typeOf (T := "reversed") hit.ty ?_);have h1:Builtin.List.listSameRef (.ref S) (.ref I)=false:=by simp [Builtin.List.listSameRef,hSr]
 have n1:(Value.type "reversed" == Value.type "list")=false:=by decide
 have n2:(Value.type "reversed" == Value.type "tuple")=false:=by decide
 simp only [h1,n1,n2,Bool.or_false,Bool.false_eq_true,if_false];refine wpAny_bind (sZ hit ?_);refine wpAny_bind (wpAny_holding (hint hit hl hn fun b tk=>?_));refine wpAny_ite_split (fun _=>?_) (fun _=>wpAny_pure ⟨plainId_quiet PySem.F.plain_extend_loop _,key _ c₀ _ hit hl (fun b o _ e=>e) hS⟩);refine wpAny_bind (wpAny_rule ?_);refine wpAny_bind ?_;show wpAny _ _ (updateSeq S (·.push .none) >>= fun _=>updateSeq S (·.pop)) _ _ _;refine wpAny_bind (wpAny_updateSeq hS rfl ?_);have hS₂:=Heap.get?_update_self (Obj.mapSeq (·.push Value.none)) hS rfl;refine wpAny_updateSeq (hz:=by seq_fits) hS₂ rfl ?_;have hS₃:=Heap.get?_update_self (Obj.mapSeq (·.pop)) hS₂ rfl;have oth:∀b o,b≠S->s.heap.get? b=some o->((s.heap.update S (Obj.mapSeq (·.push Value.none))).update S (Obj.mapSeq (·.pop))).get? b=some o:=fun b o hb e=>(Heap.get?_update_other _ _ (Ne.symm hb)).trans ((Heap.get?_update_other _ _ (Ne.symm hb)).trans e)
 refine wpAny_pure ⟨plainId_quiet PySem.F.plain_extend_loop _,key _ _ _ (hit.at fun o e=>oth I o (Ne.symm hSr) e) (let ⟨o,e,r⟩:=hl;⟨o,oth l o (Ne.symm hSd) e,r⟩) (fun b o hb e=>oth b o hb e) hS₃⟩
theorem init {R:Result->Shared->Prop} {I l:Addr} {items:Array Value} (hh:A.handled=none) (hit:Is s.heap I l ((items.size:Int)-1)) (hl:s.heap.IsTuple l items) (hIl:l≠I) (S:Addr) (hSr:S≠I) (hSd:S≠l) (hS:s.heap.get? S=some {cls:=.type "list",data:=.seq #[]})
  (hR:∀h' tk acc' c',(∀b o,b≠S->b≠I->s.heap.get? b=some o->h'.get? b=some o)->h'.get? S=some {cls:=.type "list",dict:=none,data:=.seq acc' c',slots:=#[]}->ItemsOf (fun i v=>items[items.size-1-i]?=some v) acc' items.size->R (.ok (.ret .none)) {s with heap:=h',toks:=tk}) (hn:items.size<=sizeLine) :
  wpAny (model prog w) A.in1 (Builtin.«list.__init__» ⟨[.ref S,.ref I],[]⟩)
   (fun fin s'=>match fin with|.done f=>R (.ok f) s'|.again c'=>c'.quiet=true/\codeAny (model prog w) A c' R s') (fun e s'=>R (.error e) s') s:=by
 show wpAny _ _ (do let old <- Builtin.List.listItems (.ref S);Builtin.List.listUpdate (.ref S) (fun _=>#[]);letGo old.toList.reverse;Builtin.List.listExtendWith (.ref S) (.ref I) .none) _ _ s;refine wpAny_bind ?_;unfold Builtin.List.listItems;refine wpAny_bind (wpAny_seqItems hS rfl (wpAny_pure ?_));show wpAny _ _ (updateSeq S (fun _=>#[]) >>= fun _=>letGo (#[]:Array Value).toList.reverse >>= fun _=>Builtin.List.listExtendWith (.ref S) (.ref I) .none) _ _ s;refine wpAny_bind (wpAny_updateSeq hS rfl ?_);have hS₂:=Heap.get?_update_self (Obj.mapSeq (fun _=>(#[]:Array Value))) hS rfl;have oth:∀b o,b≠S->s.heap.get? b=some o->(s.heap.update S (Obj.mapSeq (fun _=>(#[]:Array Value)))).get? b=some o:=
  fun b o hb e=>(Heap.get?_update_other _ _ (Ne.symm hb)).trans e
 refine wpAny_bind (wpAny_letGo ?_);refine extend hh (hit.at fun o e=>oth I o (Ne.symm hSr) e) (let ⟨o,e,r⟩:=hl;⟨o,oth l o (Ne.symm hSd) e,r⟩) hIl S hSr hSd .none _ hS₂ (fun h' tk acc' c' hk hS' hacc=>?_) hn;exact hR h' tk acc' c' (fun b o hb hbI e=>hk b o hb hbI (oth b o hb e)) hS' hacc
theorem JD {I l:Addr} {items:Array Value} {Q:Value->Shared->Prop} (hh:A.handled=none) (hit:Is s.heap I l ((items.size:Int)-1)) (hl:s.heap.IsTuple l items) (hIl:l≠I) (hn:items.size<=sizeLine)
  (hQ:∀h' tk acc' c',(∀b o,b≠I->s.heap.get? b=some o->h'.get? b=some o)->h'.get? s.heap.objs.size=some {cls:=.type "list",dict:=none,data:=.seq acc' c',slots:=#[]}->ItemsOf (fun i v=>items[items.size-1-i]?=some v) acc' items.size->Q (.ref s.heap.objs.size) {s with heap:=h',toks:=tk}) :
  wpAny (model prog w) A (call (.type "list") [.ref I]) Q E s:=by
 refine callType_codes (Q₁:=fun obj s₁=>obj=.ref s.heap.objs.size/\s₁={s with heap:=s.heap.push {cls:=.type "list",data:=.seq #[]}}) PySem.F.called_list (PySem.F.typeCall_list_1 _) PySem.F.entry_list_init
  (code_list_new _ ⟨rfl,rfl⟩) fun obj s₁ h₁=>?_
 obtain ⟨rfl,rfl⟩:=h₁;have hS:(s.heap.push {cls:=.type "list",data:=.seq #[]}).get? s.heap.objs.size=some {cls:=.type "list",data:=.seq #[]}:=Heap.get?_push_size _ rfl;have lt:∀{b:Addr} {o:Obj},s.heap.get? b=some o->s.heap.objs.size≠b:=fun e=>Nat.ne_of_gt (Heap.lt_size e)
 have l1:s.heap.objs.size≠I:=let ⟨o,e,_⟩:=hit;lt e
 have l2:s.heap.objs.size≠l:=let ⟨o,e,_⟩:=hl;lt e
 refine ⟨⟨_,hS,rfl⟩,PySem.F.args_list_init_2 _ _,init (A:=A.in1) hh (hit.at fun o e=>Heap.get?_push_of_some _ e) (let ⟨o,e,r⟩:=hl;⟨o,Heap.get?_push_of_some _ e,r⟩) hIl _ l1 l2 hS (fun h' tk acc' c' hk hS' hacc=>?_) hn⟩;exact ⟨rfl,hQ h' tk acc' c' (fun b o hb e=>hk b o (Ne.symm (lt e)) hb (Heap.get?_push_of_some _ e)) hS' hacc⟩
end
end Rv
end Mi
end
section
namespace Mi
open PySem L2 PySem.SeqAt PySem.Spec PyProof.Rows
noncomputable def QS:D->Res D
 | .tup xs=>if D.aU xs&&decide (xs.length<=lim) then .ok (.lst xs.reverse) else .bad
 | _=>.bad
theorem vC:bootBuiltins "reversed" = some (.type "reversed"):=by decide +kernel
variable [KFrag]
theorem bH.rev {P:Addr->Prop} {H:Hp}:∀{vs:List V} {ds:List D},bH P H vs ds->bH P H vs.reverse ds.reverse
 | _,_,.nil=>.nil
 | _,_,.cons r t=>by rw [List.reverse_cons,List.reverse_cons];exact t.rev.snoc r
theorem JF {ds:List D} (h:D.aU ds=true):D.aU ds.reverse=true:=d_.mpr fun y hy=>d_.mp h y (List.mem_reverse.mp hy)
theorem NZ {xs:List V} {its acc:List Value} (r:Vals xs its) (hl:acc.length=its.length) (h:∀j v,acc[j]?=some v->its[its.length-1-j]?=some v):Vals xs.reverse acc:=by
 have e:acc=its.reverse:=by
  refine List.ext_getElem? fun j=>?_
  by_cases hj:j<its.length
  ·have h1:acc[j]?=some (acc[j]'(by lia)):=List.getElem?_eq_getElem (by lia);have h2:=h j _ h1;rw [h1,List.getElem?_reverse hj,h2]
  ·rw [List.getElem?_eq_none (by lia),List.getElem?_eq_none (by rw [List.length_reverse];lia)]
 rw [e];clear e h hl;induction r with
 | nil=>exact .nil
 | cons h t ih=>
  rw [List.reverse_cons,List.reverse_cons];exact ih.append (.cons h .nil)
section
variable {X:Cx} {e:Expr} {fe:FE} {re:Bool} {p p2 pos pos2:Pos}
theorem JG (hc:X.calm=true) (hg:Gl X "list") (hm:X.mg "list" = none) (hg2:Gl X "reversed") (hm2:X.mg "reversed" = none) (he:PE X e (gE fe re)) (hs:starEach [e] X.env=[(false,eval e X.env)]:=by rfl)
  (hs2:starEach [.Call (.Name "reversed" p2) [e] [] pos2] X.env=[(false,eval (.Call (.Name "reversed" p2) [e] [] pos2) X.env)]:=by rfl) :
  PE X (.Call (.Name "list" p) [.Call (.Name "reversed" p2) [e] [] pos2] [] pos) (gE (b1 QS fe) true):=by
 intro pins s σ H Q I ⟨ρ,d,E,h,q⟩;obtain ⟨d0,h1,h2⟩:=aX h;unfold QS at h2;split at h2
 rotate_left
 ·cases h2
 rename_i ds;split at h2
 rotate_left
 ·cases h2
 rename_i hb;cases h2;rw [Bool.and_eq_true] at hb;refine wpAny_Call_Name_kw (nM I hg hm G8 ?_);refine PyProof.Rows.callWith_type1 ?_ hs2 rfl;rw [hs2];show wpAny _ _ (spliced [(false,eval (.Call (.Name "reversed" p2) [e] [] pos2) X.env)]) _ _ s;refine Calls.spliced_cons ?_;refine wpAny_Call_Name_kw (nM I hg2 hm2 vC ?_);refine PyProof.Rows.callWith_type1 ?_ hs rfl;rw [hs];show wpAny _ _ (spliced [(false,eval e X.env)]) _ _ s;refine Calls.spliced_cons (thn (he pins s σ H (fun v H1=>cH H H1/\Rep All H1 v (.tup ds)) I ⟨ρ,_,E,h1,fun v H1 s1 r1 _=>⟨s1,r1⟩⟩) fun u s1 ⟨x,H1,I1,ru,sm,rx⟩=>?_);obtain ⟨t,xs,rfl,ex,rr⟩:=rx.eV;cases ru;obtain ⟨its,rv,ht,hz⟩:=I1.tuple (.of ex);have htt:s1.heap.IsTuple t its.toArray:=ht;refine Calls.spliced_nil ?_;have hz':its.toArray.size<=sizeLine:=by rw [List.size_toArray,<-rv.length];exact hz
 refine Rv.NT htt (by rw [sizeLine_eq] at hz';lia) fun tk=>?_
 refine Calls.spliced_nil ?_;have hne:t≠s1.heap.objs.size:=let ⟨o,e,_⟩:=htt;Nat.ne_of_lt (Heap.lt_size e)
 refine Rv.JD (s:={s1 with heap:=s1.heap.push (Rv.obj t ((its.toArray.size:Int)-1)),toks:=tk}) (I:=s1.heap.objs.size) (l:=t) (items:=its.toArray) (I1.ok.hd hc) ⟨_,Heap.get?_push_size _ rfl,rfl,rfl⟩ (let ⟨o,e,r⟩:=htt;⟨o,Heap.get?_push_of_some _ e,r⟩) hne hz' fun h' tk' acc c hk hS hacc=>?_
 have hsz:((s1.heap.push (Rv.obj t ((its.toArray.size:Int)-1))).objs.size)=s1.heap.objs.size+1:=Heap.size_push ..;have hfr:H1 (s1.heap.push (Rv.obj t ((its.toArray.size:Int)-1))).objs.size=none:=I1.hok.fresh (by rw [hsz];lia);have hlen:acc.toList.length=its.length:=by have:=hacc.1;simpa using this
 have hv:Vals xs.reverse acc.toList:=NZ rv hlen fun j v hj=>by
  have:=hacc.2 j v (by simpa using hj);simpa using this
 have sm2:cH H1 (upd H1 (s1.heap.push (Rv.obj t ((its.toArray.size:Int)-1))).objs.size (.lst xs.reverse)):=cH.upd hfr;refine ⟨.ref (s1.heap.push (Rv.obj t ((its.toArray.size:Int)-1))).objs.size,_,I1.laid (a:=(s1.heap.push (Rv.obj t ((its.toArray.size:Int)-1))).objs.size) (o:=.lst xs.reverse) (h':=h') (t':=tk') (fun b o e=>hk b o (Nat.ne_of_lt (Heap.lt_size e)) (Heap.get?_push_of_some _ e)) (by rw [hsz];lia) ⟨by rw [List.length_reverse];exact hz,acc.toList,c,hv,by simpa using hS⟩,rfl,?_⟩;exact q _ _ (sm.trans sm2) (.lst aO trivial (rr.rev.same sm2)) fun _=>.lst aO (sm.free hfr) ((rr.rev.bI (JF hb.1)).same sm2)
end
end Mi
end
section
namespace Wl
open PySem PySem.Spec
abbrev liO (xs:Array Value) (n:Nat):Obj:={cls:=.type "list",data:=.seq xs n}
theorem ZF:typeLookup (.type "list") "keys" = pure none:=by rw [typeLookup_type,builtinLookup_eq_fast];kernel_rfl
theorem noGet:typeLookup (.type "list") "__getattr__" = pure none:=by rw [typeLookup_type,builtinLookup_eq_fast];kernel_rfl
theorem ZG:entryFor table "list.__getattribute__" = some Builtin.«object.__getattribute__»:=entryFor_alias (id' := "object.__getattribute__") (by kernel_rfl) (by decide +kernel) (by decide +kernel) (by kernel_rfl)
theorem vD (a:Addr) (xs:Array Value) (n:Nat) (u:Tok):Meets (Builtin.«object.__getattribute__» ⟨[.ref a,.str "keys" u],[]⟩) (fun A R s=>s.heap.get? a=some (liO xs n)/\raisesAttr (.ref a) "keys" A R s):=.of_wp fun prog w A R s hs=>by
 obtain ⟨hp,g,d,tk,os⟩:=s;obtain ⟨e,hh,q⟩:=hs;have ty:(⟨hp,g,d,tk,os⟩:Shared).TypeIs (.ref a) "list":=⟨_,e,rfl⟩
 have no:=ZF
 wp_walk
 exact wpAny_raiseAttrError hh q (attrMsg_fits (by decide +kernel) (by size_fits))
section
variable {prog:Program} {w:World} {A:Around} {E:Value->Shared->Prop} {hp:Heap} {g:Array GenState} {d:Drawn} {tk:Nat} {os:OsState} {a:Addr} {xs:Array Value} {n:Nat}
theorem gone {u:Tok} {kw:List (Str×Value)} {Q:Value->Shared->Prop} (e:hp.get? a=some (liO xs n)) (hh:A.handled=none) (hk:kw=[]) (q:∀h' tk' x,Heap.NewAttrErr hp h' x (.ref a) "keys"->E (.ref x) ⟨h',g,d,tk',os⟩) :
  wpAny (model prog w) A (call (.builtin "list.__getattribute__") ([.ref a]++[.str "keys" u]) kw) Q E ⟨hp,g,d,tk,os⟩:=by
 subst hk;exact call_meets F.slot_list_getattribute ⟨_,e,rfl⟩ ZG (F.args_list_getattribute_2 _ _) (vD a xs n u) ⟨e,hh,fun h' tk' x hx=>q h' tk' x hx⟩
theorem lacks {Q:Option Value->Shared->Prop} (e:hp.get? a=some (liO xs n)) (hh:A.handled=none) (q:∀h' tk',(∀b o,hp.get? b=some o->h'.get? b=some o)->Q none ⟨h',g,d,tk',os⟩):wpAny (model prog w) A (getAttr? (.ref a) "keys") Q E ⟨hp,g,d,tk,os⟩:=by
 have ty:∀tk',(⟨hp,g,d,tk',os⟩:Shared).TypeIs (.ref a) "list":=fun _=>⟨_,e,rfl⟩
 have f3:=F.slot_list_getattribute.lookup;have f4:=F.slot_list_getattribute.bind (.ref a);have f5:=noGet;have sub:=sub_AttributeError
 wp_walk using gone e hh
 case hk=>rfl
 intro h' tk' x hx;obtain ⟨t,u,ex⟩:=hx.there;show wpAny _ _ (getattributeRaised _ _ _ _ _ _ _) _ _ _
 wp_walk
 exact q _ _ hx.keeps
end
theorem JH {h:Heap} {c d:Addr} {o od:Obj} {T U:String} (e:h.get? c=some o) (hc:o.cls=.type T) (ed:h.get? d=some od) (hd:od.cls=.type U) (ne:(Value.type T==Value.type U)=false):c≠d:=fun q=>by
 subst q;rw [e] at ed;cases ed;rw [hc] at hd;rw [hd] at ne;simp at ne
noncomputable def Prs {prog:Program} {w:World} {K:Type} [DecidableEq K] (knd:KeyKind prog w K) (items:Array Value) (ps:List (K×Value)) (h:Heap):Prop:=items.size=ps.length/\∀(i:Nat) (kv:K×Value),ps[i]?=some kv->∃(p:Addr) (x:Value) (o:Obj) (n:Nat),items[i]?=some (Value.ref p)/\h.get? p=some o/\o.cls=.type "tuple"/\o.data=.seq #[x,kv.2] n/\knd.is kv.1 x=true
theorem Prs.keep {prog:Program} {w:World} {K:Type} [DecidableEq K] {knd:KeyKind prog w K} {items:Array Value} {ps:List (K×Value)} {h h':Heap} (x:Prs knd items ps h) (k:∀c o,o.cls=.type "tuple"->h.get? c=some o->h'.get? c=some o):Prs knd items ps h':=
 ⟨x.1,fun i kv e=>let ⟨p,v,o,n,h1,h2,h3,h4,h5⟩:=x.2 i kv e;⟨p,v,o,n,h1,k p o h3 h2,h3,h4,h5⟩⟩
section
variable {prog:Program} {w:World} {K:Type} [DecidableEq K] {knd:KeyKind prog w K} {A:Around} {R:Except Value Flow->Shared->Prop} {it l d:Addr} {items:Array Value} {ps:List (K×Value)} {nl:Nat}
theorem N5 (hh:A.handled=none) (hdi:d≠it) (hdl:d≠l) (hil:l≠it) :
  ∀(m k:Nat) (s:Shared) (kvs:List (K×Value)),k+m=items.size->kvs.length+m<=sizeLine->s.heap.IsListIter it l k->s.heap.get? l=some (liO items nl)->Prs knd items ps s.heap->s.heap.DictOf knd d kvs->
  (∀h' tk,h'.DictOf knd d (merged kvs (ps.drop k))->(∀c o,c≠d->c≠it->s.heap.get? c=some o->h'.get? c=some o)->R (.ok (.ret .none)) {s with heap:=h',toks:=tk})->
  codeAny (model prog w) A (.builtin "dict.update.loop" ⟨[.ref d,.ref it,rawInt k,.none],[]⟩) R s:=by
 intro m;induction m with
 | zero=>
  intro k s kvs hkm hl Z el Pp hd q;refine codeAny_builtin Wz.sJ ?_;rw [Around.under_plainId (show plainId "dict.update.loop" = true by decide +kernel) _];refine wpAny_bind (m:=pyNext (.ref it)) (wpAny_pyNext_list_end hh Z ⟨_,el,rfl,_,rfl⟩ (Array.getElem?_eq_none (by lia)) fun h' kp=>?_);refine wpAny_bind (m:=Builtin.Dict.addKeywords d []) ?_;unfold Builtin.Dict.addKeywords;rw [List.forIn_nil];refine wpAny_bind (wpAny_pure (wpAny_pure (wpAny_pure ?_)));have e:ps.drop k=[]:=List.drop_eq_nil_of_le (by have:=Pp.1;lia);rw [e] at q;obtain ⟨o,es,ep,ho,r⟩:=hd;exact q _ s.toks ⟨o,es,ep,kp d o hdi ho,r⟩ fun c o _ c1 e=>kp c o c1 e
 | succ m ih=>
  intro k s kvs hkm hl Z el Pp hd q;have hlp:k<ps.length:=by have:=Pp.1;lia
  obtain ⟨p,x,o,n,hi,hp,hpc,hpd,his⟩:=Pp.2 k ps[k] (List.getElem?_eq_getElem hlp);have hpi:p≠it:=let ⟨oi,ei,ci,_⟩:=Z;JH hp hpc ei ci (by decide)
  refine codeAny_builtin Wz.sJ ?_;rw [Around.under_plainId (show plainId "dict.update.loop" = true by decide +kernel) _];refine wpAny_bind (m:=pyNext (.ref it)) (wpAny_pyNext_list_item Z ⟨_,el,rfl,_,rfl⟩ hi fun h' Z' kp=>?_);have hp':h'.get? p=some o:=(kp.2 p hpi).trans hp;refine wpAny_bind (wpAny_holding (wpAny_bind (wpAny_tryCatch ?_)));refine wpAny_bind (wpAny_typeOf (T := "tuple") ⟨_,hp',hpc⟩ ?_);rw [if_pos (by decide)];refine wpAny_bind (wpAny_seqItems hp' hpd (wpAny_pure ?_));show wpAny _ _ (holding [x,ps[k].2] (dictSet d x ps[k].2)) _ _ _;have hd':h'.DictOf knd d kvs:=let ⟨o,es,ep,ho,r⟩:=hd;⟨o,es,ep,(kp.2 d hdi).trans ho,r⟩
  obtain ⟨od,es,ep,ho,hc,_⟩:=id hd';refine wpAny_holding (wpAny_dictSet_pairs his hd' (fun h2 hd2' sb=>?_) (by lia));refine wpAny_pure ⟨Code.quiet_builtin _ (by decide +kernel),?_⟩;have ek:(rawInt (k+1):Value)=rawInt ((k+1:Nat):Int):=rfl;rw [ek];have hdrop:ps.drop k=ps[k]::ps.drop (k+1):=List.drop_eq_getElem_cons hlp;have ls:(stored kvs ps[k].1 ps[k].2).length<=kvs.length+1:=by
   unfold stored;split
   ·rw [List.length_map];lia
   ·rw [List.length_append];exact Nat.le_refl _
  have keep:∀c o,c≠d->c≠it->s.heap.get? c=some o->h2.get? c=some o:=fun c o c0 c1 e=>(sb.2 c c0).trans ((kp.2 c c1).trans e)
  have hdc:∀c (oc:Obj),oc.cls=.type "tuple"->s.heap.get? c=some oc->c≠d/\c≠it:=fun c oc hoc e=>⟨let ⟨o1,_,_,e1,c1,_⟩:=hd;JH e hoc e1 c1.1 (by decide),let ⟨oi,ei,ci,_⟩:=Z;JH e hoc ei ci (by decide)⟩
  refine ih (k+1) _ (stored kvs ps[k].1 ps[k].2) (by lia) (by lia) (let ⟨oi,ei,r⟩:=Z';⟨oi,(sb.2 it (Ne.symm hdi)).trans ei,r⟩) (keep l _ (Ne.symm hdl) hil el) (Pp.keep fun c oc hoc e=>keep c oc (hdc c oc hoc e).1 (hdc c oc hoc e).2 e) hd2' fun h3 tk hd3 kp3=>?_
  exact q h3 tk (by rw [hdrop];exact hd3) fun c o c0 c1 e=>kp3 c o c0 c1 (keep c o c0 c1 e)
end
section
variable {prog:Program} {w:World} {K:Type} [DecidableEq K] {knd:KeyKind prog w K} {A:Around} {E:Value->Shared->Prop} {hp:Heap} {g:Array GenState} {dr:Drawn} {tk:Nat} {os:OsState} {l:Addr} {items:Array Value} {ps:List (K×Value)} {nl:Nat}
theorem dict_list {Q:Value->Shared->Prop} (hh:A.handled=none) (el:hp.get? l=some (liO items nl)) (Pp:Prs knd items ps hp) (hz:items.size<=1000000)
  (q:∀h' tk',h'.DictOf knd hp.objs.size (merged [] ps)->(∀c o,hp.get? c=some o->h'.get? c=some o)->Q (.ref hp.objs.size) ⟨h',g,dr,tk',os⟩) :
  wpAny (model prog w) A (call (.type "dict") [.ref l]) Q E ⟨hp,g,dr,tk,os⟩:=by
 have hnew:(hp.push {cls:=.type "dict",data:=.dict #[]}).DictOf knd hp.objs.size []:=Heap.DictOf.new hp;have up:∀c o,hp.get? c=some o->(hp.push {cls:=.type "dict",data:=.dict #[]}).get? c=some o:=fun c o e=>Heap.get?_push_of_some _ e
 have lt:∀{c o},hp.get? c=some o->hp.objs.size≠c:=fun e=>Nat.ne_of_gt (Heap.lt_size e)
 refine callType_codes (Q₁:=fun v s₁=>v=.ref hp.objs.size/\s₁=⟨hp.push {cls:=.type "dict",data:=.dict #[]},g,dr,tk,os⟩) F.kt_called_dict (F.kt_typeCall_dict_1 _) F.entry_dict_init (kt_code_dict_new _ ⟨rfl,rfl⟩) fun v s₁ hv=>?_
 obtain ⟨rfl,rfl⟩:=hv;have ty:(⟨hp.push {cls:=.type "dict",data:=.dict #[]},g,dr,tk,os⟩:Shared).TypeIs (.ref hp.objs.size) "dict":=hnew.typeIs;have ez:=up _ _ el;have tz:(⟨hp.push {cls:=.type "dict",data:=.dict #[]},g,dr,tk,os⟩:Shared).TypeIs (.ref l) "list":=⟨_,ez,rfl⟩
 refine ⟨ty,F.args_dict_init_2 _ _,wpAny_bind (m:=Builtin.Dict.selfAndRest "__init__" _) (wpAny_bind (wpAny_notOrdered_dict ty (wpAny_pure ?_)))⟩;refine wpAny_bind (m:=typeOf (.ref l)) (wpAny_typeOf tz ?_);rw [if_pos (by decide)];refine wpAny_bind (lacks ez hh fun h' tk' kp=>?_);rw [if_pos (show (none:Option Value).isNone=true from rfl)];refine wpAny_bind (wpAny_rule (wpAny_bind (wpAny_pyIter_list ⟨_,kp _ _ ez,rfl,_,rfl⟩ (wpAny_pure ⟨Code.quiet_builtin _ (by decide +kernel),?_⟩))));have hd':h'.DictOf knd hp.objs.size []:=let ⟨o,es,ep,ho,r⟩:=hnew;⟨o,es,ep,kp _ _ ho,r⟩
 have ltd:hp.objs.size<h'.objs.size:=let ⟨o,es,ep,ho,r⟩:=hd';Heap.lt_size ho
 have ltl:l<h'.objs.size:=Heap.lt_size (kp _ _ ez);refine N5 (A:=A.in1) (ps:=ps) (it:=h'.objs.size) (l:=l) (items:=items) (nl:=nl) (show A.in1.handled=none from hh) (Nat.ne_of_lt ltd) (lt el) (Nat.ne_of_lt ltl) items.size 0 _ [] (by lia) (by rw [List.length_nil,sizeLine_eq];lia) ⟨_,Heap.get?_push_size _ rfl,rfl,rfl⟩ (Heap.get?_push_of_some _ (kp _ _ ez)) (Pp.keep fun c o _ e=>Heap.get?_push_of_some _ (kp c o (up c o e))) (let ⟨o,es,ep,ho,r⟩:=hd';⟨o,es,ep,Heap.get?_push_of_some _ ho,r⟩) fun h2 tk2 hd2 kp2=>?_
 exact ⟨rfl,q h2 tk2 hd2 fun c o e=>kp2 c o (fun x=>lt e x.symm) (Nat.ne_of_lt (Heap.lt_size (kp c o (up c o e)))) (Heap.get?_push_of_some _ (kp c o (up c o e)))⟩
end
end Wl
end
section
namespace Mi
open PySem L2 PySem.SeqAt PySem.Spec PyProof.Rows
noncomputable def xK:List D->Option (List (D×D))
 | []=>some []
 | .tup [k,v]::r=>if nZ k&&v.pure then (xK r).map ((k,v)::·) else none
 | _::_=>none
noncomputable def xM (kvs:List (D×D)) (more:List (D×D)):List (D×D):=more.foldl (fun acc p=>putD acc p.1 p.2) kvs
noncomputable def tB:D->Res D
 | .lst xs=>match xK xs with
  | some ps=>if decide (xs.length<=1000) then .ok (.dct (xM [] ps)) else .bad
  | none=>.bad
 | _=>.bad
variable [KFrag]
theorem xN {X:Cx} {pins:List (Addr×Obj)} {σ:L2.St} {H:Hp} {s:Shared} (I:Inv X pins σ H s):∀{xs:List D} {vs:List V} {us:List Value} {ps:List (D×D)},bH All H vs xs->Vals vs us->xK xs=some ps->
  ∃(kvs:List (Key×V)) (prs:List (Key×Value)),KV kvs prs/\jG All H kvs ps/\D.aU (ps.map (·.2))=true/\us.length=prs.length/\∀(i:Nat) (kv:Key×Value),prs[i]?=some kv->∃(p:Addr) (x:Value) (o:Obj) (n:Nat),us[i]?=some (Value.ref p)/\s.heap.get? p=some o/\o.cls=.type "tuple"/\o.data=.seq #[x,kv.2] n/\(cZ X.prog X.w).is kv.1 x=true
 | [],_,_,_,.nil,.nil,h=>by
  cases h;exact ⟨[],[],.nil,.nil,rfl,rfl,fun i kv h=>by simp at h⟩
 | d::xs,_,_,ps,.cons r t,.cons rv tv,h=>by
  unfold xK at h;split at h
  ·rename_i h0;cases h0
  ·rename_i k v r' h0;injection h0 with h0 h1
   subst h0 h1;split at h
   ·rename_i hf;rw [Bool.and_eq_true] at hf;obtain ⟨ps',hp,rfl⟩:=Option.map_eq_some_iff.mp h;obtain ⟨kvs,prs,g1,g2,g3,g4,g5⟩:=xN I t tv hp;obtain ⟨a,ws,rfl,ea,rr⟩:=r.eV;cases rv;obtain ⟨its,rvs,o,ho,hc,n,hd⟩:=gK I ea;cases rr with
    | cons rk rr=>
     cases rr with
     | cons rw_ rr=>
      cases rr;cases rvs with
      | cons q1 rvs=>
       cases rvs with
       | cons q2 rvs=>
        cases rvs;rename_i wk ww uk uw;obtain ⟨key,hk1,hk2⟩:∃key:Key,kD key=k/\(cZ X.prog X.w).is key uk=true:=by
         cases rk with
         | int i=>exact ⟨.inl i,rfl,uJ (k:=.inl i) q1⟩
         | str x=>exact ⟨.inr x,rfl,uJ (k:=.inr x) q1⟩
         | _=>cases hf.1
        subst hk1;refine ⟨(key,ww)::kvs,(key,uw)::prs,.cons ⟨rfl,q2⟩ g1,.cons rw_ g2,by rw [List.map_cons,D.aU,hf.2,g3];rfl,by rw [List.length_cons,List.length_cons,g4],fun i kv hi=>?_⟩;cases i with
        | zero=>
         simp at hi;subst hi;exact ⟨a,uk,o,n,rfl,ho,hc,hd,hk2⟩
        | succ i=>
         obtain ⟨p,x,o',n',z1,z2⟩:=g5 i kv (by simpa using hi);exact ⟨p,x,o',n',by simpa using z1,z2⟩
   ·cases h
  ·cases h
theorem pK {P:Addr->Prop} {H:Hp}:∀{more:List (Key×V)} {ds:List (D×D)} {kvs:List (Key×V)} {es:List (D×D)},jG P H more ds->jG P H kvs es->(kvs.map (·.1)).Nodup->jG P H (jB kvs more) (xM es ds)/\((jB kvs more).map (·.1)).Nodup
 | _,_,_,_,.nil,r,n=>⟨r,n⟩
 | _,_,_,_,.cons (k:=k) rv t,r,n=>by have:=pK t (xF (k:=k) rv r n) (jJ n);exact this
theorem m5:∀{ds es:List (D×D)},D.aU (ds.map (·.2))=true->D.aU (es.map (·.2))=true->D.aU ((xM es ds).map (·.2))=true
 | [],_,_,h=>h
 | (k,v)::ds,es,h,h2=>by
  rw [List.map_cons,D.aU,Bool.and_eq_true] at h;exact m5 (ds:=ds) h.2 (mD h.1 h2)
section
variable {X:Cx} {e:Expr} {fe:FE} {re:Bool} {p pos:Pos}
theorem JK (hc:X.calm=true) (hg:Gl X "dict") (hm:X.mg "dict" = none) (he:PE X e (gE fe re)) (hs:starEach [e] X.env=[(false,eval e X.env)]:=by rfl) :
  PE X (.Call (.Name "dict" p) [e] [] pos) (gE (b1 tB fe) true):=by
 intro pins s σ H Q I ⟨ρ,d,E,h,q⟩;obtain ⟨d0,h1,h2⟩:=aX h;unfold tB at h2;split at h2
 rotate_left
 ·cases h2
 rename_i xs;split at h2
 rotate_left
 ·cases h2
 rename_i ps hps;split at h2
 rotate_left
 ·cases h2
 rename_i hb;cases h2;have hb:=of_decide_eq_true hb;refine wpAny_Call_Name_kw (nM I hg hm M_ ?_);refine PyProof.Rows.callWith_type1 ?_ hs rfl;rw [hs];show wpAny _ _ (spliced [(false,eval e X.env)]) _ _ s;refine Calls.spliced_cons (thn (he pins s σ H (fun v H1=>cH H H1/\Rep All H1 v (.lst xs)) I ⟨ρ,_,E,h1,fun v H1 s1 r1 _=>⟨s1,r1⟩⟩) fun u s1 ⟨x,H1,I1,ru,sm,rx⟩=>?_);obtain ⟨a,vs,rfl,ea,rr⟩:∃a vs,x=.ref a/\H1 a=some (.lst vs)/\bH All H1 vs xs:=by
  cases rx with
  | lst e p r=>exact ⟨_,_,rfl,e,r⟩
 cases ru;refine Calls.spliced_nil ?_;obtain ⟨hz,its,nl,rv,hl⟩:vs.length<=sizeLine/\∃(its:List Value) (n:Nat),Vals vs its/\s1.heap.get? a=some {cls:=.type "list",data:=.seq its.toArray n}:=I1.hok a _ ea;obtain ⟨kvs,prs,g1,g2,g3,g4,g5⟩:=xN I1 rr rv hps;have hlen:its.length<=1000:=by rw [<-rv.length,rr.length];exact hb
 obtain ⟨hp,g,dr,tk,os⟩:=s1;refine Wl.dict_list (knd:=cZ X.prog X.w) (ps:=prs) (items:=its.toArray) (I1.ok.hd hc) hl ⟨by rw [List.size_toArray];exact g4,fun i kv hi=>?_⟩ (by rw [List.size_toArray];lia) fun h' tk' hd kp=>?_
 ·obtain ⟨p,x,o,n,z1,z2⟩:=g5 i kv hi;exact ⟨p,x,o,n,by simpa using z1,z2⟩
 ·have hfr:H1 hp.objs.size=none:=I1.hok.fresh (Nat.le_refl _);have rel:KV (jB [] kvs) (merged [] prs):=g1.merge .nil;have hz2:(jB [] kvs).length<=sizeLine:=by
   have:=k_ kvs [];have l1:kvs.length=prs.length:=Paired.length g1;rw [List.length_nil] at this;rw [sizeLine_eq];lia
  obtain ⟨rk,nd⟩:=pK (kvs:=[]) g2 jG.nil List.nodup_nil;have sp:cH H1 (upd H1 hp.objs.size (.dK (jB [] kvs))):=cH.upd hfr;have rk2:∀{P:Addr->Prop},jG P (upd H1 hp.objs.size (.dK (jB [] kvs))) (jB [] kvs) (xM [] ps):=fun {P}=>(rk.keep (.same sp) fun _ h=>h).bI (m5 g3 rfl)
  refine ⟨.ref hp.objs.size,_,I1.laid (a:=hp.objs.size) (t':=tk') (o:=.dK (jB [] kvs)) kp (Nat.le_refl _) (PQ hz2 (beq_eq_false_iff_ne.mpr ?_) rel hd),rfl,?_⟩
  ·exact Ne.symm (Nat.ne_of_lt I1.big)
  ·exact q _ _ (sm.trans sp) (.dK aO trivial rk2 nd) fun _=>.dK aO (sm.free hfr) rk2 nd
end
end Mi
end
section
local macro_rules | `(tactic| trivial) => `(tactic| first | exact Or.inl rfl | exact Or.inr rfl | exact Or.inr (Or.inl rfl) | exact Or.inr (Or.inr rfl))
namespace Lk51
open PySem L2 Mi PySem.W
noncomputable def top (i:Nat):Stmt:=PySem.Challenge.pw_hookmill_k51_split.main.body.getD i (.Pass ⟨0,0,0,0⟩)
abbrev j_:Stmt:=top 6
def vG:Nat->Bool:=fun i=>i==0||i==1000000
noncomputable def oM:FS:=bA (bL false 1 (b2 getD oZ iI) false) (bA (bL false 2 (b2 getD oZ cJ) false) (bA (u_ 0 cJ (b2 (aN .add) dH cJ)) (bA (sIf (bTB (b2 (b8 (.ord .lt)) dH (bD jF (aB fL aR)))) (uO (b2 getD fL dH) false) (lU)) (bA (sIf (bTB (b2 (b8 .eq) (bD jF (aB fL aR)) iI)) (uO (b2 (aN .add) (b2 rR (b2 rR dH dH) gU) dH) true) (lU)) (uO (b2 (aN .add) (b2 (aN .fdiv) (b2 getD fL (b2 (aN .mod) dH (bD jF (aB fL aR)))) gW) (b2 rR dH dH)) true)))))
def aL:List D->Res D:=fnX 1 1 3 oM
abbrev fK:Stmt:=top 7
def tD:Nat->Bool:=fun i=>i==0||i==9||i==1000000
noncomputable def tE:FS:=bA (bL false 1 (bC (.str "abcdefghijklmnopqrstuvwxyz")) true) (bA (fW false 2 (bZ aL 1 0 aR)) (bA (bL false 3 (b2 getD (iV (aB cJ (aB gU (aB XJ (aB (bC (.int 7)) (aB aAg (aB (bC (.int 25)) aR))))))) (b2 (aN .mod) (b2 (aN .fdiv) dH gU) KH)) false) (bA (bL false 4 (b2 (aN .mod) (b2 (aN .fdiv) dH (bC (.int 18))) jX) true) (bA (fW false 5 (bZ aL 1 0 aR)) (bA (bL false 6 (b2 (aN .mod) fO SM) true) (bA (bL false 7 (bM joinM (bC (.str "")) (aB (cG 14 (iW (aB pF aR) gH) i_ (fG) (b2 getD fL (b2 (aN .mod) (b2 (aN .add) (b2 (aN .fdiv) fO SM) (b2 rR gQ (b2 (aN .add) cL (b2 (aN .mod) (b2 (aN .fdiv) fO DX) XJ)))) jX)) false) aR)) true) (bA (fW false 8 (x2L (aN .mod) (bZ aL 1 0 aR) (b2 (aN .add) pF cJ))) (bA (sIf (bTB (b2 (b8 .eq) (b2 (aN .mod) dH gU) gW)) (bL false 7 (iY kI (eO) (cN KH)) true) (lU)) (bA (bL true 9 (iV aR) true) (bA (E_ (iW (aB jX aR) gH) (tg1 10) (bA (bL false 11 (b2 (aN .mod) (b2 (aN .add) (b2 rR j8 cF) cL) jX) true) (sIf (bTB (b2 (b8 .eq) (b2 (aN .mod) dH gU) cJ)) (pQ 9 (b2 rR (b2 getD fL (b2 (aN .mod) (b2 (aN .add) cL (b2 (aN .mod) gR vZ)) jX)) (b2 (aN .add) cJ (b2 (aN .fdiv) gR vZ)))) (sIf (bTB (b2 (b8 .eq) (b2 (aN .mod) dH gU) gW)) (bA (bL false 12 (b2 getD fL (b2 (aN .mod) (b2 (aN .add) cL (b2 (aN .mod) gR KH)) jX)) false) (bA (bL false 13 (b2 getD fL (b2 (aN .mod) (b2 (aN .add) cL (b2 (aN .fdiv) gR KH)) jX)) false) (pQ 9 (b2 (aN .add) (b2 (aN .add) (b2 (aN .add) (iY kI (eO) (cN m_)) nA) eU) (iY kI (cN m_) (eO)))))) (pQ 9 (b2 (aN .add) (b2 (aN .add) (iY kI (eO) (cN m_)) (b2 getD fL gR)) (iY kI (cN m_) (eO)))))))) (bA (sIf (bOr (bTB (b2 inX (bC (.str "copy")) iZ)) (bTB (b2 inX (bC (.str "drop")) iZ))) (bL true 9 (cG 14 (bJ iZ false) i_ (fG) (b2 (aN .add) gQ (bC (.str "e"))) true) true) (lU)) (pG 9))))))))))))
def dR:List D->Res D:=fnX 1 1 14 tE
abbrev eY:Stmt:=top 8
noncomputable def zL:Nat->Bool:=fun i=>i==0||i==4||i==5||i==6||i==11||i==1000000
noncomputable def mL:FS:=bA (fW false 2 (bZ aL 1 0 aR)) (bA (bL false 3 (b2 (aN .add) cJ (b2 (aN .mod) dH gU)) true) (bA (bL true 4 (iY fL (eO) (cN cF)) true) (bA (bL true 5 (cG 13 (iW (aB cF aR) gH) i_ (fG) (fV (aB (b2 getD fL (b2 (aN .add) gU eU)) (aB (b2 getD cL eU) (aB (fV aR) aR)))) false) true) (bA (bL true 6 (b1 tB (cG 13 (bJ cL false) i_ (fG) (fV (aB eU (aB cJ aR))) false)) true) (bA (UL (QM (bTB (b2 (b8 (.ord .gt)) cF cJ)) (xTB (x2L (b8 .eq) (x2L (aN .mod) (bZ aL 1 0 aR) gU) cJ))) (bA (bL false 7 (bD dC (aB (iY cL (eO) (cN (b2 (aN .add) cJ (b2 (aN .mod) (b2 (aN .fdiv) dH yR) (b2 (aN .sub) cF cJ))))) aR)) false) (bA (u_ 5 (b1 zX cJ) (fV (aB (b2 getD fL (b2 (aN .add) gW cF)) (aB (b2 getD cL (b1 zX cJ)) (aB kI aR))))) (zY 6 (b2 getD cL (b1 zX cJ)) (b2 (aN .add) cJ (bD jF (aB kI aR)))))) (lU)) (bA (E_ (iW (aB (b2 (aN .mod) (b2 (aN .fdiv) dH gU) vZ) aR) gH) (tg1 8) (bA (fW false 9 (bZ aL 1 0 aR)) (bA (bL false 7 (cG 13 (iW (aB (b2 (aN .mod) (b2 (aN .fdiv) iZ gU) vZ) aR) gH) i_ (fG) (b2 getD cL (b2 (aN .mod) (b2 (aN .fdiv) iZ (b2 getD (iV (aB yR (aB (bC (.int 36)) (aB (bC (.int 108)) aR)))) eU)) cF)) false) true) (pQ 5 (fV (aB (b2 getD fL (b2 (aN .add) (b2 (aN .add) gU cF) m_)) (aB (b2 getD cL (b2 (aN .mod) iZ cF)) (aB (bD dC (aB kI aR)) aR)))))))) (bA (bL false 10 (b2 (aN .mod) (b2 (aN .fdiv) dH yR) (bD jF (aB fO aR))) true) (bA (bL true 11 (iV aR) true) (bA (H_ (Y5 (x2L (aN .mod) (bZ aL 1 0 aR) vZ)) (tg1 8) (bA (fW false 9 (bZ aL 1 0 aR)) (bA (bL false 12 (cG 13 (iW (aB (b2 (aN .mod) (b2 (aN .fdiv) iZ aAg) gU) aR) gH) i_ (fG) (b2 getD cL (b2 (aN .mod) (b2 (aN .fdiv) iZ (b2 getD (iV (aB (bC (.int 27)) (aB (bC (.int 81)) aR))) eU)) cF)) false) true) (pQ 11 (fV (aB (b2 getD fL (b2 (aN .add) SN m_)) (aB (b2 getD cL (b2 (aN .mod) iZ cF)) (aB (b2 getD cL (b2 (aN .mod) (b2 (aN .fdiv) iZ gU) cF)) (aB (bD dC (aB nA aR)) aR))))))))) (sW (aB (bOw 4) (aB (b2 (aN .add) (iY fO (cN j8) (eO)) (iY fO (eO) (cN j8))) (aB (bOw 11) (aB (bOw 6) aR))))))))))))))
def fZ:List D->Res D:=fnX 1 2 13 mL
abbrev dU:Stmt:=top 11
def tG:Nat->Bool:=fun i=>i==0||i==6||i==7||i==1000000
noncomputable def tH:FS:=bA (bL true 6 (iV aR) true) (bA (bL true 7 (iV (aB (bPu dH) aR)) true) (bA (bL false 8 (bD (rG .gt) (aB iI (aB (b2 (aN .sub) cF (b2 getD fO dH)) aR))) false) (bA (aAk (bTB (b2 (b8 .ne) kI (iV aR))) (bA (y_ 7 9) (bA (bL false 10 (b2 (aN .sub) (b2 (aN .add) m_ (b2 getD fO iZ)) cJ) true) (bA (bL false 11 (cG 14 (bJ fL false) i_ (zW (bTB (b2 (b8 .eq) (b2 getD gQ cJ) iZ)) (bTB (b2 (b8 (.ord .le)) (bD u9 (aB (cG 15 (bJ (b2 getD gQ gW) false) i_ (fG) (b2 getD fO rE) false) aR)) j8))) gQ false) true) (bA (bL false 12 (cG 14 (bJ gR false) i_ (bTB (b2 inX iZ (b2 getD gQ gW))) gQ false) true) (bA (sIf (zW (bTr cL) (bTB (b2 (b8 .ne) nA (iV aR)))) (sAl 11 12) (lU)) (bA (fW false 13 (x2R getD gR (x2L (aN .mod) (bZ aL 1 0 aR) (bD jF (aB gR aR))))) (bA (pQ 6 (b2 getD eU iI)) (bA (bL false 8 (b2 (aN .sub) j8 (bD u9 (aB (cG 14 (bJ (b2 getD eU gW) false) i_ (fG) (b2 getD fO gQ) false) aR))) true) (T_ 7 (b1 QS (b2 getD eU gW)))))))))))) (pG 6))))
def dW:List D->Res D:=fnX 1 6 14 tH
abbrev mO:Stmt:=top 1
def zM:Nat->Bool:=fun i=>i==1
noncomputable def zN:FS:=bA (bL true 1 (bC (.dct [])) true) (bA (E_ (bJ (b2 getD oZ cJ) false) (tgN [2,3,4]) (zY 1 dH (fV (aB cF (aB cL aR))))) (bA (E_ (bJ (b2 getD oZ gW) false) (tgN [2,3,5,6]) (zY 1 dH (fV (aB cF (aB (b2 KN (fV (aB fO aR)) pF) aR))))) (SQ 1)))
def jU:List D->Res D:=fnS 1 7 zN
abbrev iQ:Stmt:=top 4
def qJ:Nat->Bool:=fun i=>false
noncomputable def qK:FS:=bA (sAl 3 2) (bA (bL false 4 cJ true) (bA (aAk (bTB (b2 (b8 (.ord .gt)) cL iI)) (bA (bL false 4 (b2 (aN .add) (b2 (aN .sub) cL cJ) (bD jF (aB (b2 getD (b2 getD oZ (b2 getD fL cF)) cJ) aR))) true) (bL false 3 (b2 (aN .add) cF cJ) true))) (rH cF false)))
def eN:List D->Res D:=fnS 3 5 qK
abbrev s_split:Stmt:=top 3
def U5:Nat->Bool:=fun i=>i==3
noncomputable def U6:FS:=bA (bL false 2 (bD (tZ 1 jU) (aB oZ aR)) true) (bA (bL true 3 (iV aR) true) (bA (bL false 4 cJ true) (bA (aAk (bTB (b2 (b8 (.ord .lt)) cL (bD jF (aB fL aR)))) (bA (bL false 5 (bD (tZ 3 eN) (aB dH (aB fL (aB cL aR)))) true) (bA (pQ 3 (iY fL (cN cL) (cN fO))) (sAl 4 5)))) (SQ 3))))
def mQ:List D->Res D:=fnS 2 6 U6
abbrev gF:Stmt:=top 9
def vH:Nat->Bool:=fun i=>false
noncomputable def vI:FS:=bA (bL false 4 (b2 getD (cG 5 (bJ dH false) i_ (bTB (b2 (b8 .eq) (b2 getD fO iI) (b2 getD cF (b2 (aN .add) gU (bM j0 fL (aB oZ aR)))))) fO false) iI) false) (rH (b2 KN (fV (aB (b2 getD cL iI) aR)) (bD dC (aB (cG 5 (bJ (b2 getD cL gW) false) i_ (fG) (b2 getD cF (b2 (aN .add) gU (bM j0 fL (aB fO aR)))) false) aR))) false)
def gG:List D->Res D:=fnS 4 5 vI
abbrev fB:Stmt:=top 10
def o6:Nat->Bool:=fun i=>i==4
noncomputable def o7:FS:=bA (bL true 4 (iV aR) true) (bA (pR 2 (tg1 5) (pR 1 (tg1 6) (sIf (bTB (b2 (b8 .eq) (b2 getD pF cJ) (b2 getD fO gW))) (bA (bL false 7 (iY cF (cN L_) (cN (b2 (aN .add) (b2 (aN .add) L_ (bD jF (aB (b2 getD pF gW) aR))) (bD jF (aB (b2 getD fO gU) aR))))) true) (bA (bL false 8 (fV (aB (b2 getD fO iI) (aB (b2 getD cF gU) aR))) false) (bA (sIf (bTB (b2 inX (b2 getD fO cJ) oZ)) (bL false 8 (bD (tZ 4 gG) (aB (b2 getD fO cJ) (aB oZ (aB fL (aB cF aR))))) true) (lU)) (pQ 4 (fV (aB (b2 getD fO iI) (aB (b2 getD pF iI) (aB (bD dC (aB kI aR)) (aB m_ aR))))))))) (lU)))) (bA (bL false 9 (bD dC (aB (b2 (aN .add) oZ (cG 10 (bJ dH false) i_ (bTB (b2 (b8 .eq) (b2 getD j8 cJ) (b2 getD cF jE))) (b2 getD cF jE) false)) aR)) false) (rH (fV (aB iZ (aB (bD dC (aB fL aR)) (aB (bD dC (aB dH aR)) (aB (bD dC (aB cL aR)) aR))))) false)))
def dF:List D->Res D:=fnS 4 10 o7
abbrev eZ:Stmt:=top 12
def mR:Nat->Bool:=fun i=>i==3
noncomputable def mU:FS:=bA (bL true 3 (iV (aB (bPu fL) aR)) true) (bA (pR 0 (tg1 4) (bA (sIf (bOr (EY (bTr (b1 (uM .str) cL))) (bOr (bTB (b2 (b8 .notin) cL dH)) (bTB (b2 (b8 .eq) cF (iV aR))))) (rH (bC (.bl false)) true) (lU)) (bA (UL (xTB (x2L (b8 .ne) (zF 3) (b2 getD (b2 getD dH cL) cJ))) (rH (bC (.bl false)) true) (lU)) (T_ 3 (b1 QS (b2 getD (b2 getD dH cL) gW)))))) (rH (b2 (b8 .eq) cF (iV aR)) true))
def cM:List D->Res D:=fnS 3 5 mU
abbrev oN:Stmt:=top 13
def o_law:Nat->Bool:=fun i=>i==1||i==14
noncomputable def U7:FS:=bA (bL true 1 (aAl (iV (aB (iY oZ (eO) (cN v5)) (aB iI aR)))) true) (bA (fW false 2 (bZ aL 1 1 aR)) (bA (fW false 3 (bZ dR 1 1 aR)) (bA (IK (bZ fZ 2 1 (aB cF aR)) [4,5,6,7]) (bA (bL false 8 (b2 getD cL (b2 (aN .mod) (b2 (aN .fdiv) dH SM) (bD jF (aB cL aR)))) false) (bA (bL false 9 (b2 (b8 .eq) (b2 (aN .mod) (b2 (aN .fdiv) dH (bC (.int 24))) vZ) cJ) true) (bA (sIf (bTr iZ) (bA (bL false 6 (b2 (aN .add) (b2 (aN .add) (iV (aB (bPu (fV (aB (b2 getD cF DY) (aB (b2 getD cL iI) (aB (b2 getD cF jE) (aB (fV aR) aR)))))) aR)) pF) (iV (aB (bPu (fV (aB (b2 getD cF D_) (aB (b2 getD cF jE) (aB (b2 getD cL iI) (aB (fV aR) aR)))))) aR))) true) (bL false 8 (b2 getD cL iI) false)) (lU)) (bA (bL false 10 (b2 (aN .add) fO (cG 20 (bJ pF false) i_ (fG) (fV (aB (b2 getD jW iI) (aB (b2 getD jW cJ) (aB (b2 KN (fV (aB (b2 getD jW gW) aR)) (b2 getD jW gU)) aR)))) false)) true) (bA (bL false 11 (b2 getD (iV (aB cJ (aB KH (aB DX (aB (bC (.int 390)) aR))))) (b2 (aN .mod) (b2 (aN .fdiv) dH gW) vZ)) false) (bA (bL false 12 (cG 20 (bJ j8 false) i_ (zW (bTB (b2 (b8 .ne) (b2 getD cF jE) (b2 getD jW cJ))) (bTB (b2 (b8 .notin) (b2 getD cF jE) (b2 getD jW gW)))) jW false) true) (bA (fW false 13 (bZ dW 6 1 (aB nA (aB m_ (aB gR (aB (bPu (b2 (b8 .eq) (b2 (aN .mod) dH gW) cJ)) (aB kI aR))))))) (bA (sIf (bTr iZ) (bL false 13 (b2 (aN .add) (iV (aB (bPu (b2 getD cF DY)) (aB (bPu (b2 getD cF D_)) aR))) eU) true) (lU)) (bA (bL true 14 (bC (.dct [])) true) (bA (pR 10 (tg1 15) (zY 14 (b2 getD rE iI) rE)) (bA (bL false 16 (bD (tZ 2 mQ) (aB (bD (tZ 4 dF) (aB cL (aB fO (aB pF (aB cF aR))))) (aB (bD dC (aB eU aR)) aR))) true) (bA (bL false 17 (b2 getD (b2 getD gQ (b2 getD eU iI)) gW) false) (bA (sIf (bOr (EY (bTr (b1 (uM .list) nC))) (bTB (b2 (b8 .ne) (bD jF (aB nC aR)) (bD jF (aB rF aR))))) (rH (bC (.bl false)) true) (lU)) (bA (bL false 18 (fV aR) true) (bA (E_ (iW (aB (bD jF (aB rF aR)) aR) gH) (tg1 19) (bA (sIf (bOr (EY (bTr (b1 (uM .tuple) (b2 getD nC o5)))) (EY (bTr (bD (tZ 3 cM) (aB (b2 getD nC o5) (aB (b2 getD rF o5) (aB gQ aR))))))) (rH (bC (.bl false)) true) (lU)) (bL false 18 (b2 KN (bR 18) (b2 getD nC o5)) false))) (rH (b2 (b8 .eq) (bR 18) (bD dC (aB (iY eU (cN cJ) (eO)) aR))) true)))))))))))))))))))
def zO:List D->Res D:=fnS 1 20 U7
abbrev oO:List Str:=["deck", "cells", "at"]
noncomputable abbrev dX:List Str:=["deck", "letters", "choice", "turn", "shift", "cell", "size", "base", "at", "names", "k", "spot", "ahead", "behind"]
noncomputable abbrev cR:List Str:=["deck", "names", "cell", "many", "kinds", "makers", "least", "behind", "k", "one", "at", "takers", "more"]
noncomputable abbrev b7:List Str:=["deck", "heads", "wanted", "most", "full", "least", "words", "due", "left", "kind", "room", "some", "grown", "pick"]
noncomputable abbrev pL:List Str:=["program", "heads", "name", "kind", "parts", "taken", "more"]
abbrev lH:List Str:=["heads", "words", "begin", "place", "wanted"]
abbrev JL:List Str:=["program", "words", "heads", "found", "begin", "behind"]
abbrev e_:List Str:=["kind", "kinds", "makers", "names", "row"]
noncomputable abbrev fC:List Str:=["kinds", "makers", "takers", "names", "rules", "taker", "maker", "own", "words", "every"]
abbrev iH:List Str:=["part", "kind", "stand", "due", "word"]
noncomputable abbrev zP:List Str:=["script", "deck", "cell", "names", "kinds", "makers", "takers", "least", "wanted", "hollow", "heads", "most", "some", "words", "stand", "row", "found", "behind", "chain", "k"]
theorem tK:cT oO ["deck"] (aP j_):=by refine ⟨rfl,rfl,rfl,?_,rfl,?_,?_⟩ <;> decide +kernel
theorem qL:cT dX ["deck"] (aP fK):=by refine ⟨rfl,rfl,rfl,?_,rfl,?_,?_⟩ <;> decide +kernel
theorem vJ:cT cR ["deck", "names"] (aP eY):=by refine ⟨rfl,rfl,rfl,?_,rfl,?_,?_⟩ <;> decide +kernel
theorem qM:cT b7 ["deck", "heads", "wanted", "most", "full", "least"] (aP dU):=by refine ⟨rfl,rfl,rfl,?_,rfl,?_,?_⟩ <;> decide +kernel
theorem vK:cT pL ["program"] (aP mO):=by refine ⟨rfl,rfl,rfl,?_,rfl,?_,?_⟩ <;> decide +kernel
theorem o8:cT lH ["heads", "words", "begin"] (aP iQ):=by refine ⟨rfl,rfl,rfl,?_,rfl,?_,?_⟩ <;> decide +kernel
theorem N6:cT JL ["program", "words"] (aP s_split):=by refine ⟨rfl,rfl,rfl,?_,rfl,?_,?_⟩ <;> decide +kernel
theorem tL:cT e_ ["kind", "kinds", "makers", "names"] (aP gF):=by refine ⟨rfl,rfl,rfl,?_,rfl,?_,?_⟩ <;> decide +kernel
theorem oR:cT fC ["kinds", "makers", "takers", "names"] (aP fB):=by refine ⟨rfl,rfl,rfl,?_,rfl,?_,?_⟩ <;> decide +kernel
theorem lJ:cT iH ["part", "kind", "stand"] (aP eZ):=by refine ⟨rfl,rfl,rfl,?_,rfl,?_,?_⟩ <;> decide +kernel
theorem ZJ:cT zP ["script"] (aP oN):=by refine ⟨rfl,rfl,rfl,?_,rfl,?_,?_⟩ <;> decide +kernel
section
variable [KFrag] {P:Program} {w:World} {K:Frag} {mg:Str->Option Value} {base:Heap} {fad C:Addr} {fd:FuncData} (hK:KFrag.K=K) (B:Bt mg) 
include hK B
theorem qN  (F:Fun K "_law_next" "_law_next" j_ fad fd) (hm:mg "_law_next" = some (.ref fad)):zA P w K mg base 1 "_law_next" 1 1 aL:=by
 have sc:=tK;refine qI (ps:=["deck"]) (N:=oO) (k:=0) 1 F hm (F.binds fun _ _ _ _ _ _ us hl=>match us,hl with|[_],_=>rfl) sc vG (by decide) (by decide) fun cdv A outer s H E hr=>?_
 have hu:=G7 hr;exact aD (bB (i:=1) (o:=false) rfl sc.nd rfl (by trivial) (aY (aW hK hu) (aA (i:=0)) (aG) (fun _ _=>rfl))) (aD (bB (i:=2) (o:=false) rfl sc.nd rfl (by trivial) (aY (aW hK hu) (aA (i:=0)) (aG) (fun _ _=>rfl))) (aD (HX (i:=0) rfl rfl (by trivial) (aG) (aV bN (aA (i:=2)) (aG))) (aD (lD (cX (X5 hu) (aA (i:=2)) (cC (gM hK) (by rfl) B.len gP (aC (aA (i:=1)) (aM))) (cW _)) (aZ (vA (aY (aW hK hu) (aA (i:=1)) (aA (i:=2)) (fun _ _=>rfl)))) (eF)) (aD (lD (cX (lA hu) (cC (gM hK) (by rfl) B.len gP (aC (aA (i:=1)) (aM))) (aG) (cW _)) (aZ (vA (aV bN (aV mG (aV mG (aA (i:=2)) (aA (i:=2))) (aG)) (aA (i:=2))))) (eF)) (aZ (vA (aV bN (aV cU (aY (aW hK hu) (aA (i:=1)) (aV bU (aA (i:=2)) (cC (gM hK) (by rfl) B.len gP (aC (aA (i:=1)) (aM)))) (fun _ _=>rfl)) (aG)) (aV mG (aA (i:=2)) (aA (i:=2))))))))))
theorem o9 (c__law_next:zA P w K mg base 1 "_law_next" 1 1 aL) (F:Fun K "_law_names" "_law_names" fK fad fd) (hm:mg "_law_names" = some (.ref fad)):zA P w K mg base 2 "_law_names" 1 1 dR:=by
 have sc:=qL;refine qI (ps:=["deck"]) (N:=dX) (k:=1) 1 F hm (F.binds fun _ _ _ _ _ _ us hl=>match us,hl with|[_],_=>rfl) sc tD (by decide) (by decide) fun cdv A outer s H E hr=>?_
 have hu:=G7 hr
 exact aD (bB (i:=1) (o:=false) rfl sc.nd rfl (by trivial) (rJ)) (aD (j4 (i:=2) (o:=false) rfl sc.nd rfl (by trivial) (dB (i:=0) c__law_next hr (by decide) (by rfl) rfl rfl (by trivial) (iG))) (aD (bB (i:=3) (o:=false) rfl sc.nd rfl (by trivial) (aY (aW hK hu) (d9 (aC (aG) (aC (aG) (aC (aG) (aC (aG) (aC (aG) (aC (aG) (aM)))))))) (aV bU (aV cU (aA (i:=2)) (aG)) (aG)) (fun _ _=>rfl))) (aD (bB (i:=4) (o:=false) rfl sc.nd rfl (by trivial) (aV bU (aV cU (aA (i:=2)) (aG)) (aG))) (aD (j4 (i:=5) (o:=false) rfl sc.nd rfl (by trivial) (dB (i:=0) c__law_next hr (by decide) (by rfl) rfl rfl (by trivial) (iG))) (aD (bB (i:=6) (o:=false) rfl sc.nd rfl (by trivial) (aV bU (aA (i:=5)) (aG))) (aD (bB (i:=7) (o:=false) rfl sc.nd rfl (by trivial) (S_ PySem.F.plainAttrs_str PySem.F.slot_str_join PySem.F.type_str_join T4 (rJ) (aC (jR (ownN:=(["k"]:List Str)) (show b_ dX (aP fK) _ (["k"]:List Str) from by refine ⟨rfl,?_,?_,?_,?_,?_,?_⟩ <;> decide +kernel) (n:=14) (m:=1) rfl rfl rfl (j9 (by rfl) B.range (aC (aA (i:=6)) (aM))) (dJ 14) (fun _=>bF (i:=14) (show ((List.map (fP (["k"]:List Str)) dX++(["k"]:List Str)):List Str).Nodup from by decide +kernel) rfl (by trivial)) (fun _=>aY (aW hK hu) (aA (i:=1)) (aV bU (aV bN (aV cU (aA (i:=5)) (aG)) (aV mG (aA (i:=14)) (aV bN (aA (i:=4)) (aV bU (aV cU (aA (i:=5)) (aG)) (aG))))) (aG)) (fun _ _=>rfl)) (fun _=>rfl)) (aM)) (fun _ _ _ _ _ h r=>M8 h r))) (aD (j4 (i:=8) (o:=false) rfl sc.nd rfl (by trivial) (xH bU (dB (i:=0) c__law_next hr (by decide) (by rfl) rfl rfl (by trivial) (iG)) (aV bN (aA (i:=6)) (aG)))) (aD (lD (cX (lA hu) (aV bU (aA (i:=2)) (aG)) (aG) (cW _)) (aZ (bB (i:=7) (o:=false) rfl sc.nd rfl (by trivial) (iC hK (aA (i:=7)) (gD) (dI (aG))))) (eF)) (aD (bB (i:=9) (o:=true) rfl sc.nd rfl (by trivial) (d9 (aM))) (aD (rQ PassesOwn.never rfl (j9 (by rfl) B.range (aC (aG) (aM))) (jK (i:=10) rfl) (bF (i:=10) sc.nd rfl (by trivial)) (aD (bB (i:=11) (o:=false) rfl sc.nd rfl (by trivial) (aV bU (aV bN (aV mG (aA (i:=10)) (aA (i:=3))) (aA (i:=4))) (aG))) (aZ (lD (cX (lA hu) (aV bU (aA (i:=2)) (aG)) (aG) (cW _)) (aZ (mY (i:=9) rfl rfl (by trivial) (aV mG (aY (aW hK hu) (aA (i:=1)) (aV bU (aV bN (aA (i:=4)) (aV bU (aA (i:=11)) (aG))) (aG)) (fun _ _=>rfl)) (aV bN (aG) (aV cU (aA (i:=11)) (aG)))))) (aZ (lD (cX (lA hu) (aV bU (aA (i:=2)) (aG)) (aG) (cW _)) (aD (bB (i:=12) (o:=false) rfl sc.nd rfl (by trivial) (aY (aW hK hu) (aA (i:=1)) (aV bU (aV bN (aA (i:=4)) (aV bU (aA (i:=11)) (aG))) (aG)) (fun _ _=>rfl))) (aD (bB (i:=13) (o:=false) rfl sc.nd rfl (by trivial) (aY (aW hK hu) (aA (i:=1)) (aV bU (aV bN (aA (i:=4)) (aV cU (aA (i:=11)) (aG))) (aG)) (fun _ _=>rfl))) (aZ (mY (i:=9) rfl rfl (by trivial) (aV bN (aV bN (aV bN (iC hK (aA (i:=7)) (gD) (dI (aA (i:=8)))) (aA (i:=12))) (aA (i:=13))) (iC hK (aA (i:=7)) (dI (aA (i:=8))) (gD))))))) (aZ (mY (i:=9) rfl rfl (by trivial) (aV bN (aV bN (iC hK (aA (i:=7)) (gD) (dI (aA (i:=8)))) (aY (aW hK hu) (aA (i:=1)) (aA (i:=11)) (fun _ _=>rfl))) (iC hK (aA (i:=7)) (dI (aA (i:=8))) (gD))))))))))) (aD (lD (PW.pt (FZ (cX (wU hu) (rJ) (aA (i:=9)) (by with_unfolding_all rfl)) (wF (cX (wU hu) (rJ) (aA (i:=9)) (by with_unfolding_all rfl))))) (aZ (nJ (ownN:=(["name"]:List Str)) (show b_ dX (aP fK) _ (["name"]:List Str) from by refine ⟨rfl,?_,?_,?_,?_,?_,?_⟩ <;> decide +kernel) (n:=14) (m:=1) rfl rfl rfl (eX (aA (i:=9))) (dJ 14) (fun _=>bF (i:=14) (show ((List.map (fP (["name"]:List Str)) dX++(["name"]:List Str)):List Str).Nodup from by decide +kernel) rfl (by trivial)) (fun _=>aV bN (aA (i:=14)) (rJ)) (fun _=>rfl) (iy:=9) (o:=true) rfl sc.nd rfl (by trivial) (Or.inl rfl) (by with_unfolding_all rfl))) (eF)) (aZ (xJ (i:=9) rfl rfl (by trivial))))))))))))))
theorem tM (c__law_next:zA P w K mg base 1 "_law_next" 1 1 aL) (F:Fun K "_law_sig" "_law_sig" eY fad fd) (hm:mg "_law_sig" = some (.ref fad)):zA P w K mg base 2 "_law_sig" 2 1 fZ:=by
 have sc:=vJ;refine qI (ps:=["deck", "names"]) (N:=cR) (k:=1) 1 F hm (F.binds fun _ _ _ _ _ _ us hl=>match us,hl with|[_,_],_=>rfl) sc zL (by decide) (by decide) fun cdv A outer s H E hr=>?_
 have hu:=G7 hr
 exact aD (j4 (i:=2) (o:=false) rfl sc.nd rfl (by trivial) (dB (i:=0) c__law_next hr (by decide) (by rfl) rfl rfl (by trivial) (iG))) (aD (bB (i:=3) (o:=false) rfl sc.nd rfl (by trivial) (aV bN (aG) (aV bU (aA (i:=2)) (aG)))) (aD (bB (i:=4) (o:=true) rfl sc.nd rfl (by trivial) (iC hK (aA (i:=1)) (gD) (dI (aA (i:=3))))) (aD (nJ (ownN:=(["k"]:List Str)) (show b_ cR (aP eY) _ (["k"]:List Str) from by refine ⟨rfl,?_,?_,?_,?_,?_,?_⟩ <;> decide +kernel) (n:=13) (m:=1) rfl rfl rfl (j9 (by rfl) B.range (aC (aA (i:=3)) (aM))) (dJ 13) (fun _=>bF (i:=13) (show ((List.map (fP (["k"]:List Str)) cR++(["k"]:List Str)):List Str).Nodup from by decide +kernel) rfl (by trivial)) (fun _=>dN (aC (aY (aW hK hu) (aA (i:=1)) (aV bN (aG) (aA (i:=13))) (fun _ _=>rfl)) (aC (aY (aW hK hu) (aA (i:=4)) (aA (i:=13)) (fun _ _=>rfl)) (aC (dN (aM)) (aM))))) (fun _=>rfl) (iy:=5) (o:=true) rfl sc.nd rfl (by trivial) (Or.inl rfl) (by with_unfolding_all rfl)) (aD (bB (i:=6) (o:=true) rfl sc.nd rfl (by trivial) (JK (by rfl) (by rfl) B.dict (jR (ownN:=(["kind"]:List Str)) (show b_ cR (aP eY) _ (["kind"]:List Str) from by refine ⟨rfl,?_,?_,?_,?_,?_,?_⟩ <;> decide +kernel) (n:=13) (m:=1) rfl rfl rfl (eX (aA (i:=4))) (dJ 13) (fun _=>bF (i:=13) (show ((List.map (fP (["kind"]:List Str)) cR++(["kind"]:List Str)):List Str).Nodup from by decide +kernel) rfl (by trivial)) (fun _=>dN (aC (aA (i:=13)) (aC (aG) (aM)))) (fun _=>rfl)))) (aD (YX (PW.pt (Y6 (cX (X6 hu) (aA (i:=3)) (aG) (cW _)) (U3 (HS (lA hu) (xH bU (dB (i:=0) c__law_next hr (by decide) (by rfl) rfl rfl (by trivial) (iG)) (aG)) (aG) (cW _))))) (aD (bB (i:=7) (o:=false) rfl sc.nd rfl (by trivial) (c7 eE (by rfl) B.tuple dG (aC (iC hK (aA (i:=4)) (gD) (dI (aV bN (aG) (aV bU (aV cU (aA (i:=2)) (aG)) (aV rK (aA (i:=3)) (aG)))))) (aM)))) (aD (HX (i:=5) rfl rfl (by trivial) (S5 F_ (aG)) (dN (aC (aY (aW hK hu) (aA (i:=1)) (aV bN (aG) (aA (i:=3))) (fun _ _=>rfl)) (aC (aY (aW hK hu) (aA (i:=4)) (S5 F_ (aG)) (fun _ _=>rfl)) (aC (aA (i:=7)) (aM)))))) (aZ (wR (i:=6) hu rfl rfl (by trivial) (aY (aW hK hu) (aA (i:=4)) (S5 F_ (aG)) (fun _ _=>rfl)) (aV bN (aG) (cC (gM hK) (by rfl) B.len gP (aC (aA (i:=7)) (aM)))))))) (eF)) (aD (rQ PassesOwn.never rfl (j9 (by rfl) B.range (aC (aV bU (aV cU (aA (i:=2)) (aG)) (aG)) (aM))) (jK (i:=8) rfl) (bF (i:=8) sc.nd rfl (by trivial)) (aD (j4 (i:=9) (o:=false) rfl sc.nd rfl (by trivial) (dB (i:=0) c__law_next hr (by decide) (by rfl) rfl rfl (by trivial) (iG))) (aD (nJ (ownN:=(["j"]:List Str)) (show b_ cR (aP eY) _ (["j"]:List Str) from by refine ⟨rfl,?_,?_,?_,?_,?_,?_⟩ <;> decide +kernel) (n:=13) (m:=1) rfl rfl rfl (j9 (by rfl) B.range (aC (aV bU (aV cU (aA (i:=9)) (aG)) (aG)) (aM))) (dJ 13) (fun _=>bF (i:=13) (show ((List.map (fP (["j"]:List Str)) cR++(["j"]:List Str)):List Str).Nodup from by decide +kernel) rfl (by trivial)) (fun _=>aY (aW hK hu) (aA (i:=4)) (aV bU (aV cU (aA (i:=9)) (aY (aW hK hu) (d9 (aC (aG) (aC (aG) (aC (aG) (aM))))) (aA (i:=13)) (fun _ _=>rfl))) (aA (i:=3))) (fun _ _=>rfl)) (fun _=>rfl) (iy:=7) (o:=false) rfl sc.nd rfl (by trivial) (Or.inl rfl) (by with_unfolding_all rfl)) (aZ (mY (i:=5) rfl rfl (by trivial) (dN (aC (aY (aW hK hu) (aA (i:=1)) (aV bN (aV bN (aG) (aA (i:=3))) (aA (i:=8))) (fun _ _=>rfl)) (aC (aY (aW hK hu) (aA (i:=4)) (aV bU (aA (i:=9)) (aA (i:=3))) (fun _ _=>rfl)) (aC (c7 eE (by rfl) B.tuple dG (aC (aA (i:=7)) (aM))) (aM)))))))))) (aD (bB (i:=10) (o:=false) rfl sc.nd rfl (by trivial) (aV bU (aV cU (aA (i:=2)) (aG)) (cC (gM hK) (by rfl) B.len gP (aC (aA (i:=5)) (aM))))) (aD (bB (i:=11) (o:=true) rfl sc.nd rfl (by trivial) (d9 (aM))) (aD (Y8 PassesOwn.never rfl (Y7 (by rfl) B.range (xH bU (dB (i:=0) c__law_next hr (by decide) (by rfl) rfl rfl (by trivial) (iG)) (aG))) (jK (i:=8) rfl) (bF (i:=8) sc.nd rfl (by trivial)) (aD (j4 (i:=9) (o:=false) rfl sc.nd rfl (by trivial) (dB (i:=0) c__law_next hr (by decide) (by rfl) rfl rfl (by trivial) (iG))) (aD (nJ (ownN:=(["j"]:List Str)) (show b_ cR (aP eY) _ (["j"]:List Str) from by refine ⟨rfl,?_,?_,?_,?_,?_,?_⟩ <;> decide +kernel) (n:=13) (m:=1) rfl rfl rfl (j9 (by rfl) B.range (aC (aV bU (aV cU (aA (i:=9)) (aG)) (aG)) (aM))) (dJ 13) (fun _=>bF (i:=13) (show ((List.map (fP (["j"]:List Str)) cR++(["j"]:List Str)):List Str).Nodup from by decide +kernel) rfl (by trivial)) (fun _=>aY (aW hK hu) (aA (i:=4)) (aV bU (aV cU (aA (i:=9)) (aY (aW hK hu) (d9 (aC (aG) (aC (aG) (aM)))) (aA (i:=13)) (fun _ _=>rfl))) (aA (i:=3))) (fun _ _=>rfl)) (fun _=>rfl) (iy:=12) (o:=false) rfl sc.nd rfl (by trivial) (Or.inl rfl) (by with_unfolding_all rfl)) (aZ (mY (i:=11) rfl rfl (by trivial) (dN (aC (aY (aW hK hu) (aA (i:=1)) (aV bN (aG) (aA (i:=8))) (fun _ _=>rfl)) (aC (aY (aW hK hu) (aA (i:=4)) (aV bU (aA (i:=9)) (aA (i:=3))) (fun _ _=>rfl)) (aC (aY (aW hK hu) (aA (i:=4)) (aV bU (aV cU (aA (i:=9)) (aG)) (aA (i:=3))) (fun _ _=>rfl)) (aC (c7 eE (by rfl) B.tuple dG (aC (aA (i:=12)) (aM))) (aM))))))))))) (aZ (NQ (IV (i:=4) rfl rfl (by trivial) (ZC (aV bN (iC hK (aA (i:=5)) (dI (aA (i:=10))) (gD)) (iC hK (aA (i:=5)) (gD) (dI (aA (i:=10))))) (IV (i:=11) rfl rfl (by trivial) (IV (i:=6) rfl rfl (by trivial) (Y_))))))))))))))))
theorem o_ (c__law_next:zA P w K mg base 1 "_law_next" 1 1 aL) (F:Fun K "_law_words" "_law_words" dU fad fd) (hm:mg "_law_words" = some (.ref fad)):zA P w K mg base 2 "_law_words" 6 1 dW:=by
 have sc:=qM;refine qI (ps:=["deck", "heads", "wanted", "most", "full", "least"]) (N:=b7) (k:=1) 1 F hm (F.binds fun _ _ _ _ _ _ us hl=>match us,hl with|[_,_,_,_,_,_],_=>rfl) sc tG (by decide) (by decide) fun cdv A outer s H E hr=>?_
 have hu:=G7 hr
 exact aD (bB (i:=6) (o:=true) rfl sc.nd rfl (by trivial) (d9 (aM))) (aD (bB (i:=7) (o:=true) rfl sc.nd rfl (by trivial) (d9 (aC (zE (aA (i:=2))) (aM)))) (aD (bB (i:=8) (o:=false) rfl sc.nd rfl (by trivial) (cC (X_ hu (by rfl)) (by rfl) B.max YG (aC (aG) (aC (aV rK (aA (i:=3)) (aY (aW hK hu) (aA (i:=5)) (aA (i:=2)) (fun _ _=>rfl))) (aM))))) (aD (HJ PassesOwn.never (cX (GC hu) (aA (i:=7)) (d9 (aM)) (cW _)) (aD (UG (i:=7) (j:=9) rfl rfl (by trivial) sc.nd rfl (by trivial) rfl) (aD (bB (i:=10) (o:=false) rfl sc.nd rfl (by trivial) (aV rK (aV bN (aA (i:=8)) (aY (aW hK hu) (aA (i:=5)) (aA (i:=9)) (fun _ _=>rfl))) (aG))) (aD (mF (ownN:=(["row"]:List Str)) (show b_ b7 (aP dU) _ (["row"]:List Str) from by refine ⟨rfl,?_,?_,?_,?_,?_,?_⟩ <;> decide +kernel) (n:=14) (m:=1) rfl rfl rfl (eX (aA (i:=1))) (dJ 14) (fun _=>bF (i:=14) (show ((List.map (fP (["row"]:List Str)) b7++(["row"]:List Str)):List Str).Nodup from by decide +kernel) rfl (by trivial)) (fun _=>PW.pt (FW (cX (lA hu) (aY (aW hK hu) (aA (i:=14)) (aG) (fun _ _=>rfl)) (aA (i:=9)) (cW _)) (uV (cX (aB6 hu) (cC (QF (by rfl)) (by rfl) B.sum QG (aC (jR (ownN:=(["x"]:List Str)) (show b_ (List.map (fP (["row"]:List Str)) b7++(["row"]:List Str)) _ _ (["x"]:List Str) from ⟨rfl,by decide +kernel,by decide +kernel,of_decide_eq_true (by rfl),by decide +kernel,by decide +kernel,by decide +kernel⟩) (n:=15) (m:=1) rfl rfl rfl (eX (aY (aW hK hu) (aA (i:=14)) (aG) (fun _ _=>rfl))) (dJ 15) (fun _=>bF (i:=15) (show ((List.map (fP (["x"]:List Str)) (List.map (fP (["row"]:List Str)) b7++(["row"]:List Str))++(["x"]:List Str)):List Str).Nodup from by decide +kernel) rfl (by trivial)) (fun _=>aY (aW hK hu) (aA (i:=5)) (aA (i:=15)) (fun _ _=>rfl)) (fun _=>rfl)) (aM))) (aA (i:=10)) (cW _))))) (fun _=>aA (i:=14)) (fun _=>rfl) (iy:=11) (o:=false) rfl sc.nd rfl (by trivial) (Or.inl rfl) (by with_unfolding_all rfl)) (aD (mF (ownN:=(["row"]:List Str)) (show b_ b7 (aP dU) _ (["row"]:List Str) from by refine ⟨rfl,?_,?_,?_,?_,?_,?_⟩ <;> decide +kernel) (n:=14) (m:=1) rfl rfl rfl (eX (aA (i:=11))) (dJ 14) (fun _=>bF (i:=14) (show ((List.map (fP (["row"]:List Str)) b7++(["row"]:List Str)):List Str).Nodup from by decide +kernel) rfl (by trivial)) (fun _=>cX (wU hu) (aA (i:=9)) (aY (aW hK hu) (aA (i:=14)) (aG) (fun _ _=>rfl)) (by with_unfolding_all rfl)) (fun _=>aA (i:=14)) (fun _=>rfl) (iy:=12) (o:=false) rfl sc.nd rfl (by trivial) (Or.inl rfl) (by with_unfolding_all rfl)) (aD (lD (PW.pt (FW (n_ (aA (i:=4))) (uV (cX (GC hu) (aA (i:=12)) (d9 (aM)) (cW _))))) (aZ (TX (i:=11) (j:=12) rfl rfl sc.nd rfl (by trivial) rfl (by trivial))) (eF)) (aD (j4 (i:=13) (o:=false) rfl sc.nd rfl (by trivial) (YW (i:=11) (aW hK hu) rfl rfl (by trivial) (xH bU (dB (i:=0) c__law_next hr (by decide) (by rfl) rfl rfl (by trivial) (iG)) (cC (gM hK) (by rfl) B.len gP (aC (aA (i:=11)) (aM)))) (fun _ _=>rfl))) (aD (mY (i:=6) rfl rfl (by trivial) (aY (aW hK hu) (aA (i:=13)) (aG) (fun _ _=>rfl))) (aD (bB (i:=8) (o:=false) rfl sc.nd rfl (by trivial) (aV rK (aA (i:=10)) (cC (QF (by rfl)) (by rfl) B.sum QG (aC (jR (ownN:=(["x"]:List Str)) (show b_ b7 (aP dU) _ (["x"]:List Str) from by refine ⟨rfl,?_,?_,?_,?_,?_,?_⟩ <;> decide +kernel) (n:=14) (m:=1) rfl rfl rfl (eX (aY (aW hK hu) (aA (i:=13)) (aG) (fun _ _=>rfl))) (dJ 14) (fun _=>bF (i:=14) (show ((List.map (fP (["x"]:List Str)) b7++(["x"]:List Str)):List Str).Nodup from by decide +kernel) rfl (by trivial)) (fun _=>aY (aW hK hu) (aA (i:=5)) (aA (i:=14)) (fun _ _=>rfl)) (fun _=>rfl)) (aM))))) (aZ (QH (i:=7) rfl rfl (by trivial) (JG (by rfl) (by rfl) B.list (by rfl) B.reversed (aY (aW hK hu) (aA (i:=13)) (aG) (fun _ _=>rfl)))))))))))))) (aZ (xJ (i:=6) rfl rfl (by trivial))))))
theorem tO  (F:Fun K "heads_of" "heads_of" mO fad fd) (hm:mg "heads_of" = some (.ref fad)):lG P w K mg base 1 "heads_of" 1 jU:=by
 have sc:=vK;refine pJ (ps:=["program"]) (N:=pL) (k:=0) F hm (F.binds fun _ _ _ _ _ _ us hl=>match us,hl with|[_],_=>rfl) sc zM (by decide) (by decide) fun cdv A outer s H E hr=>?_
 have hu:=G7 hr;exact aD (bB (i:=1) (o:=true) rfl sc.nd rfl (by trivial) (wD)) (aD (rQ PassesOwn.never rfl (eX (aY (aW hK hu) (aA (i:=0)) (aG) (fun _ _=>rfl))) (G6 _ (is:=[2,3,4]) (by decide)) (PB rfl (d8 (bF (i:=2) sc.nd rfl (by trivial)) (d8 (bF (i:=3) sc.nd rfl (by trivial)) (d8 (bF (i:=4) sc.nd rfl (by trivial)) (uF))))) (aZ (wR (i:=1) hu rfl rfl (by trivial) (aA (i:=2)) (dN (aC (aA (i:=3)) (aC (aA (i:=4)) (aM))))))) (aD (rQ PassesOwn.never rfl (eX (aY (aW hK hu) (aA (i:=0)) (aG) (fun _ _=>rfl))) (G6 _ (is:=[2,3,5,6]) (by decide)) (PB rfl (d8 (bF (i:=2) sc.nd rfl (by trivial)) (d8 (bF (i:=3) sc.nd rfl (by trivial)) (d8 (bF (i:=5) sc.nd rfl (by trivial)) (d8 (bF (i:=6) sc.nd rfl (by trivial)) (uF)))))) (aZ (wR (i:=1) hu rfl rfl (by trivial) (aA (i:=2)) (dN (aC (aA (i:=3)) (aC (aV qH (dN (aC (aA (i:=5)) (aM))) (aA (i:=6))) (aM))))))) (aZ (G3 (i:=1) rfl rfl (by trivial)))))
theorem oU  (F:Fun K "end_of_term" "end_of_term" iQ fad fd) (hm:mg "end_of_term" = some (.ref fad)):lG P w K mg base 1 "end_of_term" 3 eN:=by
 have sc:=o8;refine pJ (ps:=["heads", "words", "begin"]) (N:=lH) (k:=0) F hm (F.binds fun _ _ _ _ _ _ us hl=>match us,hl with|[_,_,_],_=>rfl) sc qJ (by decide) (by decide) fun cdv A outer s H E hr=>?_
 have hu:=G7 hr;exact aD (TX (i:=3) (j:=2) rfl rfl sc.nd rfl (by trivial) rfl (by trivial)) (aD (bB (i:=4) (o:=false) rfl sc.nd rfl (by trivial) (aG)) (aD (HJ PassesOwn.never (cX (X6 hu) (aA (i:=4)) (aG) (cW _)) (aD (bB (i:=4) (o:=false) rfl sc.nd rfl (by trivial) (aV bN (aV rK (aA (i:=4)) (aG)) (cC (gM hK) (by rfl) B.len gP (aC (aY (aW hK hu) (aY (aW hK hu) (aA (i:=0)) (aY (aW hK hu) (aA (i:=1)) (aA (i:=3)) (fun _ _=>rfl)) (fun _ _=>rfl)) (aG) (fun _ _=>rfl)) (aM))))) (aZ (bB (i:=3) (o:=false) rfl sc.nd rfl (by trivial) (aV bN (aA (i:=3)) (aG)))))) (aZ (lF (aA (i:=3))))))
theorem JM (c_heads_of:lG P w K mg base 1 "heads_of" 1 jU) (c_end_of_term:lG P w K mg base 1 "end_of_term" 3 eN) (F:Fun K "split" "split" s_split fad fd) (hm:mg "split" = some (.ref fad)):lG P w K mg base 2 "split" 2 mQ:=by
 have sc:=N6;refine pJ (ps:=["program", "words"]) (N:=JL) (k:=1) F hm (F.binds fun _ _ _ _ _ _ us hl=>match us,hl with|[_,_],_=>rfl) sc U5 (by decide) (by decide) fun cdv A outer s H E hr=>?_
 have hu:=G7 hr;exact aD (bB (i:=2) (o:=false) rfl sc.nd rfl (by trivial) (jT c_heads_of hr (by decide) (by rfl) (aC (aA (i:=0)) (aM)))) (aD (bB (i:=3) (o:=true) rfl sc.nd rfl (by trivial) (d9 (aM))) (aD (bB (i:=4) (o:=false) rfl sc.nd rfl (by trivial) (aG)) (aD (HJ PassesOwn.never (cX (X5 hu) (aA (i:=4)) (cC (gM hK) (by rfl) B.len gP (aC (aA (i:=1)) (aM))) (cW _)) (aD (bB (i:=5) (o:=false) rfl sc.nd rfl (by trivial) (jT c_end_of_term hr (by decide) (by rfl) (aC (aA (i:=2)) (aC (aA (i:=1)) (aC (aA (i:=4)) (aM)))))) (aD (mY (i:=3) rfl rfl (by trivial) (iC hK (aA (i:=1)) (dI (aA (i:=4))) (dI (aA (i:=5))))) (aZ (TX (i:=4) (j:=5) rfl rfl sc.nd rfl (by trivial) rfl (by trivial)))))) (aZ (G3 (i:=3) rfl rfl (by trivial))))))
theorem qO  (F:Fun K "_law_bare" "_law_bare" gF fad fd) (hm:mg "_law_bare" = some (.ref fad)):lG P w K mg base 1 "_law_bare" 4 gG:=by
 have sc:=tL;refine pJ (ps:=["kind", "kinds", "makers", "names"]) (N:=e_) (k:=0) F hm (F.binds fun _ _ _ _ _ _ us hl=>match us,hl with|[_,_,_,_],_=>rfl) sc vH (by decide) (by decide) fun cdv A outer s H E hr=>?_
 have hu:=G7 hr;exact aD (bB (i:=4) (o:=false) rfl sc.nd rfl (by trivial) (aY (aW hK hu) (pI (ownN:=(["row"]:List Str)) (show b_ e_ (aP gF) _ (["row"]:List Str) from by refine ⟨rfl,?_,?_,?_,?_,?_,?_⟩ <;> decide +kernel) (n:=5) (m:=1) rfl rfl rfl (eX (aA (i:=2))) (dJ 5) (fun _=>bF (i:=5) (show ((List.map (fP (["row"]:List Str)) e_++(["row"]:List Str)):List Str).Nodup from by decide +kernel) rfl (by trivial)) (fun _=>cX (lA hu) (aY (aW hK hu) (aA (i:=5)) (aG) (fun _ _=>rfl)) (aY (aW hK hu) (aA (i:=3)) (aV bN (aG) (S_ PySem.F.plainAttrs_list PySem.F.slot_list_index PySem.F.type_list_index (sO hu) (aA (i:=1)) (aC (aA (i:=0)) (aM)) (fun _ _ _ _ _ h r=>sS h r))) (fun _ _=>rfl)) (cW _)) (fun _=>aA (i:=5)) (fun _=>rfl)) (aG) (fun _ _=>rfl))) (aZ (lF (aV qH (dN (aC (aY (aW hK hu) (aA (i:=4)) (aG) (fun _ _=>rfl)) (aM))) (c7 eE (by rfl) B.tuple dG (aC (jR (ownN:=(["x"]:List Str)) (show b_ e_ (aP gF) _ (["x"]:List Str) from by refine ⟨rfl,?_,?_,?_,?_,?_,?_⟩ <;> decide +kernel) (n:=5) (m:=1) rfl rfl rfl (eX (aY (aW hK hu) (aA (i:=4)) (aG) (fun _ _=>rfl))) (dJ 5) (fun _=>bF (i:=5) (show ((List.map (fP (["x"]:List Str)) e_++(["x"]:List Str)):List Str).Nodup from by decide +kernel) rfl (by trivial)) (fun _=>aY (aW hK hu) (aA (i:=3)) (aV bN (aG) (S_ PySem.F.plainAttrs_list PySem.F.slot_list_index PySem.F.type_list_index (sO hu) (aA (i:=1)) (aC (aA (i:=5)) (aM)) (fun _ _ _ _ _ h r=>sS h r))) (fun _ _=>rfl)) (fun _=>rfl)) (aM))))))
theorem nF (c__law_bare:lG P w K mg base 1 "_law_bare" 4 gG) (F:Fun K "_law_program" "_law_program" fB fad fd) (hm:mg "_law_program" = some (.ref fad)):lG P w K mg base 2 "_law_program" 4 dF:=by
 have sc:=oR;refine pJ (ps:=["kinds", "makers", "takers", "names"]) (N:=fC) (k:=1) F hm (F.binds fun _ _ _ _ _ _ us hl=>match us,hl with|[_,_,_,_],_=>rfl) sc o6 (by decide) (by decide) fun cdv A outer s H E hr=>?_
 have hu:=G7 hr;exact aD (bB (i:=4) (o:=true) rfl sc.nd rfl (by trivial) (d9 (aM))) (aD (qF (i:=2) rfl PassesOwn.never rfl rfl (by trivial) (jK (i:=5) rfl) (bF (i:=5) sc.nd rfl (by trivial)) (aZ (qF (i:=1) rfl PassesOwn.never rfl rfl (by trivial) (jK (i:=6) rfl) (bF (i:=6) sc.nd rfl (by trivial)) (aZ (lD (cX (lA hu) (aY (aW hK hu) (aA (i:=6)) (aG) (fun _ _=>rfl)) (aY (aW hK hu) (aA (i:=5)) (aG) (fun _ _=>rfl)) (cW _)) (aD (bB (i:=7) (o:=false) rfl sc.nd rfl (by trivial) (iC hK (aA (i:=3)) (dI (aG)) (dI (aV bN (aV bN (aG) (cC (gM hK) (by rfl) B.len gP (aC (aY (aW hK hu) (aA (i:=6)) (aG) (fun _ _=>rfl)) (aM)))) (cC (gM hK) (by rfl) B.len gP (aC (aY (aW hK hu) (aA (i:=5)) (aG) (fun _ _=>rfl)) (aM))))))) (aD (bB (i:=8) (o:=false) rfl sc.nd rfl (by trivial) (dN (aC (aY (aW hK hu) (aA (i:=5)) (aG) (fun _ _=>rfl)) (aC (aY (aW hK hu) (aA (i:=3)) (aG) (fun _ _=>rfl)) (aM))))) (aD (lD (cX (wU hu) (aY (aW hK hu) (aA (i:=5)) (aG) (fun _ _=>rfl)) (aA (i:=0)) (by with_unfolding_all rfl)) (aZ (bB (i:=8) (o:=false) rfl sc.nd rfl (by trivial) (jT c__law_bare hr (by decide) (by rfl) (aC (aY (aW hK hu) (aA (i:=5)) (aG) (fun _ _=>rfl)) (aC (aA (i:=0)) (aC (aA (i:=1)) (aC (aA (i:=3)) (aM)))))))) (eF)) (aZ (mY (i:=4) rfl rfl (by trivial) (dN (aC (aY (aW hK hu) (aA (i:=5)) (aG) (fun _ _=>rfl)) (aC (aY (aW hK hu) (aA (i:=6)) (aG) (fun _ _=>rfl)) (aC (c7 eE (by rfl) B.tuple dG (aC (aA (i:=7)) (aM))) (aC (aA (i:=8)) (aM))))))))))) (eF)))))) (aD (bB (i:=9) (o:=false) rfl sc.nd rfl (by trivial) (c7 eE (by rfl) B.tuple dG (aC (aV bN (aA (i:=0)) (pI (ownN:=(["row"]:List Str)) (show b_ fC (aP fB) _ (["row"]:List Str) from by refine ⟨rfl,?_,?_,?_,?_,?_,?_⟩ <;> decide +kernel) (n:=10) (m:=1) rfl rfl rfl (eX (aA (i:=2))) (dJ 10) (fun _=>bF (i:=10) (show ((List.map (fP (["row"]:List Str)) fC++(["row"]:List Str)):List Str).Nodup from by decide +kernel) rfl (by trivial)) (fun _=>cX (lA hu) (aY (aW hK hu) (aA (i:=10)) (aG) (fun _ _=>rfl)) (aY (aW hK hu) (aA (i:=3)) (aG) (fun _ _=>rfl)) (cW _)) (fun _=>aY (aW hK hu) (aA (i:=3)) (aG) (fun _ _=>rfl)) (fun _=>rfl))) (aM)))) (aZ (lF (dN (aC (aA (i:=9)) (aC (c7 eE (by rfl) B.tuple dG (aC (aA (i:=1)) (aM))) (aC (c7 eE (by rfl) B.tuple dG (aC (aA (i:=2)) (aM))) (aC (c7 eE (by rfl) B.tuple dG (aC (aA (i:=4)) (aM))) (aM))))))))))
theorem kE  (F:Fun K "_law_whole_term" "_law_whole_term" eZ fad fd) (hm:mg "_law_whole_term" = some (.ref fad)):lG P w K mg base 1 "_law_whole_term" 3 cM:=by
 have sc:=lJ;refine pJ (ps:=["part", "kind", "stand"]) (N:=iH) (k:=0) F hm (F.binds fun _ _ _ _ _ _ us hl=>match us,hl with|[_,_,_],_=>rfl) sc mR (by decide) (by decide) fun cdv A outer s H E hr=>?_
 have hu:=G7 hr;exact aD (bB (i:=3) (o:=true) rfl sc.nd rfl (by trivial) (d9 (aC (zE (aA (i:=1))) (aM)))) (aD (qF (i:=0) rfl PassesOwn.never rfl rfl (by trivial) (jK (i:=4) rfl) (bF (i:=4) sc.nd rfl (by trivial)) (aD (lD (PW.pt (FZ (wC (n_ (GQ .str (aA (i:=4)) (by rfl) B.isi iM (by rfl) B.str YH))) (FZ (cX (wJ hu) (aA (i:=4)) (aA (i:=2)) (by with_unfolding_all rfl)) (wF (cX (lA hu) (aA (i:=3)) (d9 (aM)) (cW _)))))) (aZ (lF (MK))) (eF)) (aD (YX (HS (GC hu) (U0 (i:=3) rfl rfl (by trivial)) (aY (aW hK hu) (aY (aW hK hu) (aA (i:=2)) (aA (i:=4)) (fun _ _=>rfl)) (aG) (fun _ _=>rfl)) (cW _)) (aZ (lF (MK))) (eF)) (aZ (QH (i:=3) rfl rfl (by trivial) (JG (by rfl) (by rfl) B.list (by rfl) B.reversed (aY (aW hK hu) (aY (aW hK hu) (aA (i:=2)) (aA (i:=4)) (fun _ _=>rfl)) (aG) (fun _ _=>rfl)))))))) (aZ (lF (wB (lA hu) (aA (i:=3)) (d9 (aM)) (cW _)))))
theorem ZK (c__law_next:zA P w K mg base 1 "_law_next" 1 1 aL) (c__law_names:zA P w K mg base 2 "_law_names" 1 1 dR) (c__law_sig:zA P w K mg base 2 "_law_sig" 2 1 fZ) (c__law_words:zA P w K mg base 2 "_law_words" 6 1 dW) (c__law_program:lG P w K mg base 2 "_law_program" 4 dF) (c_split:lG P w K mg base 2 "split" 2 mQ) (c__law_whole_term:lG P w K mg base 1 "_law_whole_term" 3 cM) (F:Fun K "law" "law" oN fad fd):vV P w K mg base CX0 3 fad fd ["script"] (spD zO 1):=by
 have sc:=ZJ;refine YF (ps:=["script"]) (N:=zP) (k:=2) F sc o_law (by decide) (by decide) fun cdv A outer s H E hr=>?_
 have hu:=G7 hr
 exact aD (bB (i:=1) (o:=true) rfl sc.nd rfl (by trivial) (Y4 (d9 (aC (iC hK (aA (i:=0)) (gD) (dI (aG))) (aC (aG) (aM)))))) (aD (j4 (i:=2) (o:=false) rfl sc.nd rfl (by trivial) (dB (i:=1) c__law_next hr (by decide) (by rfl) rfl rfl (by trivial) (iG))) (aD (j4 (i:=3) (o:=false) rfl sc.nd rfl (by trivial) (dB (i:=1) c__law_names hr (by decide) (by rfl) rfl rfl (by trivial) (iG))) (aD (ZD (is:=[4,5,6,7]) (by decide) (dB (i:=1) c__law_sig hr (by decide) (by rfl) rfl rfl (by trivial) (sV (i:=3) rfl rfl (by trivial) (iG))) (U4 rfl (d8 (bF (i:=4) sc.nd rfl (by trivial)) (d8 (bF (i:=5) sc.nd rfl (by trivial)) (d8 (bF (i:=6) sc.nd rfl (by trivial)) (d8 (bF (i:=7) sc.nd rfl (by trivial)) (uF))))))) (aD (bB (i:=8) (o:=false) rfl sc.nd rfl (by trivial) (aY (aW hK hu) (aA (i:=4)) (aV bU (aV cU (aA (i:=2)) (aG)) (cC (gM hK) (by rfl) B.len gP (aC (aA (i:=4)) (aM)))) (fun _ _=>rfl))) (aD (bB (i:=9) (o:=false) rfl sc.nd rfl (by trivial) (wB (lA hu) (aV bU (aV cU (aA (i:=2)) (aG)) (aG)) (aG) (cW _))) (aD (lD (n_ (aA (i:=9))) (aD (bB (i:=6) (o:=false) rfl sc.nd rfl (by trivial) (aV bN (aV bN (d9 (aC (zE (dN (aC (aY (aW hK hu) (aA (i:=3)) (aG) (fun _ _=>rfl)) (aC (aY (aW hK hu) (aA (i:=4)) (aG) (fun _ _=>rfl)) (aC (aY (aW hK hu) (aA (i:=3)) (aG) (fun _ _=>rfl)) (aC (dN (aM)) (aM))))))) (aM))) (aA (i:=6))) (d9 (aC (zE (dN (aC (aY (aW hK hu) (aA (i:=3)) (aG) (fun _ _=>rfl)) (aC (aY (aW hK hu) (aA (i:=3)) (aG) (fun _ _=>rfl)) (aC (aY (aW hK hu) (aA (i:=4)) (aG) (fun _ _=>rfl)) (aC (dN (aM)) (aM))))))) (aM))))) (aZ (bB (i:=8) (o:=false) rfl sc.nd rfl (by trivial) (aY (aW hK hu) (aA (i:=4)) (aG) (fun _ _=>rfl))))) (eF)) (aD (bB (i:=10) (o:=false) rfl sc.nd rfl (by trivial) (aV bN (aA (i:=5)) (jR (ownN:=(["row"]:List Str)) (show b_ zP (aP oN) _ (["row"]:List Str) from by refine ⟨rfl,?_,?_,?_,?_,?_,?_⟩ <;> decide +kernel) (n:=20) (m:=1) rfl rfl rfl (eX (aA (i:=6))) (dJ 20) (fun _=>bF (i:=20) (show ((List.map (fP (["row"]:List Str)) zP++(["row"]:List Str)):List Str).Nodup from by decide +kernel) rfl (by trivial)) (fun _=>dN (aC (aY (aW hK hu) (aA (i:=20)) (aG) (fun _ _=>rfl)) (aC (aY (aW hK hu) (aA (i:=20)) (aG) (fun _ _=>rfl)) (aC (aV qH (dN (aC (aY (aW hK hu) (aA (i:=20)) (aG) (fun _ _=>rfl)) (aM))) (aY (aW hK hu) (aA (i:=20)) (aG) (fun _ _=>rfl))) (aM))))) (fun _=>rfl)))) (aD (bB (i:=11) (o:=false) rfl sc.nd rfl (by trivial) (aY (aW hK hu) (d9 (aC (aG) (aC (aG) (aC (aG) (aC (aG) (aM)))))) (aV bU (aV cU (aA (i:=2)) (aG)) (aG)) (fun _ _=>rfl))) (aD (mF (ownN:=(["row"]:List Str)) (show b_ zP (aP oN) _ (["row"]:List Str) from by refine ⟨rfl,?_,?_,?_,?_,?_,?_⟩ <;> decide +kernel) (n:=20) (m:=1) rfl rfl rfl (eX (aA (i:=10))) (dJ 20) (fun _=>bF (i:=20) (show ((List.map (fP (["row"]:List Str)) zP++(["row"]:List Str)):List Str).Nodup from by decide +kernel) rfl (by trivial)) (fun _=>PW.pt (FW (cX (GC hu) (aY (aW hK hu) (aA (i:=3)) (aG) (fun _ _=>rfl)) (aY (aW hK hu) (aA (i:=20)) (aG) (fun _ _=>rfl)) (cW _)) (uV (cX (wJ hu) (aY (aW hK hu) (aA (i:=3)) (aG) (fun _ _=>rfl)) (aY (aW hK hu) (aA (i:=20)) (aG) (fun _ _=>rfl)) (by with_unfolding_all rfl))))) (fun _=>aA (i:=20)) (fun _=>rfl) (iy:=12) (o:=false) rfl sc.nd rfl (by trivial) (Or.inl rfl) (by with_unfolding_all rfl)) (aD (j4 (i:=13) (o:=false) rfl sc.nd rfl (by trivial) (dB (i:=1) c__law_words hr (by decide) (by rfl) rfl rfl (by trivial) (sV (i:=12) rfl rfl (by trivial) (sV (i:=8) rfl rfl (by trivial) (sV (i:=11) rfl rfl (by trivial) (aBf (wB (lA hu) (aV bU (aA (i:=2)) (aG)) (aG) (cW _)) (sV (i:=7) rfl rfl (by trivial) (iG)))))))) (aD (lD (n_ (aA (i:=9))) (aZ (bB (i:=13) (o:=false) rfl sc.nd rfl (by trivial) (aV bN (d9 (aC (zE (aY (aW hK hu) (aA (i:=3)) (aG) (fun _ _=>rfl))) (aC (zE (aY (aW hK hu) (aA (i:=3)) (aG) (fun _ _=>rfl))) (aM)))) (aA (i:=13))))) (eF)) (aD (bB (i:=14) (o:=true) rfl sc.nd rfl (by trivial) (wD)) (aD (qF (i:=10) rfl PassesOwn.never rfl rfl (by trivial) (jK (i:=15) rfl) (bF (i:=15) sc.nd rfl (by trivial)) (aZ (wR (i:=14) hu rfl rfl (by trivial) (aY (aW hK hu) (aA (i:=15)) (aG) (fun _ _=>rfl)) (aA (i:=15))))) (aD (bB (i:=16) (o:=false) rfl sc.nd rfl (by trivial) (jT c_split hr (by decide) (by rfl) (aC (jT c__law_program hr (by decide) (by rfl) (aC (aA (i:=4)) (aC (aA (i:=5)) (aC (aA (i:=6)) (aC (aA (i:=3)) (aM)))))) (aC (c7 eE (by rfl) B.tuple dG (aC (aA (i:=13)) (aM))) (aM))))) (aD (bB (i:=17) (o:=false) rfl sc.nd rfl (by trivial) (aY (aW hK hu) (aY (aW hK hu) (aA (i:=14)) (aY (aW hK hu) (aA (i:=13)) (aG) (fun _ _=>rfl)) (fun _ _=>rfl)) (aG) (fun _ _=>rfl))) (aD (lD (PW.pt (FZ (wC (n_ (GQ .list (aA (i:=16)) (by rfl) B.isi iM (by rfl) B.list G8))) (wF (cX (GC hu) (cC (gM hK) (by rfl) B.len gP (aC (aA (i:=16)) (aM))) (cC (gM hK) (by rfl) B.len gP (aC (aA (i:=17)) (aM))) (cW _))))) (aZ (lF (MK))) (eF)) (aD (bB (i:=18) (o:=false) rfl sc.nd rfl (by trivial) (dN (aM))) (aD (rQ PassesOwn.never rfl (j9 (by rfl) B.range (aC (cC (gM hK) (by rfl) B.len gP (aC (aA (i:=17)) (aM))) (aM))) (jK (i:=19) rfl) (bF (i:=19) sc.nd rfl (by trivial)) (aD (lD (PW.pt (FZ (wC (n_ (GQ .tuple (aY (aW hK hu) (aA (i:=16)) (aA (i:=19)) (fun _ _=>rfl)) (by rfl) B.isi iM (by rfl) B.tuple dG))) (wF (wC (n_ (jT c__law_whole_term hr (by decide) (by rfl) (aC (aY (aW hK hu) (aA (i:=16)) (aA (i:=19)) (fun _ _=>rfl)) (aC (aY (aW hK hu) (aA (i:=17)) (aA (i:=19)) (fun _ _=>rfl)) (aC (aA (i:=14)) (aM)))))))))) (aZ (lF (MK))) (eF)) (aZ (bB (i:=18) (o:=false) rfl sc.nd rfl (by trivial) (aV qH (aA (i:=18)) (aY (aW hK hu) (aA (i:=16)) (aA (i:=19)) (fun _ _=>rfl))))))) (aZ (lF (wB (lA hu) (aA (i:=18)) (c7 eE (by rfl) B.tuple dG (aC (iC hK (aA (i:=13)) (dI (aG)) (gD)) (aM))) (cW _))))))))))))))))))))))
end
noncomputable def AtN (K:Frag) (n:Str) (st:Stmt):Prop:=∃(f:Addr) (fd:FuncData),nsIn K mainGlobals n=some (some (.ref f))/\Fun K n n st f fd
theorem aBh {K:Frag} {n:Str} {st:Stmt} {f:Addr} {oc kV dc pm cd ct:Value} {od an:Option Addr} {sl:Array (Option Value)} (a:nsIn K mainGlobals n=some (some (.ref f))) (l:K.lookup f=some ⟨oc,od,.func (fnOf n n (j6 st) (fM st) (aP st) .none kV dc pm an cd ct),sl⟩) (c:codeIn K cd n=true) (k:keepIn K (.ref f)=true):AtN K n st:=⟨f,_,a,PX (st:=st) l c k⟩
theorem ZL {l:OpenLaw} {w:World} {K:Frag} {h:Heap} {mg:Str->Option Value} {fa:Addr} (X:K.In h) (G:h.Ns mainGlobals mg) (hfa:mg "law" = some (.ref fa)) (a0:AtN K "_law_next" j_) (a1:AtN K "_law_names" fK) (a2:AtN K "_law_sig" eY) (a3:AtN K "_law_words" dU) (a4:AtN K "heads_of" mO) (a5:AtN K "end_of_term" iQ) (a6:AtN K "split" s_split) (a7:AtN K "_law_bare" gF) (a8:AtN K "_law_program" fB) (a9:AtN K "_law_whole_term" eZ)
  {f10:Addr} {oc10 kV10 dc10 pm10 cd10 ct10:Value} {od10 an10:Option Addr} {sl10:Array (Option Value)} (a10:nsIn K mainGlobals "law" = some (some (.ref f10))) (l10:K.lookup f10=some ⟨oc10,od10,.func (fnOf "law" "law" (j6 oN) (fM oN) (aP oN) .none kV10 dc10 pm10 an10 cd10 ct10),sl10⟩) (c10:codeIn K cd10 "law" = true) (k10:keepIn K (.ref f10)=true) (z_len:nsIn K mainGlobals "len" = some none) (z_min:nsIn K mainGlobals "min" = some none) (z_max:nsIn K mainGlobals "max" = some none) (z_list:nsIn K mainGlobals "list" = some none) (z_tuple:nsIn K mainGlobals "tuple" = some none) (z_sorted:nsIn K mainGlobals "sorted" = some none) (z_range:nsIn K mainGlobals "range" = some none) (z_isinstance:nsIn K mainGlobals "isinstance" = some none) (z_int:nsIn K mainGlobals "int" = some none) (z_bool:nsIn K mainGlobals "bool" = some none) (z_str:nsIn K mainGlobals "str" = some none) (z_dict:nsIn K mainGlobals "dict" = some none) (z_all:nsIn K mainGlobals "all" = some none) (z_enumerate:nsIn K mainGlobals "enumerate" = some none) (z_sum:nsIn K mainGlobals "sum" = some none) (z_zip:nsIn K mainGlobals "zip" = some none) (z_abs:nsIn K mainGlobals "abs" = some none) (z_reversed:nsIn K mainGlobals "reversed" = some none) :
  ∃fd:FuncData,(∀(s:Shared) (v:Value),BindsTo s fd ⟨[v],[]⟩ [("script",v)])/\∀base:Heap,K.In base->base.Ns mainGlobals mg->vV l.prog w K mg base CX0 3 fa fd ["script"] (@spD ⟨K⟩ zO 1):=by
 have e:=hfa.symm.trans (mg_of X G a10);cases e
 letI:KFrag:=⟨K⟩
 have Y:=fun {n:Str} {v:Value}=>mg_of (n:=n) (v:=v) X G
 have Z:=fun {n:Str}=>mg_none_of (n:=n) X G
 obtain ⟨f0,_,a0,F0⟩:=a0;obtain ⟨f1,_,a1,F1⟩:=a1;obtain ⟨f2,_,a2,F2⟩:=a2;obtain ⟨f3,_,a3,F3⟩:=a3;obtain ⟨f4,_,a4,F4⟩:=a4;obtain ⟨f5,_,a5,F5⟩:=a5;obtain ⟨f6,_,a6,F6⟩:=a6;obtain ⟨f7,_,a7,F7⟩:=a7;obtain ⟨f8,_,a8,F8⟩:=a8;obtain ⟨f9,_,a9,F9⟩:=a9;have B:Bt mg:=⟨Z z_len,Z z_min,Z z_max,Z z_list,Z z_tuple,Z z_sorted,Z z_range,Z z_isinstance,Z z_int,Z z_bool,Z z_str,Z z_dict,Z z_all,Z z_enumerate,Z z_sum,Z z_zip,Z z_abs,Z z_reversed⟩
 refine ⟨fnOf "law" "law" (j6 oN) (fM oN) (aP oN) .none kV10 dc10 pm10 an10 cd10 ct10,fun s v=>.of_eq rfl,fun base _ _=>?_⟩;have h__law_next:=qN (P:=l.prog) (w:=w) (base:=base) rfl B  F0 (Y a0);have h__law_names:=o9 (P:=l.prog) (w:=w) (base:=base) rfl B h__law_next F1 (Y a1);have h__law_sig:=tM (P:=l.prog) (w:=w) (base:=base) rfl B h__law_next F2 (Y a2);have h__law_words:=o_ (P:=l.prog) (w:=w) (base:=base) rfl B h__law_next F3 (Y a3);have h_heads_of:=tO (P:=l.prog) (w:=w) (base:=base) rfl B  F4 (Y a4);have h_end_of_term:=oU (P:=l.prog) (w:=w) (base:=base) rfl B  F5 (Y a5);have h_split:=JM (P:=l.prog) (w:=w) (base:=base) rfl B h_heads_of h_end_of_term F6 (Y a6);have h__law_bare:=qO (P:=l.prog) (w:=w) (base:=base) rfl B  F7 (Y a7);have h__law_program:=nF (P:=l.prog) (w:=w) (base:=base) rfl B h__law_bare F8 (Y a8);have h__law_whole_term:=kE (P:=l.prog) (w:=w) (base:=base) rfl B  F9 (Y a9);exact ZK rfl B h__law_next h__law_names h__law_sig h__law_words h__law_program h_split h__law_whole_term (PX (st:=oN) l10 c10 k10)
theorem walk {l:OpenLaw} {q:Program} {loose:List Str} {XP:(Str->Option Value)->Heap->Prop} {YP:World->Heap->Prop} {d:DefRec} {K:Params->Frag} (main:∀ns:List Int,ns.length<=63->zO [.scr (ns.map D.int)]=.ok (.bl true)) (hn:l.most=some 63) (hdf:d.params.defaults=[])
  (hY:∀(w:World) (h:Heap),YP w h->(K w.params).In h)
  (F:∀(w:World) (mg:Str->Option Value) (fa:Addr) (h:Heap),(K w.params).In h->h.Ns mainGlobals mg->mg d.name=some (.ref fa)->
   ∃fd:FuncData,(∀(s:Shared) (u:Value),BindsTo s fd ⟨[u],[]⟩ [("script",u)])/\∀base:Heap,(K w.params).In base->base.Ns mainGlobals mg->vV l.prog w (K w.params) mg base CX0 3 fa fd ["script"] (@spD ⟨K w.params⟩ zO 1)) :
  WalkO q loose XP YP l.row.toRowW d [] (fun f vs=>PySem.call f vs):=
 L2.R9 (n:=63) (k:=3) (x := "script") (CX:=fun _=>CX0) (sp:=fun w=>@spD ⟨K w.params⟩ zO 1) hn (by decide) hdf ⟨rfl,by decide,by decide⟩ hY F (fun w H a ns hl hO hS=>G9 main hl hO hS) fun _ _ _ _ _ z=>z
end Lk51
end
section
namespace Lk51
open PySem L2 Mi
theorem lK {f:List D->Res D} {n i:Nat} {fs:FA} {ρ rest h h':List D} {r:D} (h1:fs ρ=.ok rest) (h2:t_ (ρ.getD i .uD)=some h) (h3:rest.length+1=n) (h4:ch1 f h rest=.ok (r,h')) (h5:D.aU h'=true) {ρ':List D} (he:ρ.set i (NB (ρ.getD i .uD) h')=ρ'):bZ f n i fs ρ=.ok (r,ρ'):=by
 subst he;unfold bZ;rw [h1,Res.aK,h2];dsimp only;rw [if_pos (decide_eq_true h3),h4,Res.aK];dsimp only;rw [if_pos h5]
theorem gY {i:Nat} {f:FX} {ρ ρ':List D} {d:D} (h:f ρ=.ok (d,ρ')) {ρ2:List D} (he:ρ'.set i d=ρ2):fW false i f ρ=.ok (.nx ρ2):=by
 subst he;unfold fW;rw [h];rfl
theorem QT {f g:FS} {ρ:List D} {d:D} (h:f ρ=.ok (.rt d)):bA f g ρ=.ok (.rt d):=by
 unfold bA;rw [h];rfl
theorem JN {i:Nat} {fk fv:FE} {ρ xs:List D} {d:D} {k:Int} {j:Nat} (h1:fv ρ=.ok d) (h2:fk ρ=.ok (.int k)) (h3:t_ (ρ.getD i .uD)=some xs) (hp:d.pure=true) (hj:ixD xs.length k=some j) {ρ':List D} (he:ρ.set i (NB (ρ.getD i .uD) (xs.set j d))=ρ'):u_ i fk fv ρ=.ok (.nx ρ'):=by
 subst he;unfold u_;rw [h1,Res.aK,h2,Res.aK,h3];dsimp only;rw [if_pos hp,hj]
theorem vL {f:FE} {ρ:List D} {d:D} {k:Bool} (h:f ρ=.ok d) (hp:(k||d.pure)=true):uO f k ρ=.ok (.rt (.tup (d::ρ))):=by
 unfold uO;rw [h,Res.aK,if_pos hp]
theorem xO {i:Nat} {ρ:List D} {d:D} (h:bR i ρ=.ok d) (hp:d.v7=true):pG i ρ=.ok (.rt (.tup (d::ρ))):=by
 unfold pG;rw [h,Res.aK,if_pos hp]
theorem JP {f:FE} {ρ:List D} {d:D} (h:f ρ=.ok d) (hp:d.pure=true):bPu f ρ=.ok d:=by
 unfold bPu;rw [h,Res.aK,if_pos hp]
theorem pM {f:D->D->Res D} {fa:FX} {fb:FE} {ρ ρ1:List D} {x y d:D} (h1:fa ρ=.ok (x,ρ1)) (hp:x.pure=true) (h2:fb ρ1=.ok y) (h3:f x y=.ok d) (hd:d.pure=true):x2L f fa fb ρ=.ok (d,ρ1):=by
 unfold x2L;rw [h1,Res.aK];dsimp only;rw [if_pos hp,h2,Res.aK,h3,Res.aK,if_pos hd]
theorem ZM {f:D->D->Res D} {fa:FE} {fb:FX} {ρ ρ1:List D} {x y d:D} (h1:fa ρ=.ok x) (h2:fb ρ=.ok (y,ρ1)) (h3:f x y=.ok d) (hd:d.pure=true):x2R f fa fb ρ=.ok (d,ρ1):=by
 unfold x2R;rw [h1,Res.aK,h2,Res.aK];dsimp only;rw [h3,Res.aK,if_pos hd]
theorem QV {f:FX} {ρ ρ1:List D} {b:Bool} (h:f ρ=.ok (.bl b,ρ1)):xTB f ρ=.ok (b,ρ1):=by
 unfold xTB;rw [h];rfl
theorem xP {c:FXT} {f g:FS} {ρ ρ1:List D} {k:Bool} {r:Res Fl} (h1:c ρ=.ok (k,ρ1)) (h2:(if k then f ρ1 else g ρ1)=r):UL c f g ρ=r:=by
 unfold UL;rw [h1];exact h2
theorem tQ {k n m:Nat} {f:FS} {ds:List D} {d:D} {ρ:List D} (h:f (ds++List.replicate (m-n) .uD)=.ok (.rt (.tup (d::ρ)))):fnX k n m f ds=.ok (.tup (d::ρ.take k)):=by
 unfold fnX;rw [h];rfl
theorem oV (a b:Int) (h:iT b=true):rR (.int a) (.int b)=.ok (.int (a*b)):=by
 show aN .mul (.int a) (.int b)=_;exact YL a b h
theorem JQ (a:Int) (h1:-10000000000<=a) (h2:a<=10000000000):iT a=true:=by
 unfold iT;rw [Bool.and_eq_true,decide_eq_true_eq,decide_eq_true_eq];lia
theorem ZP (a b:Int):b8 (.ord .le) (.int a) (.int b)=.ok (.bl (decide (a<=b))):=rfl
theorem xQ (a b:Int):b8 (.ord .lt) (.int a) (.int b)=.ok (.bl (decide (a<b))):=rfl
theorem cmp_gt (a b:Int):b8 (.ord .gt) (.int a) (.int b)=.ok (.bl (decide (b<a))):=rfl
theorem jM (a b:Int):b8 .eq (.int a) (.int b)=.ok (.bl (a==b)):=rfl
theorem U8 (a b:Int):b8 .ne (.int a) (.int b)=.ok (.bl (!(a==b))):=rfl
theorem JR (ns:List Int) (i:Int) (h0:0<=i) (h1:i<ns.length):∃n,getD (.scr (ns.map D.int)) (.int i)=.ok (.int n):=by
 have hl:i.toNat<ns.length:=by lia
 refine ⟨ns[i.toNat],?_⟩;show Res.ofOpt ((ixD (ns.map D.int).length i).bind fun j=>(ns.map D.int)[j]?)=_;unfold ixD;rw [if_pos h0,List.length_map,if_pos h1];simp [hl]
def tx (cs:List Nat):Str:=⟨cs.toArray⟩
theorem m7 (cs:List Nat):(tx cs).length=cs.length:=by
 show cs.toArray.size=_;simp
theorem JS (a b:List Nat):tx a++tx b=tx (a++b):=by
 show (⟨a.toArray++b.toArray⟩:Str)=⟨(a++b).toArray⟩
 congr 1
 simp
theorem QW {a b:List Nat} (h:tx a=tx b):a=b:=by
 unfold tx at h;injection h with h
 have:=congrArg Array.toList h;simpa using this
def abc:Str := "abcdefghijklmnopqrstuvwxyz"
theorem ZQ:∀i,i<26->abc.cps.toList[i]?=some (97+i):=by decide +kernel
theorem letter (i:Int) (h0:0<=i) (h1:i<26):getD (.str abc) (.int i)=.ok (.str (tx [97+i.toNat])):=by
 have hl:decide (abc.length<=lim)=true:=by decide +kernel
 have h26:abc.cps.toList.length=26:=by decide +kernel
 have hix:ixD abc.cps.toList.length i=some i.toNat:=by
  unfold ixD;rw [if_pos h0,h26,if_pos (by lia)]
 show (if decide (abc.length<=lim) then Res.ofOpt (((ixD abc.cps.toList.length i).bind fun j=>abc.cps.toList[j]?).map fun c=>D.str ⟨#[c]⟩) else .bad)=_;rw [hl,if_pos rfl,hix];simp only [Option.bind_some];rw [ZQ _ (by lia)];rfl
def dk (cs:List Int) (n:Nat):List D:=[.scr (cs.map D.int),.int n]
theorem lL (cs:List Int) (n:Nat):D.aU (dk cs n)=true:=by
 show ((D.scr (cs.map D.int)).pure&&_)=true;rw [D.pure,mK];rfl
theorem U9 (cs:List Int) (n:Nat) (hn:n<=100000):∃r:Int,∀b,aL [.cel b (dk cs n)]=.ok (.tup [.int r,.cel b (dk cs (n+1))]):=by
 have hl:jF [.scr (cs.map D.int)]=.ok (.int cs.length):=by
  show Res.ok (D.int ((cs.map D.int).length:Int))=_;rw [List.length_map]
 have pre:∀(b:Nat) (R:Res Fl) (g:FS),g [.cel b (dk cs (n+1)),.scr (cs.map D.int),.int n]=R->(bA (bL false 1 (b2 getD oZ iI) false) (bA (bL false 2 (b2 getD oZ cJ) false) (bA (u_ 0 cJ (b2 (aN .add) dH cJ)) g))) [.cel b (dk cs n),.uD,.uD]=R:=fun b R g hg=>by
  refine aJ (ρ':=[.cel b (dk cs n),.scr (cs.map D.int),.uD]) (dM (i:=1) (aH (x:=.cel b (dk cs n)) (y:=.int 0) rfl rfl rfl) (mK cs)) ?_;refine aJ (ρ':=[.cel b (dk cs n),.scr (cs.map D.int),.int n]) (dM (i:=2) (aH (x:=.cel b (dk cs n)) (y:=.int 1) rfl rfl rfl) rfl) ?_;exact aJ (JN (i:=0) (xs:=dk cs n) (k:=1) (j:=1) (d:=.int ((n+1:Nat):Int)) (aH (x:=.int n) (y:=.int 1) rfl rfl rfl) rfl rfl rfl rfl rfl) hg
 have h0:∀(b:Nat) (d:D) (ρ:List D),oM [.cel b (dk cs n),.uD,.uD]=.ok (.rt (.tup (d::.cel b (dk cs (n+1))::ρ)))->aL [.cel b (dk cs n)]=.ok (.tup [d,.cel b (dk cs (n+1))]):=fun b d ρ h=>tQ (k:=1) (ρ:=.cel b (dk cs (n+1))::ρ) h
 by_cases h1:n<cs.length
 ·obtain ⟨r,hr⟩:=JR cs n (by lia) (by lia);refine ⟨r,fun b=>h0 b _ _ (pre b _ _ (QT (KJ (d7 (aH rfl (bG (aF rfl rfl) hl) ((xQ _ _).trans (by rw [decide_eq_true (by lia)])))) (vL (aH rfl rfl hr) rfl))))⟩
 ·have c1:∀b:Nat,(sIf (bTB (b2 (b8 (.ord .lt)) dH (bD jF (aB fL aR)))) (uO (b2 getD fL dH) false) (lU)) [.cel b (dk cs (n+1)),.scr (cs.map D.int),.int n]=.ok (.nx [.cel b (dk cs (n+1)),.scr (cs.map D.int),.int n]):=fun b=>wW (d7 (aH rfl (bG (aF rfl rfl) hl) ((xQ _ _).trans (by rw [decide_eq_false (by lia)])))) rfl
  have hs:iT (n:Int)=true:=JQ _ (by lia) (by lia);by_cases h2:cs.length=0
  ·refine ⟨(n:Int)*n*3+n,fun b=>h0 b _ _ (pre b _ _ (aJ (c1 b) (QT (KJ (d7 (aH (bG (aF rfl rfl) hl) rfl ((jM _ _).trans (by rw [h2];rfl)))) (vL (aH (aH (aH rfl rfl (oV _ _ hs)) rfl (oV _ _ rfl)) rfl (cY _ _)) rfl)))))⟩
  ·have hp:(0:Int)<cs.length:=by lia
   obtain ⟨r,hr⟩:=JR cs ((n:Int) % cs.length) (Int.emod_nonneg _ (by lia)) (Int.emod_lt_of_pos _ hp);refine ⟨r / 2+n*n,fun b=>h0 b _ _ (pre b _ _ (aJ (c1 b) (aJ (ρ':=[.cel b (dk cs (n+1)),.scr (cs.map D.int),.int n]) (wW (d7 (aH (bG (aF rfl rfl) hl) rfl ((jM _ _).trans ?_))) rfl) (vL (aH (aH (aH rfl (aH rfl (bG (aF rfl rfl) hl) (bV _ _ hp)) hr) rfl (cV _ _ (by decide) (by decide))) (aH rfl rfl (oV _ _ hs)) (cY _ _)) rfl))))⟩;have:((cs.length:Int)==0)=false:=by simpa using h2
   rw [this]
theorem gZ (cs:List Int) (n:Nat) (hn:n<=100000):∃r:Int,ch1 aL (dk cs n) []=.ok (.int r,dk cs (n+1)):=by
 obtain ⟨r,h⟩:=U9 cs n hn;exact ⟨r,xG h⟩
theorem pA {cs:List Int} {n:Nat} {i:Nat} {ρ:List D} {r:Int} (e:ch1 aL (dk cs n) []=.ok (.int r,dk cs (n+1))) (h2:t_ (ρ.getD i .uD)=some (dk cs n)) {ρ':List D} (he:ρ.set i (NB (ρ.getD i .uD) (dk cs (n+1)))=ρ'):bZ aL 1 i aR ρ=.ok (.int r,ρ'):=
 lK (fs:=aR) (rest:=[]) (h:=dk cs n) (h':=dk cs (n+1)) rfl h2 rfl e (lL cs (n+1)) he
end Lk51
end
section
namespace Lk51
open PySem L2 Mi
def one (c:Nat):Str:=⟨#[c]⟩
theorem tR:∀(cs:List Nat) (a:Array Nat),((cs.map one).foldl (fun acc p=>acc++("" : Str).cps++p.cps) a)=a++cs.toArray
 | [],a=>by simp
 | c::cs,a=>by
  rw [List.map_cons,List.foldl_cons,tR cs];apply Array.ext';simp [one,show (("" : Str).cps)=#[] from rfl]
theorem join_one (cs:List Nat):Txt.join ("" : Str) (cs.map one)=tx cs:=by
 unfold Txt.join Builtin.Str.glued tx;cases cs with
 | nil=>rfl
 | cons c cs=>
  rw [List.map_cons,List.drop_succ_cons,List.drop_zero,List.headD_cons,tR]
  congr 1
  apply Array.ext';simp [one]
theorem tU:∀cs:List Nat,oH (cs.map fun c=>D.str (one c))=some (cs.map one)
 | []=>rfl
 | c::cs=>by
  show (oH (cs.map fun c=>D.str (one c))).map (one c::·)=_;rw [tU cs];rfl
theorem U_ (cs:List Nat) (h:cs.length<=100):joinM (.str "") [.lst (cs.map fun c=>D.str (one c))]=.ok (.str (tx cs)):=by
 show (match oH (cs.map fun c=>D.str (one c)) with|some ts=>if JoinOk "" ts then Res.ok (D.str (Txt.join "" ts)) else .bad|none=>.bad)=_;rw [tU];show (if JoinOk "" (cs.map one) then Res.ok (D.str (Txt.join "" (cs.map one))) else .bad)=_;have hok:JoinOk "" (cs.map one)=true:=by
  unfold JoinOk;rw [StrLaws.joinFits (B:=1) (fun y hy=>by obtain ⟨c,_,rfl⟩:=List.mem_map.mp hy;exact Nat.le_refl _) (by rw [List.length_map,show (("" : Str).length)=0 from rfl];lia)];rfl
 rw [if_pos hok,join_one]
theorem aCv {a b:FT} {ρ:List D} (h1:a ρ=.ok true):bOr a b ρ=.ok true:=by
 unfold bOr;rw [h1];rfl
theorem ZR {a b:FT} {ρ:List D} {r:Res Bool} (h1:a ρ=.ok false) (h2:b ρ=r):bOr a b ρ=r:=by
 unfold bOr;rw [h1];exact h2
theorem aBi {a b:FT} {ρ:List D} {x y:Bool} (h1:a ρ=.ok x) (h2:b ρ=.ok y):bOr a b ρ=.ok (x||y):=by
 cases x with
 | true=>exact aCv h1
 | false=>exact ZR h1 h2
noncomputable def nb:FS:=(bA (bL false 11 (b2 (aN .mod) (b2 (aN .add) (b2 rR j8 cF) cL) jX) true) (sIf (bTB (b2 (b8 .eq) (b2 (aN .mod) dH gU) cJ)) (pQ 9 (b2 rR (b2 getD fL (b2 (aN .mod) (b2 (aN .add) cL (b2 (aN .mod) gR vZ)) jX)) (b2 (aN .add) cJ (b2 (aN .fdiv) gR vZ)))) (sIf (bTB (b2 (b8 .eq) (b2 (aN .mod) dH gU) gW)) (bA (bL false 12 (b2 getD fL (b2 (aN .mod) (b2 (aN .add) cL (b2 (aN .mod) gR KH)) jX)) false) (bA (bL false 13 (b2 getD fL (b2 (aN .mod) (b2 (aN .add) cL (b2 (aN .fdiv) gR KH)) jX)) false) (pQ 9 (b2 (aN .add) (b2 (aN .add) (b2 (aN .add) (iY kI (eO) (cN m_)) nA) eU) (iY kI (cN m_) (eO)))))) (pQ 9 (b2 (aN .add) (b2 (aN .add) (iY kI (eO) (cN m_)) (b2 getD fL gR)) (iY kI (cN m_) (eO)))))))
theorem fQ {a:FE} {ρ:List D} {i:Int} (h:a ρ=.ok (.int i)):cN a ρ=.ok (some i):=by
 unfold cN;rw [h];rfl
theorem vM {a:FE} {lo hi:List D->Res (Option Int)} {ρ:List D} {x:Str} {l h:Option Int} (h1:a ρ=.ok (.str x)) (h2:lo ρ=.ok l) (h3:hi ρ=.ok h) (hx:x.length<=1000):iY a lo hi ρ=.ok (.str (Txt.slice x l h)):=by
 unfold iY;rw [h1,Res.aK,h2,Res.aK,h3,Res.aK];show (if decide (x.length<=lim) then Res.ok (D.str (Txt.slice x l h)) else .bad)=_;rw [if_pos (by rw [a_];exact decide_eq_true (by lia))]
theorem QX (x:Str):tx x.cps.toList=x:=rfl
theorem VB (c:Nat) (n:Nat) (h:1<=n):Txt.mul (tx [c]) (n:Int)=tx (List.replicate n c):=by
 unfold Txt.mul;rw [if_neg (by lia)];split
 ·rename_i h1;have:n=1:=by
   simp [m7] at h1;lia
  subst this;rfl
 ·have:∀(m:Nat) (a:List Nat),(List.replicate m (tx [c]).cps).foldl (·++·) a.toArray=(a++List.replicate m c).toArray:=by
   intro m;induction m with
   | zero=>intro a;simp
   | succ m ih=>
    intro a;rw [List.replicate_succ,List.foldl_cons];have:a.toArray++(tx [c]).cps=(a++[c]).toArray:=by
     apply Array.ext';simp [tx]
    rw [this,ih,List.replicate_succ];simp
  have e:=this n [];rw [Int.toNat_natCast];show (⟨_⟩:Str)=⟨_⟩
  congr 1
theorem N7 (c:Nat) (n:Nat) (h:1<=n) (h2:n<=100):rR (.str (tx [c])) (.int n)=.ok (.str (tx (List.replicate n c))):=by
 show (if decide (0<=(n:Int))&&decide ((n:Int)<=100000)&&decide ((tx [c]).length*(n:Int).toNat<=lim) then Res.ok (D.str (Txt.mul (tx [c]) n)) else .bad)=_;have e3:decide ((tx [c]).length*(n:Int).toNat<=lim)=true:=by
  rw [m7,a_];simp;lia
 rw [e3,decide_eq_true (by lia),decide_eq_true (by lia),VB c n h];rfl
noncomputable abbrev ns (hD:D) (choice turn shift cell size:Int) (base:Str) (at_:Int) (NM:List D) (a b c d:D):List D:=[hD,.str abc,.int choice,.int turn,.int shift,.int cell,.int size,.str base,.int at_,.lst NM,a,b,c,d]
structure Nmf (nm:Nat->List Nat):Prop where
 inj:∀s t,s<26->t<26->nm s=nm t->s=t
 len:∀s,s<26->(nm s).length<=100
theorem JT (x:Int):∃s:Nat,s<26/\x % 26=s:=⟨(x % 26).toNat,by lia,by lia⟩
theorem JV {P Q A B:List Nat} (h:P++A++Q=P++B++Q):A=B:=by
 rw [List.append_assoc,List.append_assoc] at h;exact List.append_cancel_right (List.append_cancel_left h)
theorem N8 {choice turn shift cell size at_:Int} {base:Str} (hb:base.length<=10) (ht:iT turn=true) (hs0:0<=shift) (hs1:shift<26) :
  ∃nm:Nat->List Nat,Nmf nm/\∀(k:Int) (s:Nat),s<26->(k*turn+shift) % 26=s->∀(NM:List D) (b c d:D),NM.length<100->∃b' c' d',∀hD,nb (ns hD choice turn shift cell size base at_ NM (.int k) b c d)=.ok (.nx (ns hD choice turn shift cell size base at_ (NM++[.str (tx (nm s))]) (.int k) b' c' d')):=by
 have sp:∀(k:Int) (s:Nat) (hD:D) (NM:List D) (b c d:D),(k*turn+shift) % 26=s->bL false 11 (b2 (aN .mod) (b2 (aN .add) (b2 rR j8 cF) cL) jX) true (ns hD choice turn shift cell size base at_ NM (.int k) b c d)=.ok (.nx (ns hD choice turn shift cell size base at_ NM (.int k) (.int s) c d)):=fun k s hD NM b c d e=>by
  rw [<-e];exact cD (aH (aH (aH (x:=.int k) (y:=.int turn) rfl rfl (oV _ _ ht)) rfl (cY _ _)) rfl (bV _ _ (by decide)))
 have cm:∀(ρ:List D) (j:Int),bR 2 ρ=.ok (.int choice)->bTB (b2 (b8 .eq) (b2 (aN .mod) dH gU) (bC (.int j))) ρ=.ok (choice % 3==j):=fun ρ j h=>d7 (aH (aH h rfl (bV _ _ (by decide))) rfl (jM _ _))
 have lt:∀(ρ:List D) (f:FE) (i:Int) ,bR 1 ρ=.ok (.str abc)->f ρ=.ok (.int i)->0<=i->i<26->b2 getD fL f ρ=.ok (.str (tx [97+i.toNat])):=fun ρ f i h1 h2 h3 h4=>aH h1 h2 (letter i h3 h4)
 obtain ⟨P,hP,lP⟩:∃P,Txt.slice base none (some at_)=tx P/\P.length<=10:=⟨_,(QX _).symm,Nat.le_trans (Txt.slice_le ..) hb⟩
 obtain ⟨Q,hQ,lQ⟩:∃P,Txt.slice base (some at_) none=tx P/\P.length<=10:=⟨_,(QX _).symm,Nat.le_trans (Txt.slice_le ..) hb⟩
 have ap:∀(a b:List Nat),a.length<=100->b.length<=100->aN .add (.str (tx a)) (.str (tx b))=.ok (.str (tx (a++b))):=fun a b h1 h2=>by
  rw [HF _ _ (by rw [m7,m7,a_];lia),JS]
 have slP:∀ρ:List D,bR 7 ρ=.ok (.str base)->bR 8 ρ=.ok (.int at_)->iY kI (eO) (cN m_) ρ=.ok (.str (tx P)):=fun ρ g1 g2=>by
  rw [<-hP];exact vM g1 rfl (fQ g2) (by lia)
 have slQ:∀ρ:List D,bR 7 ρ=.ok (.str base)->bR 8 ρ=.ok (.int at_)->iY kI (cN m_) (eO) ρ=.ok (.str (tx Q)):=fun ρ g1 g2=>by
  rw [<-hQ];exact vM g1 (fQ g2) rfl (by lia)
 by_cases h1:choice % 3=1
 ·refine ⟨fun s=>List.replicate (1+s / 4) (97+((shift+((s:Int) % 4)) % 26).toNat),⟨fun s t hs ht e=>?_,fun s hs=>by rw [List.length_replicate];lia⟩,fun k s hs hk NM b c d hN=>⟨.int s,c,d,fun hD=>?_⟩⟩
  ·have e1:=congrArg List.length e;rw [List.length_replicate,List.length_replicate] at e1;have e2:=congrArg (fun l=>l.head?) e;simp only [Nat.add_comm 1,List.replicate_succ,List.head?_cons,Option.some.injEq] at e2;lia
  ·refine aJ (sp k s hD NM b c d hk) (KJ ((cm _ _ rfl).trans (by rw [h1];rfl)) ?_);refine mZ (xs:=NM) (aH (lt _ _ _ rfl (aH (aH (x:=.int shift) rfl (aH (x:=.int s) rfl rfl (bV _ _ (by decide))) (cY _ _)) rfl (bV _ _ (by decide))) (by lia) (by lia)) (aH (y:=.int ((s:Int) / 4)) (x:=.int 1) rfl (aH (x:=.int s) rfl rfl (cV _ _ (by decide) (by decide))) (z:=.int ((1+s / 4:Nat):Int)) ?_) (N7 _ _ (by lia) (by lia))) rfl (by rw [a_];lia) rfl;rw [cY]
   congr 2
 ·by_cases h2:choice % 3=2
  ·refine ⟨fun s=>P++[97+((shift+((s:Int) % 6)) % 26).toNat,97+((shift+((s:Int) / 6)) % 26).toNat]++Q,⟨fun s t hs ht e=>?_,fun s hs=>by simp only [List.length_append,List.length_cons,List.length_nil];lia⟩,fun k s hs hk NM b c d hN=>⟨.int s,.str (tx [97+((shift+((s:Int) % 6)) % 26).toNat]),.str (tx [97+((shift+((s:Int) / 6)) % 26).toNat]),fun hD=>?_⟩⟩
   ·have e1:=JV e;simp only [List.cons.injEq,and_true] at e1;lia
   ·refine aJ (sp k s hD NM b c d hk) (wW ((cm _ _ rfl).trans (by rw [h2];rfl)) (KJ ((cm _ _ rfl).trans (by rw [h2];rfl)) ?_));refine aJ (dM (lt _ _ _ rfl (aH (aH (x:=.int shift) rfl (aH (x:=.int s) rfl rfl (bV _ _ (by decide))) (cY _ _)) rfl (bV _ _ (by decide))) (by lia) (by lia)) rfl) ?_;refine aJ (dM (lt _ _ _ rfl (aH (aH (x:=.int shift) rfl (aH (x:=.int s) rfl rfl (cV _ _ (by decide) (by decide))) (cY _ _)) rfl (bV _ _ (by decide))) (by lia) (by lia)) rfl) ?_;refine (mZ (xs:=NM) (aH (aH (aH (slP _ rfl rfl) rfl (ap _ _ (by lia) (by simp))) rfl (ap _ _ (by simp only [List.length_append,List.length_singleton];lia) (by simp))) (slQ _ rfl rfl) (ap _ _ (by simp only [List.length_append,List.length_singleton];lia) (by lia))) rfl (by rw [a_];lia) rfl).trans ?_;simp only [List.append_assoc,List.cons_append,List.nil_append];rfl
  ·refine ⟨fun s=>P++[97+s]++Q,⟨fun s t hs ht e=>?_,fun s hs=>by simp only [List.length_append,List.length_cons,List.length_nil];lia⟩,fun k s hs hk NM b c d hN=>⟨.int s,c,d,fun hD=>?_⟩⟩
   ·have e1:=JV e;simp only [List.cons.injEq,and_true] at e1;lia
   ·refine aJ (sp k s hD NM b c d hk) (wW ((cm _ _ rfl).trans (by rw [beq_eq_false_iff_ne.mpr h1])) (wW ((cm _ _ rfl).trans (by rw [beq_eq_false_iff_ne.mpr h2])) ?_));refine (mZ (xs:=NM) (aH (aH (slP _ rfl rfl) (lt _ _ s rfl rfl (by lia) (by lia)) (ap _ _ (by lia) (by simp))) (slQ _ rfl rfl) (ap _ _ (by simp only [List.length_append,List.length_singleton];lia) (by lia))) rfl (by rw [a_];lia) rfl).trans ?_;rw [Int.toNat_natCast];rfl
theorem pN {choice turn shift cell size at_:Int} {base:Str} {nm:Nat->List Nat} (G:∀(k:Int) (s:Nat),s<26->(k*turn+shift) % 26=s->∀(NM:List D) (b c d:D),NM.length<100->∃b' c' d',∀hD,nb (ns hD choice turn shift cell size base at_ NM (.int k) b c d)=.ok (.nx (ns hD choice turn shift cell size base at_ (NM++[.str (tx (nm s))]) (.int k) b' c' d'))):∀(m j:Nat) (NM:List D) (a b c d:D),NM.length+m<100->∃a' b' c' d',∀hD,nH (tg1 10) nb ((List.range' j m).map fun (k:Nat)=>D.int (0+(k:Int))) (ns hD choice turn shift cell size base at_ NM a b c d)=.ok (.nx (ns hD choice turn shift cell size base at_ (NM++(List.range' j m).map fun (k:Nat)=>D.str (tx (nm (((k:Int)*turn+shift) % 26).toNat))) a' b' c' d'))
 | 0,j,NM,a,b,c,d,_=>⟨a,b,c,d,fun hD=>by
  rw [List.range'_zero,List.map_nil,List.map_nil,List.append_nil];rfl⟩
 | m+1,j,NM,a,b,c,d,h=>by
  obtain ⟨s,hs,es⟩:=JT ((j:Int)*turn+shift);obtain ⟨b1,c1,d1,e1⟩:=G (0+(j:Int)) s hs (by rw [Int.zero_add];exact es) NM b c d (by lia);obtain ⟨a2,b2,c2,d2,e2⟩:=pN G m (j+1) (NM++[.str (tx (nm s))]) (.int (0+(j:Int))) b1 c1 d1 (by rw [List.length_append,List.length_singleton];lia);refine ⟨a2,b2,c2,d2,fun hD=>?_⟩;rw [List.range'_succ,List.map_cons,List.map_cons,es,Int.toNat_natCast];refine dD (ρ1:=ns hD choice turn shift cell size base at_ NM (.int (0+(j:Int))) b c d) rfl (e1 hD) ?_;rw [e2 hD,List.append_assoc];rfl
theorem VD (i:Int) (h0:0<=i) (h1:i<6):∃t:Int,getD (.lst [.int 1,.int 3,.int 5,.int 7,.int 9,.int 25]) (.int i)=.ok (.int t)/\(t=1\/t=3\/t=5\/t=7\/t=9\/t=25):=by
 have:i=0\/i=1\/i=2\/i=3\/i=4\/i=5:=by lia
 rcases this with h|h|h|h|h|h <;> subst h
 ·exact ⟨1,rfl,by decide⟩
 ·exact ⟨3,rfl,by decide⟩
 ·exact ⟨5,rfl,by decide⟩
 ·exact ⟨7,rfl,by decide⟩
 ·exact ⟨9,rfl,by decide⟩
 ·exact ⟨25,rfl,by decide⟩
theorem N_ {t s:Int} (ht:t=1\/t=3\/t=5\/t=7\/t=9\/t=25) {j k:Nat} (hj:j<26) (hk:k<26) (h:((j:Int)*t+s) % 26=((k:Int)*t+s) % 26):j=k:=by
 rcases ht with e|e|e|e|e|e <;> subst e <;> lia
end Lk51
end
section
namespace Lk51
open PySem L2 Mi
theorem tV (n:Nat):∀N:List Str,D.bY n (N.map D.str)=true
 | []=>by rw [List.map_nil,D.bY]
 | x::N=>by
  rw [List.map_cons,D.bY,tV n N];rw [D.bK] <;> simp
theorem xR (x:Str):(D.str x).bK aQ=true:=by
 unfold aQ;rw [D.bK] <;> simp
theorem tW:∀N:List Str,D.aU (N.map D.str)=true
 | []=>rfl
 | x::N=>by
  rw [List.map_cons,D.aU,tW N];rfl
theorem JW (x:Str):∀N:List Str,(N.map D.str).any (fun y=>eqD y (.str x))=decide (x∈N)
 | []=>rfl
 | y::N=>by
  rw [List.map_cons,List.any_cons,JW x N];show ((y==x)||_)=_;by_cases h:y=x
  ·simp [h]
  ·have h2:¬x=y:=fun e=>h e.symm
   simp [h,h2]
theorem in_str (x:Str) (N:List Str):b8 .isin (.str x) (.lst (N.map D.str))=.ok (.bl (decide (x∈N))):=by
 show (if (D.str x).bK aQ&&D.bY aQ (N.map D.str) then Res.ok (D.bl ((N.map D.str).any fun y=>eqD y (.str x))) else .bad)=_;rw [xR,tV,JW];rfl
theorem dY {a:FE} {ρ:List D} {xs:List D} {fr:Bool} (h:a ρ=.ok (.lst xs)):bJ a fr ρ=.ok (xs,fr):=by
 unfold bJ;rw [h,Res.aK];show Res.ok (xs,fr||false)=_;rw [Bool.or_false]
theorem jV {a:FE} {ρ:List D} {xs:List D} {fr:Bool} (h:a ρ=.ok (.tup xs)):bJ a fr ρ=.ok (xs,fr||D.aU xs):=by
 unfold bJ;rw [h,Res.aK];show Res.ok (xs,fr||(D.tup xs).pure)=_;rw [D.pure]
theorem fX {α:Type} {n:Nat} {it:FI} {f:FE} {k kk:Bool} {ρ:List D} (d y:α->D) (xs:List α) (hρ:ρ.length=n) (h1:it ρ=.ok (xs.map d,kk)) (h2:xs.length<=100000) (h3:∀a∈xs,f (ρ++[d a])=.ok (y a)/\(k||(y a).pure)=true):cG n it i_ fG f k ρ=.ok (.lst (xs.map y)):=by
 refine HD h1 (by rw [List.length_map,a_];lia) ?_;have:∀(xs:List α) (acc:List D),(∀a∈xs,f (ρ++[d a])=.ok (y a)/\(k||(y a).pure)=true)->nD (uN n i_ fG f k ρ) acc (xs.map d)=.ok (acc++xs.map y):=by
  intro xs;induction xs with
  | nil=>intro acc _;simp [nD]
  | cons x xs ih=>
   intro acc h;rw [List.map_cons,nD,rZ hρ (b:=true) rfl fun _=>h x (List.mem_cons_self ..)];show nD _ (acc++[y x]) _=_;rw [ih _ fun a ha=>h a (List.mem_cons_of_mem _ ha),List.append_assoc];rfl
 exact (this xs [] h3).trans (by rw [List.nil_append])
theorem oW {α:Type} {n:Nat} {it:FI} {c:FT} {f:FE} {k kk:Bool} {ρ:List D} (d y:α->D) (p:α->Bool) (xs:List α) (hρ:ρ.length=n) (h1:it ρ=.ok (xs.map d,kk)) (h2:xs.length<=100000) (hc:∀a∈xs,c (ρ++[d a])=.ok (p a)) (h3:∀a∈xs,p a=true->f (ρ++[d a])=.ok (y a)/\(k||(y a).pure)=true):cG n it i_ c f k ρ=.ok (.lst ((xs.filter p).map y)):=by
 refine HD h1 (by rw [List.length_map,a_];lia) ?_;have:∀(xs:List α) (acc:List D),(∀a∈xs,c (ρ++[d a])=.ok (p a))->(∀a∈xs,p a=true->f (ρ++[d a])=.ok (y a)/\(k||(y a).pure)=true)->nD (uN n i_ c f k ρ) acc (xs.map d)=.ok (acc++(xs.filter p).map y):=by
  intro xs;induction xs with
  | nil=>intro acc _ _;simp [nD]
  | cons x xs ih=>
   intro acc hc h;rw [List.map_cons,nD,rZ hρ (hc x (List.mem_cons_self ..)) fun e=>h x (List.mem_cons_self ..) e];show nD _ _ _=_;rw [ih _ (fun a ha=>hc a (List.mem_cons_of_mem _ ha)) fun a ha=>h a (List.mem_cons_of_mem _ ha)];by_cases hp:p x
   ·simp [hp]
   ·simp [hp]
 exact (this xs [] hc h3).trans (by rw [List.nil_append])
theorem ZS {f:D->List D->Res D} {o:FE} {a:FA} {ρ:List D} {x:D} {xs:List D} {r:Res D} (h1:o ρ=.ok x) (h2:a ρ=.ok xs) (h3:f x xs=r):bM f o a ρ=r:=by
 unfold bM;rw [h1,Res.aK,h2,Res.aK,h3]
theorem aBj (a b:List Nat) (h:tx a++("e" : Str)=tx b++("e" : Str)):a=b:=by
 have e:("e" : Str)=tx [101]:=rfl;rw [e,JS,JS] at h;exact List.append_cancel_right (QW h)
theorem OD (cs:List Int) (n:Nat) (hn:n+3<=100000):∃N:List Str,N.length=26/\N.Nodup/\∀b,dR [.cel b (dk cs n)]=.ok (.tup [.lst (N.map D.str),.cel b (dk cs (n+3))]):=by
 obtain ⟨choice,q1⟩:=gZ cs n (by lia);obtain ⟨cell,q2⟩:=gZ cs (n+1) (by lia);obtain ⟨raw,q3⟩:=gZ cs (n+2) (by lia);obtain ⟨turn,t1,t2⟩:=VD (choice / 3 % 6) (by lia) (by lia)
 let shift:=choice / 18 % 26
 have hs0:0<=shift:=by show 0<=choice / 18 % 26;lia
 have hs1:shift<26:=by show choice / 18 % 26<26;lia
 let size:=cell % 8
 have hz0:0<=size:=by show 0<=cell % 8;lia
 have hz1:size<8:=by show cell % 8<8;lia
 let bcs:List Nat:=(List.range size.toNat).map fun (k:Nat)=>97+((cell / 8+(0+(k:Int))*(shift+cell / 40 % 5)) % 26).toNat
 have hbl:bcs.length<=10:=by show (List.map _ _).length<=10;rw [List.length_map,List.length_range];lia
 let at_:=raw % (size+1)
 let base:Str:=if choice % 3=2 then Txt.slice (tx bcs) none (some 6) else tx bcs
 have hbase:base.length<=10:=by
  show (if choice % 3=2 then Txt.slice (tx bcs) none (some 6) else tx bcs).length<=10;split
  ·exact Nat.le_trans (Txt.slice_le ..) (by rw [m7];exact hbl)
  ·rw [m7];exact hbl
 have hts:iT turn=true:=wY _ (by lia) (by lia);obtain ⟨nm,M,G⟩:=N8 (choice:=choice) (turn:=turn) (shift:=shift) (cell:=cell) (size:=size) (at_:=at_) hbase hts hs0 hs1;obtain ⟨a',b',c',d',L⟩:=pN G 26 0 [] .uD .uD .uD .uD (by decide)
 let sp:Nat->Nat:=fun k=>(((k:Int)*turn+shift) % 26).toNat
 have spl:∀k,sp k<26:=fun k=>by show (((k:Int)*turn+shift) % 26).toNat<26;lia
 have spi:∀j k,j<26->k<26->sp j=sp k->j=k:=fun j k hj hk e=>N_ (s:=shift) t2 hj hk (by
  have e':(((j:Int)*turn+shift) % 26).toNat=(((k:Int)*turn+shift) % 26).toNat:=e;lia)
 have nod:∀g:List Nat->Str,(∀a b,g a=g b->a=b)->((List.range' 0 26).map fun k=>g (nm (sp k))).Nodup:=fun g hg=>by
  rw [List.nodup_iff_pairwise_ne,List.pairwise_map];refine List.Pairwise.imp_of_mem ?_ (List.nodup_iff_pairwise_ne.mp (List.nodup_range' (s:=0) (n:=26) (step:=1) (by decide)));intro j k hj hk hne e;rw [List.mem_range'_1] at hj hk;exact hne (spi j k (by lia) (by lia) (M.inj _ _ (spl j) (spl k) (hg _ _ e)))
 have pre:∀(b:Nat) (R:Res Fl) (g:FS),g (ns (.cel b (dk cs (n+3))) choice turn shift cell size base at_ (((List.range' 0 26).map fun k=>tx (nm (sp k))).map D.str) a' b' c' d')=R->(bA (bL false 1 (bC (.str "abcdefghijklmnopqrstuvwxyz")) true) (bA (fW false 2 (bZ aL 1 0 aR)) (bA (bL false 3 (b2 getD (iV (aB cJ (aB gU (aB XJ (aB (bC (.int 7)) (aB aAg (aB (bC (.int 25)) aR))))))) (b2 (aN .mod) (b2 (aN .fdiv) dH gU) KH)) false) (bA (bL false 4 (b2 (aN .mod) (b2 (aN .fdiv) dH (bC (.int 18))) jX) true) (bA (fW false 5 (bZ aL 1 0 aR)) (bA (bL false 6 (b2 (aN .mod) fO SM) true) (bA (bL false 7 (bM joinM (bC (.str "")) (aB (cG 14 (iW (aB pF aR) gH) i_ (fG) (b2 getD fL (b2 (aN .mod) (b2 (aN .add) (b2 (aN .fdiv) fO SM) (b2 rR gQ (b2 (aN .add) cL (b2 (aN .mod) (b2 (aN .fdiv) fO DX) XJ)))) jX)) false) aR)) true) (bA (fW false 8 (x2L (aN .mod) (bZ aL 1 0 aR) (b2 (aN .add) pF cJ))) (bA (sIf (bTB (b2 (b8 .eq) (b2 (aN .mod) dH gU) gW)) (bL false 7 (iY kI (eO) (cN KH)) true) (lU)) (bA (bL true 9 (iV aR) true) (bA (E_ (iW (aB jX aR) gH) (tg1 10) nb) g))))))))))) [.cel b (dk cs n),.uD,.uD,.uD,.uD,.uD,.uD,.uD,.uD,.uD,.uD,.uD,.uD,.uD]=R:=fun b R g hg=>by
  refine aJ (ρ':=[.cel b (dk cs n),.str abc,.uD,.uD,.uD,.uD,.uD,.uD,.uD,.uD,.uD,.uD,.uD,.uD]) (cD (i:=1) rfl) ?_;refine aJ (ρ':=[.cel b (dk cs (n+1)),.str abc,.int choice,.uD,.uD,.uD,.uD,.uD,.uD,.uD,.uD,.uD,.uD,.uD]) (gY (i:=2) (pA q1 rfl rfl) rfl) ?_;refine aJ (ρ':=[.cel b (dk cs (n+1)),.str abc,.int choice,.int turn,.uD,.uD,.uD,.uD,.uD,.uD,.uD,.uD,.uD,.uD]) (dM (i:=3) (aH rfl (aH (aH rfl rfl (cV _ _ (by decide) (by decide))) rfl (bV _ _ (by decide))) t1) rfl) ?_;refine aJ (ρ':=[.cel b (dk cs (n+1)),.str abc,.int choice,.int turn,.int shift,.uD,.uD,.uD,.uD,.uD,.uD,.uD,.uD,.uD]) (cD (i:=4) (aH (aH rfl rfl (cV _ _ (by decide) (by decide))) rfl (bV _ _ (by decide)))) ?_;refine aJ (ρ':=[.cel b (dk cs (n+2)),.str abc,.int choice,.int turn,.int shift,.int cell,.uD,.uD,.uD,.uD,.uD,.uD,.uD,.uD]) (gY (i:=5) (pA q2 rfl rfl) rfl) ?_;refine aJ (ρ':=[.cel b (dk cs (n+2)),.str abc,.int choice,.int turn,.int shift,.int cell,.int size,.uD,.uD,.uD,.uD,.uD,.uD,.uD]) (cD (i:=6) (aH rfl rfl (bV _ _ (by decide)))) ?_;refine aJ (ρ':=[.cel b (dk cs (n+2)),.str abc,.int choice,.int turn,.int shift,.int cell,.int size,.str (tx bcs),.uD,.uD,.uD,.uD,.uD,.uD]) (cD (i:=7) ?_) ?_
  ·have hc:=fX (n:=14) (it:=iW (aB pF aR) gH) (f:=b2 getD fL (b2 (aN .mod) (b2 (aN .add) (b2 (aN .fdiv) fO SM) (b2 rR gQ (b2 (aN .add) cL (b2 (aN .mod) (b2 (aN .fdiv) fO DX) XJ)))) jX)) (k:=false) (ρ:=[.cel b (dk cs (n+2)),.str abc,.int choice,.int turn,.int shift,.int cell,.int size,.uD,.uD,.uD,.uD,.uD,.uD,.uD]) (fun k:Nat=>D.int (0+(k:Int))) (fun k:Nat=>.str (one (97+((cell / 8+(0+(k:Int))*(shift+cell / 40 % 5)) % 26).toNat))) (List.range size.toNat) rfl (oJ (n:=size) (aF rfl rfl) (by lia) (by lia)) (by rw [List.length_range];lia) (fun k _=>⟨aH (x:=.str abc) rfl (aH (aH (aH (x:=.int cell) rfl rfl (cV _ _ (by decide) (by decide))) (aH (x:=.int (0+(k:Int))) rfl (aH (x:=.int shift) rfl (aH (aH (x:=.int cell) rfl rfl (cV _ _ (by decide) (by decide))) rfl (bV _ _ (by decide))) (cY _ _)) (oV _ _ (wY _ (by lia) (by lia)))) (cY _ _)) rfl (bV _ _ (by decide))) (letter _ (by lia) (by lia)),rfl⟩);have hj:=U_ bcs (by lia);rw [List.map_map] at hj;exact ZS rfl (aF hc rfl) hj
  refine aJ (ρ':=[.cel b (dk cs (n+3)),.str abc,.int choice,.int turn,.int shift,.int cell,.int size,.str (tx bcs),.int at_,.uD,.uD,.uD,.uD,.uD]) (gY (i:=8) (pM (pA q3 rfl rfl) rfl (aH (x:=.int size) rfl rfl (cY _ _)) (bV _ _ (by lia)) rfl) rfl) ?_;refine aJ (ρ':=[.cel b (dk cs (n+3)),.str abc,.int choice,.int turn,.int shift,.int cell,.int size,.str base,.int at_,.uD,.uD,.uD,.uD,.uD]) ?_ ?_
  ·by_cases h2:choice % 3=2
   ·have eb:base=Txt.slice (tx bcs) none (some 6):=if_pos h2;rw [eb];exact KJ (d7 (aH (aH rfl rfl (bV _ _ (by decide))) rfl ((jM _ _).trans (by rw [h2];rfl)))) (cD (i:=7) (vM (x:=tx bcs) rfl rfl (fQ rfl) (by rw [m7];lia)))
   ·have eb:base=tx bcs:=if_neg h2;rw [eb];exact wW (d7 (aH (aH rfl rfl (bV _ _ (by decide))) rfl ((jM _ _).trans (by rw [beq_eq_false_iff_ne.mpr h2])))) rfl
  refine aJ (ρ':=ns (.cel b (dk cs (n+3))) choice turn shift cell size base at_ [] .uD .uD .uD .uD) (eG (i:=9) rfl rfl) ?_;refine aJ (rY (oJ (n:=26) (aF rfl rfl) (by decide) (by decide)) ?_) hg;have e:=L (.cel b (dk cs (n+3)));rw [List.nil_append] at e;rw [List.map_map];exact e
 generalize hN0:((List.range' 0 26).map fun k=>tx (nm (sp k)))=N0 at pre;have l0:N0.length=26:=by rw [<-hN0,List.length_map];rfl
 have n0:N0.Nodup:=hN0▸nod tx fun _ _ e=>QW e
 have tl:∀x∈N0,x.length<=100:=fun x hx=>by
  rw [<-hN0,List.mem_map] at hx;obtain ⟨k,_,rfl⟩:=hx;rw [m7];exact M.len _ (spl k)
 have cond:∀(hD:D),(bOr (bTB (b2 inX (bC (.str "copy")) iZ)) (bTB (b2 inX (bC (.str "drop")) iZ))) (ns hD choice turn shift cell size base at_ (N0.map D.str) a' b' c' d')=.ok (decide (("copy" : Str)∈N0)||decide (("drop" : Str)∈N0)):=fun hD=>aBi (d7 (aH rfl rfl (in_str _ _))) (d7 (aH rfl rfl (in_str _ _)))
 have fin:∀(b:Nat) (N:List Str),(pG 9) (ns (.cel b (dk cs (n+3))) choice turn shift cell size base at_ (N.map D.str) a' b' c' d')=.ok (.rt (.tup (.lst (N.map D.str)::ns (.cel b (dk cs (n+3))) choice turn shift cell size base at_ (N.map D.str) a' b' c' d'))):=fun b N=>xO rfl rfl
 by_cases hc:(decide (("copy" : Str)∈N0)||decide (("drop" : Str)∈N0))=true
 ·refine ⟨N0.map fun x=>x++("e" : Str),by rw [List.length_map,l0],?_,fun b=>?_⟩
  ·rw [<-hN0,List.map_map];exact nod (fun a=>tx a++("e" : Str)) aBj
  ·refine tQ (k:=1) (ρ:=ns (.cel b (dk cs (n+3))) choice turn shift cell size base at_ ((N0.map fun x=>x++("e" : Str)).map D.str) a' b' c' d') (pre b _ _ (aJ (KJ ((cond _).trans (by rw [hc])) (eG (i:=9) (d:=.lst ((N0.map fun x=>x++("e" : Str)).map D.str)) ?_ (tW _))) (fin b _)));rw [List.map_map];exact fX (n:=14) D.str (fun x=>D.str (x++("e" : Str))) N0 rfl (dY rfl) (by lia) (fun x hx=>⟨aH rfl rfl (HF _ _ (by have:=tl x hx;rw [a_];show x.length+1<=_;lia)),rfl⟩)
 ·refine ⟨N0,l0,n0,fun b=>?_⟩;exact tQ (k:=1) (ρ:=ns (.cel b (dk cs (n+3))) choice turn shift cell size base at_ (N0.map D.str) a' b' c' d') (pre b _ _ (aJ (wW ((cond _).trans (by rw [Bool.eq_false_iff.mpr hc])) rfl) (fin b _)))
theorem OJ (cs:List Int) (n:Nat) (hn:n+3<=100000):∃N:List Str,N.length=26/\N.Nodup/\ch1 dR (dk cs n) []=.ok (.lst (N.map D.str),dk cs (n+3)):=by
 obtain ⟨N,h1,h2,h3⟩:=OD cs n hn;exact ⟨N,h1,h2,xG h3⟩
end Lk51
end
section
namespace Lk51
open PySem L2 Mi
theorem JX (n d a:Nat):vY n d (some (a:Int))=min a n:=by
 show (if (a:Int)<0 then (max ((a:Int)+(n:Int)) 0).toNat else (min (a:Int) (n:Int)).toNat)=_;rw [if_neg (by lia)];lia
theorem xT (n d:Nat):vY n d none=d:=rfl
theorem QZ {α:Type} (xs:List α) (a:Nat):cutD xs none (some (a:Int))=xs.take a:=by
 unfold cutD;rw [JX,xT,List.drop_zero,Nat.sub_zero];by_cases h:a<=xs.length
 ·rw [Nat.min_eq_left h]
 ·rw [Nat.min_eq_right (by lia),List.take_of_length_le (Nat.le_refl _),List.take_of_length_le (by lia)]
theorem xU {α:Type} (xs:List α) (a:Nat):cutD xs (some (a:Int)) none=xs.drop a:=by
 unfold cutD;rw [JX,xT];by_cases h:a<=xs.length
 ·rw [Nat.min_eq_left h,List.take_of_length_le (by rw [List.length_drop];exact Nat.le_refl _)]
 ·rw [Nat.min_eq_right (by lia),List.drop_eq_nil_of_le (Nat.le_refl _),List.drop_eq_nil_of_le (by lia),List.take_nil]
def sy (N:List Str) (i:Nat):D:=.str (N.getD i "")
theorem ZV (N:List Str) (h:N.length=26):N.map D.str=(List.range 26).map (sy N):=by
 apply List.ext_getElem
 ·simp [h]
 ·intro i h1 h2;rw [List.getElem_map,List.getElem_map,List.getElem_range];have h1':i<N.length:=by rw [List.length_map] at h1;exact h1
  show D.str (N[i]'h1')=D.str (N.getD i "");rw [List.getD_eq_getElem?_getD,List.getElem?_eq_getElem h1'];rfl
theorem tX {N:List Str} (h:N.length=26) (hN:N.Nodup) {i j:Nat} (hi:i<26) (hj:j<26):eqD (sy N i) (sy N j)=decide (i=j):=by
 show ((N.getD i "")==(N.getD j ""))=_;have hi':i<N.length:=by lia
 have hj':j<N.length:=by lia
 rw [List.getD_eq_getElem?_getD,List.getD_eq_getElem?_getD,List.getElem?_eq_getElem hi',List.getElem?_eq_getElem hj'];show (N[i]==N[j])=_;by_cases e:i=j
 ·subst e;simp
 ·have:¬N[i]=N[j]:=fun g=>e ((List.getElem_inj hN).mp g)
  simp [e,this]
theorem bO (N:List Str):∀l:List Nat,D.aU (l.map (sy N))=true
 | []=>rfl
 | i::l=>by
  rw [List.map_cons,D.aU,bO N l];rfl
theorem fY (N:List Str) (n:Nat):∀l:List Nat,D.bY n (l.map (sy N))=true
 | []=>by rw [List.map_nil,D.bY]
 | x::l=>by
  rw [List.map_cons,D.bY,fY N n l];unfold sy;rw [D.bK] <;> simp
theorem jN (N:List Str) (i:Nat):(sy N i).bK aQ=true:=xR _
theorem xV {N:List Str} (h:N.length=26) (hN:N.Nodup) {i:Nat} (hi:i<26):∀l:List Nat,(∀j∈l,j<26)->(l.map (sy N)).any (fun y=>eqD y (sy N i))=decide (i∈l)
 | [],_=>rfl
 | j::l,hl=>by
  rw [List.map_cons,List.any_cons,xV h hN hi l fun k hk=>hl k (List.mem_cons_of_mem _ hk),tX h hN (hl j (List.mem_cons_self ..)) hi];by_cases e:j=i
  ·simp [e]
  ·have e2:¬i=j:=fun g=>e g.symm
   simp [e,e2]
theorem mV {α:Type} {f:α->D} {l:List α} {i:Nat} {a:α} {x:Int} (hx:x=i) (h:l[i]?=some a):getD (.lst (l.map f)) (.int x)=.ok (f a):=by
 subst hx;obtain ⟨hi,e⟩:=List.getElem?_eq_some_iff.mp h;show Res.ofOpt ((ixD (l.map f).length (i:Int)).bind fun j=>(l.map f)[j]?)=_;unfold ixD;rw [if_pos (by lia),List.length_map,if_pos (by lia)];simp [h]
theorem xW {α:Type} {f:α->D} {l:List α} {i:Nat} {a:α} {x:Int} (hx:x=i) (h:l[i]?=some a):getD (.tup (l.map f)) (.int x)=.ok (f a):=mV hx h
theorem bW {f:Nat->D} {n i:Nat} {x:Int} (hx:x=i) (hi:i<n):getD (.lst ((List.range n).map f)) (.int x)=.ok (f i):=mV hx (by rw [List.getElem?_range hi])
abbrev Rw:=Nat×Nat×List Nat
abbrev Tk:=Nat×Nat×Nat×List Nat
noncomputable def rwD (N:List Str) (r:Rw):D:=.tup [sy N r.1,sy N r.2.1,.tup (r.2.2.map (sy N))]
noncomputable def tkD (N:List Str) (r:Tk):D:=.tup [sy N r.1,sy N r.2.1,sy N r.2.2.1,.tup (r.2.2.2.map (sy N))]
theorem cQ (N:List Str) (r:Rw):(rwD N r).pure=true:=by
 show ((sy N r.1).pure&&((sy N r.2.1).pure&&((D.tup (r.2.2.map (sy N))).pure&&true)))=true;rw [D.pure,bO];rfl
theorem iR (N:List Str) (r:Tk):(tkD N r).pure=true:=by
 show ((sy N r.1).pure&&((sy N r.2.1).pure&&((sy N r.2.2.1).pure&&((D.tup (r.2.2.2.map (sy N))).pure&&true))))=true;rw [D.pure,bO];rfl
theorem bQ {α:Type} {f:α->D} (h:∀a,(f a).pure=true):∀l:List α,D.aU (l.map f)=true
 | []=>rfl
 | x::l=>by
  rw [List.map_cons,D.aU,h,bQ h l];rfl
theorem mW {a:FE} {lo hi:List D->Res (Option Int)} {ρ xs:List D} {l h:Option Int} (h1:a ρ=.ok (.lst xs)) (h2:lo ρ=.ok l) (h3:hi ρ=.ok h) (hx:D.aU xs=true):iY a lo hi ρ=.ok (.lst (cutD xs l h)):=by
 unfold iY;rw [h1,Res.aK,h2,Res.aK,h3,Res.aK];show (if D.aU xs then Res.ok (D.lst (cutD xs l h)) else .bad)=_;rw [if_pos hx]
noncomputable def lsD (N:List Str) (m:Nat) (l:Nat->Nat):List (D×D):=(List.range m).map fun k=>(sy N k,.int (l k))
theorem Q0 {f:FE} {ρ:List D} {i:Int} (h:f ρ=.ok (.int i)):b1 zX f ρ=.ok (.int (-i)):=by
 unfold b1;rw [h];rfl
theorem zQ {g:D->Res D} {f:FE} {ρ:List D} {x y:D} (h:f ρ=.ok x) (h2:g x=.ok y):b1 g f ρ=.ok y:=by
 unfold b1;rw [h];exact h2
theorem ZW {a:FT} {b:FXT} {ρ:List D} {r:Res (Bool×List D)} (h1:a ρ=.ok true) (h2:b ρ=r):QM a b ρ=r:=by
 unfold QM;rw [h1,Res.aK,if_pos rfl,h2]
theorem ZX {a:FT} {b:FXT} {ρ:List D} (h1:a ρ=.ok false):QM a b ρ=.ok (false,ρ):=by
 unfold QM;rw [h1,Res.aK,if_neg (by simp)]
structure Base (m:Nat) (q:Nat->List Nat) (l:Nat->Nat):Prop where
 l1:∀k,k<m->1<=l k/\l k<=4
 q1:∀k,k<m->∀j∈q k,j<m
 q2:∀k,k<m->(q k).length<=3
 le:∀k,k<m->1+((q k).map l).sum<=l k
theorem base0 (m:Nat):Base m (fun _=>[]) (fun _=>1):=⟨fun _ _=>⟨by decide,by decide⟩,fun _ _ j hj=>by simp at hj,fun _ _=>by simp,fun _ _=>by simp⟩
theorem aBk (m p:Nat) (hp:p<m) (hm:m<=3):Base m (fun k=>if k=m-1 then List.range p else []) (fun k=>if k=m-1 then 1+p else 1):=by
 have:(m=1/\p=0)\/(m=2/\p=0)\/(m=2/\p=1)\/(m=3/\p=0)\/(m=3/\p=1)\/(m=3/\p=2):=by lia
 rcases this with ⟨rfl,rfl⟩|⟨rfl,rfl⟩|⟨rfl,rfl⟩|⟨rfl,rfl⟩|⟨rfl,rfl⟩|⟨rfl,rfl⟩ <;> refine ⟨?_,?_,?_,?_⟩ <;> decide
noncomputable abbrev ss (hD:D) (N:List Str) (cell:Int) (m:Nat) (M:List Rw) (l:Nat->Nat) (a b c d e f:D):List D:=[hD,.lst ((List.range 26).map (sy N)),.int cell,.int m,.lst ((List.range m).map (sy N)),.lst (M.map (rwD N)),.dct (lsD N m l),a,b,c,d,e,f]
noncomputable def mk0 (m:Nat) (q:Nat->List Nat):List Rw:=(List.range m).map fun k=>(3+k,k,q k)
end Lk51
end
section
namespace Lk51
open PySem L2 Mi
noncomputable def mkb:FS:=(bA (fW false 9 (bZ aL 1 0 aR)) (bA (bL false 7 (cG 13 (iW (aB (b2 (aN .mod) (b2 (aN .fdiv) iZ gU) vZ) aR) gH) i_ (fG) (b2 getD cL (b2 (aN .mod) (b2 (aN .fdiv) iZ (b2 getD (iV (aB yR (aB (bC (.int 36)) (aB (bC (.int 108)) aR)))) eU)) cF)) false) true) (pQ 5 (fV (aB (b2 getD fL (b2 (aN .add) (b2 (aN .add) gU cF) m_)) (aB (b2 getD cL (b2 (aN .mod) iZ cF)) (aB (bD dC (aB kI aR)) aR)))))))
noncomputable def tkb:FS:=(bA (fW false 9 (bZ aL 1 0 aR)) (bA (bL false 12 (cG 13 (iW (aB (b2 (aN .mod) (b2 (aN .fdiv) iZ aAg) gU) aR) gH) i_ (fG) (b2 getD cL (b2 (aN .mod) (b2 (aN .fdiv) iZ (b2 getD (iV (aB (bC (.int 27)) (aB (bC (.int 81)) aR))) eU)) cF)) false) true) (pQ 11 (fV (aB (b2 getD fL (b2 (aN .add) SN m_)) (aB (b2 getD cL (b2 (aN .mod) iZ cF)) (aB (b2 getD cL (b2 (aN .mod) (b2 (aN .fdiv) iZ gU) cF)) (aB (bD dC (aB nA aR)) aR))))))))
def sg0:FS:=(fW false 2 (bZ aL 1 0 aR))
def sg1:FS:=(bL false 3 (b2 (aN .add) cJ (b2 (aN .mod) dH gU)) true)
def sg2:FS:=(bL true 4 (iY fL (eO) (cN cF)) true)
noncomputable def sg3:FS:=(bL true 5 (cG 13 (iW (aB cF aR) gH) i_ (fG) (fV (aB (b2 getD fL (b2 (aN .add) gU eU)) (aB (b2 getD cL eU) (aB (fV aR) aR)))) false) true)
noncomputable def sg4:FS:=(bL true 6 (b1 tB (cG 13 (bJ cL false) i_ (fG) (fV (aB eU (aB cJ aR))) false)) true)
noncomputable def sg5:FS:=(UL (QM (bTB (b2 (b8 (.ord .gt)) cF cJ)) (xTB (x2L (b8 .eq) (x2L (aN .mod) (bZ aL 1 0 aR) gU) cJ))) (bA (bL false 7 (bD dC (aB (iY cL (eO) (cN (b2 (aN .add) cJ (b2 (aN .mod) (b2 (aN .fdiv) dH yR) (b2 (aN .sub) cF cJ))))) aR)) false) (bA (u_ 5 (b1 zX cJ) (fV (aB (b2 getD fL (b2 (aN .add) gW cF)) (aB (b2 getD cL (b1 zX cJ)) (aB kI aR))))) (zY 6 (b2 getD cL (b1 zX cJ)) (b2 (aN .add) cJ (bD jF (aB kI aR)))))) (lU))
noncomputable def sg6:FS:=(E_ (iW (aB (b2 (aN .mod) (b2 (aN .fdiv) dH gU) vZ) aR) gH) (tg1 8) mkb)
noncomputable def sg7:FS:=(bL false 10 (b2 (aN .mod) (b2 (aN .fdiv) dH yR) (bD jF (aB fO aR))) true)
def sg8:FS:=(bL true 11 (iV aR) true)
noncomputable def sg9:FS:=(H_ (Y5 (x2L (aN .mod) (bZ aL 1 0 aR) vZ)) (tg1 8) tkb)
noncomputable def aCw:FS:=(sW (aB (bOw 4) (aB (b2 (aN .add) (iY fO (cN j8) (eO)) (iY fO (eO) (cN j8))) (aB (bOw 11) (aB (bOw 6) aR)))))
theorem VF:mL=bA sg0 (bA sg1 (bA sg2 (bA sg3 (bA sg4 (bA sg5 (bA sg6 (bA sg7 (bA sg8 (bA sg9 aCw))))))))):=rfl
section
variable {cs:List Int} {N:List Str} (hN:N.length=26) (hd:N.Nodup)
theorem JZ (f:Nat->D) (n a:Nat) (h:a<=n):cutD ((List.range n).map f) none (some (a:Int))=(List.range a).map f:=by
 rw [QZ,<-List.map_take,List.take_range,Nat.min_eq_left h]
theorem ZZ {hD:D} {cell:Int} {m:Nat} (hm:m<=26) (a b c d e f g h i:D):sg2 [hD,.lst ((List.range 26).map (sy N)),.int cell,.int m,a,b,c,d,e,f,g,h,i]=.ok (.nx [hD,.lst ((List.range 26).map (sy N)),.int cell,.int m,.lst ((List.range m).map (sy N)),b,c,d,e,f,g,h,i]):=
 eG (i:=4) (d:=.lst ((List.range m).map (sy N))) (by rw [<-JZ (sy N) 26 m hm];exact mW rfl rfl (fQ rfl) (bO ..)) (bO ..)
theorem Z0 {hD:D} {cell:Int} {m:Nat} (hm:m<=3) (b c d e f g h i:D):sg3 [hD,.lst ((List.range 26).map (sy N)),.int cell,.int m,.lst ((List.range m).map (sy N)),b,c,d,e,f,g,h,i]=.ok (.nx [hD,.lst ((List.range 26).map (sy N)),.int cell,.int m,.lst ((List.range m).map (sy N)),.lst ((mk0 m fun _=>[]).map (rwD N)),c,d,e,f,g,h,i]):=by
 refine eG (i:=5) (d:=.lst ((mk0 m fun _=>[]).map (rwD N))) ?_ (bQ (cQ N) _);unfold mk0;rw [List.map_map];refine fX (n:=13) (fun k:Nat=>D.int (0+(k:Int))) _ (List.range m) rfl (oJ (n:=(m:Int)) (aF rfl rfl) (by lia) (by lia)) (by rw [List.length_range];lia) fun k hk=>?_
 rw [List.mem_range] at hk;exact ⟨dO (aF (aH rfl (aH rfl rfl (cY _ _)) (bW (i:=3+k) (by lia) (by lia))) (aF (aH rfl rfl (bW (i:=k) (by lia) hk)) (aF (dO (xs:=[]) rfl (by rw [a_];simp)) rfl))) (by rw [a_];simp),rfl⟩
include hN hd in
theorem O1 {m:Nat} (h1:1<=m) (h3:m<=3):tB (.lst ((List.range m).map fun k=>.tup [sy N k,.int 1]))=.ok (.dct (lsD N m fun _=>1)):=by
 have e:∀i j,i<3->j<3->¬i=j->eqD (sy N i) (sy N j)=false:=fun i j hi hj g=>by rw [tX hN hd (by lia) (by lia)];exact decide_eq_false g
 have e01:=e 0 1 (by decide) (by decide) (by decide);have e02:=e 0 2 (by decide) (by decide) (by decide);have e12:=e 1 2 (by decide) (by decide) (by decide);have:m=1\/m=2\/m=3:=by lia
 rcases this with g|g|g <;> subst g
 ·rfl
 ·show Res.ok (D.dct (putD (putD [] (sy N 0) (.int 1)) (sy N 1) (.int 1)))=_;simp only [putD,e01,Bool.false_eq_true,if_false];rfl
 ·show Res.ok (D.dct (putD (putD (putD [] (sy N 0) (.int 1)) (sy N 1) (.int 1)) (sy N 2) (.int 1)))=_;simp only [putD,e01,e02,e12,Bool.false_eq_true,if_false];rfl
theorem VG (m:Nat) (l:Nat->Nat):inner (.dct (lsD N m l))=true:=by
 show D.aU ((lsD N m l).map (·.2))=true;unfold lsD;rw [List.map_map];exact bQ (fun _=>rfl) _
include hN hd in
theorem Z1 {hD:D} {cell:Int} {m:Nat} (h1:1<=m) (hm:m<=3) {M:D} (c d e f g h i:D):sg4 [hD,.lst ((List.range 26).map (sy N)),.int cell,.int m,.lst ((List.range m).map (sy N)),M,c,d,e,f,g,h,i]=.ok (.nx [hD,.lst ((List.range 26).map (sy N)),.int cell,.int m,.lst ((List.range m).map (sy N)),M,.dct (lsD N m fun _=>1),d,e,f,g,h,i]):=by
 refine eG (i:=6) (d:=.dct (lsD N m fun _=>1)) (zQ ?_ (O1 hN hd h1 hm)) (VG m _);exact fX (n:=13) (sy N) (fun k=>.tup [sy N k,.int 1]) (List.range m) rfl (dY rfl) (by rw [List.length_range];lia) fun k hk=>⟨dO (aF rfl (aF rfl rfl)) (by rw [a_];simp),rfl⟩
include hN hd in
theorem Z2 {cell:Int} {m n:Nat} (hn:n<=1000) (h1:1<=m) (hm:m<=3):∃(q:Nat->List Nat) (l:Nat->Nat) (n':Nat) (x:D),Base m q l/\n'<=n+1/\∀b,sg5 (ss (.cel b (dk cs n)) N cell m (mk0 m fun _=>[]) (fun _=>1) .uD .uD .uD .uD .uD .uD)=.ok (.nx (ss (.cel b (dk cs n')) N cell m (mk0 m q) l x .uD .uD .uD .uD .uD)):=by
 by_cases h2:1<m
 ·obtain ⟨v,qv⟩:=gZ cs n (by lia);have hx:∀b,(QM (bTB (b2 (b8 (.ord .gt)) cF cJ)) (xTB (x2L (b8 .eq) (x2L (aN .mod) (bZ aL 1 0 aR) gU) cJ))) (ss (.cel b (dk cs n)) N cell m (mk0 m fun _=>[]) (fun _=>1) .uD .uD .uD .uD .uD .uD)=.ok (v % 3==1,ss (.cel b (dk cs (n+1))) N cell m (mk0 m fun _=>[]) (fun _=>1) .uD .uD .uD .uD .uD .uD):=fun b=>
   ZW (d7 (aH (x:=.int m) rfl rfl ((cmp_gt _ _).trans (by rw [decide_eq_true (by lia)])))) (QV (pM (pM (pA qv rfl rfl) rfl rfl (bV _ _ (by decide)) rfl) rfl rfl (jM _ _) rfl))
  by_cases h3:v % 3=1
  ·let p:Nat:=(1+cell / 12 % ((m:Int)-1)).toNat
   have p0:0<=cell / 12 % ((m:Int)-1):=Int.emod_nonneg _ (by lia);have p1:cell / 12 % ((m:Int)-1)<(m:Int)-1:=Int.emod_lt_of_pos _ (by lia);have hp:(p:Int)=1+cell / 12 % ((m:Int)-1):=by
    show (((1+cell / 12 % ((m:Int)-1)).toNat:Nat):Int)=_;lia
   refine ⟨_,_,n+1,.tup ((List.range p).map (sy N)),aBk m p (by lia) hm,Nat.le_refl _,fun b=>xP (hx b) ?_⟩;rw [show (v % 3==1)=true from by rw [h3];rfl,if_pos rfl];refine aJ (ρ':=ss (.cel b (dk cs (n+1))) N cell m (mk0 m fun _=>[]) (fun _=>1) (.tup ((List.range p).map (sy N))) .uD .uD .uD .uD .uD) (dM (i:=7) (d:=.tup ((List.range p).map (sy N))) (bG (aF (x:=.lst ((List.range p).map (sy N))) ?_ rfl) rfl) (bO ..)) ?_
   ·rw [<-JZ (sy N) m p (by lia),hp];exact mW rfl rfl (fQ (aH rfl (aH (aH (x:=.int cell) rfl rfl (cV _ _ (by decide) (by decide))) (aH (x:=.int m) rfl rfl (sE _ _)) (bV _ _ (by lia))) (cY _ _))) (bO ..)
   have gk:∀(ρ:List D),bR 4 ρ=.ok (.lst ((List.range m).map (sy N)))->b2 getD cL (b1 zX cJ) ρ=.ok (sy N (m-1)):=fun ρ hρ=>aH hρ (Q0 rfl) (by
    show Res.ofOpt ((ixD ((List.range m).map (sy N)).length (-1:Int)).bind fun j=>((List.range m).map (sy N))[j]?)=_;unfold ixD;rw [if_neg (by decide),List.length_map,List.length_range,if_pos (by lia),show (((-1:Int)+(m:Int)).toNat)=m-1 from by lia];simp only [Option.bind_some];rw [List.getElem?_map,List.getElem?_range (by lia)];rfl)
   have hrow:∀ρ:List D,bR 1 ρ=.ok (.lst ((List.range 26).map (sy N)))->bR 3 ρ=.ok (.int m)->bR 4 ρ=.ok (.lst ((List.range m).map (sy N)))->bR 7 ρ=.ok (.tup ((List.range p).map (sy N)))->fV (aB (b2 getD fL (b2 (aN .add) gW cF)) (aB (b2 getD cL (b1 zX cJ)) (aB kI aR))) ρ=.ok (rwD N (2+m,m-1,List.range p)):=fun ρ g1 g3 g4 g7=>dO (aF (aH g1 (aH rfl g3 (cY _ _)) (bW (i:=2+m) (by lia) (by lia))) (aF (gk _ g4) (aF g7 rfl))) (by rw [a_];simp)
   refine aJ (ρ':=ss (.cel b (dk cs (n+1))) N cell m (mk0 m fun k=>if k=m-1 then List.range p else []) (fun _=>1) (.tup ((List.range p).map (sy N))) .uD .uD .uD .uD .uD) (JN (i:=5) (j:=m-1) (k:=-1) (xs:=(mk0 m fun _=>[]).map (rwD N)) (d:=rwD N (2+m,m-1,List.range p)) (hrow _ rfl rfl rfl rfl) (Q0 rfl) rfl (cQ ..) ?_ ?_) ?_
   ·unfold ixD mk0;rw [if_neg (by decide),List.length_map,List.length_map,List.length_range,if_pos (by lia)]
    congr 1
    lia
   ·have:m=2\/m=3:=by lia
    rcases this with g|g <;> subst g <;> rfl
   refine (wX (f:=b2 getD cL (b1 zX cJ)) (g:=b2 (aN .add) cJ (bD jF (aB kI aR))) (ρ:=ss (.cel b (dk cs (n+1))) N cell m (mk0 m fun k=>if k=m-1 then List.range p else []) (fun _=>1) (.tup ((List.range p).map (sy N))) .uD .uD .uD .uD .uD) (i:=6) (kvs:=lsD N m fun _=>1) (k:=sy N (m-1)) (d:=.int ((1+p:Nat):Int)) (aH (x:=.int 1) (y:=.int p) rfl (bG (aF rfl rfl) ?_) ?_) (gk _ rfl) rfl ?_ ?_ rfl).trans ?_
   ·show Res.ok (D.int (((List.range p).map (sy N)).length:Int))=_;rw [List.length_map,List.length_range]
   ·rw [cY]
    congr 2
   ·unfold lsD;rw [List.length_map,List.length_range,a_];lia
   ·show (true&&(lsD N m fun _=>1).all fun p=>isTup p.1==false)=true;rw [Bool.true_and,List.all_eq_true];intro y hy;unfold lsD at hy;obtain ⟨k,_,rfl⟩:=List.mem_map.mp hy;rfl
   ·have e:∀i j,i<3->j<3->eqD (sy N i) (sy N j)=decide (i=j):=fun i j hi hj=>tX hN hd (by lia) (by lia)
    have e01:=e 0 1 (by decide) (by decide);have e02:=e 0 2 (by decide) (by decide);have e12:=e 1 2 (by decide) (by decide);have e11:=e 1 1 (by decide) (by decide);have e22:=e 2 2 (by decide) (by decide);have:m=2\/m=3:=by lia
    rcases this with g|g <;> subst g
    ·have:putD (lsD N 2 fun _=>1) (sy N 1) (.int ((1+p:Nat):Int))=lsD N 2 fun k=>if k=2-1 then 1+p else 1:=by
      show putD [(sy N 0,.int 1),(sy N 1,.int 1)] (sy N 1) _=_;simp only [putD,e01,e11];rfl
     rw [this];rfl
    ·have:putD (lsD N 3 fun _=>1) (sy N 2) (.int ((1+p:Nat):Int))=lsD N 3 fun k=>if k=3-1 then 1+p else 1:=by
      show putD [(sy N 0,.int 1),(sy N 1,.int 1),(sy N 2,.int 1)] (sy N 2) _=_;simp only [putD,e02,e12,e22];rfl
     rw [this];rfl
  ·refine ⟨_,_,n+1,.uD,base0 m,Nat.le_refl _,fun b=>xP (hx b) ?_⟩;rw [show (v % 3==1)=false from beq_eq_false_iff_ne.mpr h3,if_neg (by simp)];rfl
 ·refine ⟨_,_,n,.uD,base0 m,Nat.le_succ _,fun b=>xP (k:=false) (ZX (d7 (aH (x:=.int m) rfl rfl ((cmp_gt _ _).trans (by rw [decide_eq_false (by lia)]))))) ?_⟩;rw [if_neg (by simp)];rfl
end
end Lk51
end
section
namespace Lk51
open PySem L2 Mi
def Gr (m:Nat) (r:Rw):Prop:=r.2.1<m/\(∀i∈r.2.2,i<m)/\r.2.2.length<=3
noncomputable def Gt (m:Nat) (t:Tk):Prop:=t.2.1<m/\t.2.2.1<m/\(∀i∈t.2.2.2,i<m)/\t.2.2.2.length<=2
noncomputable def w3:Nat->Int
 | 0=>12
 | 1=>36
 | _=>108
noncomputable def w2:Nat->Int
 | 0=>27
 | _=>81
theorem Z3 {j:Nat} (h:j<3):getD (.lst [.int 12,.int 36,.int 108]) (.int (0+(j:Int)))=.ok (.int (w3 j)):=by
 have:j=0\/j=1\/j=2:=by lia
 rcases this with e|e|e <;> subst e <;> rfl
theorem Q3 (j:Nat):0<w3 j/\w3 j<1073741824:=by
 unfold w3;split <;> decide
theorem Z4 {j:Nat} (h:j<2):getD (.lst [.int 27,.int 81]) (.int (0+(j:Int)))=.ok (.int (w2 j)):=by
 have:j=0\/j=1:=by lia
 rcases this with e|e <;> subst e <;> rfl
theorem Q4 (j:Nat):0<w2 j/\w2 j<1073741824:=by
 unfold w2;split <;> decide
section
variable {cs:List Int} {N:List Str}
theorem kix {m:Nat} (h1:1<=m) (v:Int):∃i:Nat,i<m/\v % (m:Int)=i:=by
 have a:0<=v % (m:Int):=Int.emod_nonneg _ (by lia);have b:v % (m:Int)<m:=Int.emod_lt_of_pos _ (by lia);exact ⟨(v % (m:Int)).toNat,by lia,by lia⟩
theorem Z5 {cell:Int} {m n j:Nat} {M:List Rw} {l:Nat->Nat} (hn:n<=1000) (h1:1<=m) (hm:m<=3) (hj:j<3) (hM:M.length<100) (x o d e f:D) :
  ∃(r:Rw) (x' o':D),Gr m r/\r.1=3+m+j/\∀b,mkb (ss (.cel b (dk cs n)) N cell m M l x (.int (0+(j:Int))) o d e f)=.ok (.nx (ss (.cel b (dk cs (n+1))) N cell m (M++[r]) l x' (.int (0+(j:Int))) o' d e f)):=by
 obtain ⟨v,qv⟩:=gZ cs n (by lia);obtain ⟨k,k1,k2⟩:=kix h1 v
 let ix:Nat->Nat:=fun j=>((v / w3 j) % (m:Int)).toNat
 have ixm:∀j,ix j<m/\(v / w3 j) % (m:Int)=ix j:=fun j=>by
  obtain ⟨i,i1,i2⟩:=kix h1 (v / w3 j);have:ix j=i:=by show ((v / w3 j) % (m:Int)).toNat=i;lia
  exact ⟨by lia,by lia⟩
 let c:Nat:=(v / 3 % 4).toNat
 have hc:(c:Int)=v / 3 % 4:=by show (((v / 3 % 4).toNat:Nat):Int)=_;lia
 have c4:c<=3:=by lia
 let B:List Nat:=(List.range c).map ix
 have lB:B.length<=3:=by show ((List.range c).map ix).length<=3;rw [List.length_map,List.length_range];exact c4
 have mB:∀i∈B,i<m:=fun i hi=>by obtain ⟨a,_,rfl⟩:=List.mem_map.mp hi;exact (ixm a).1
 refine ⟨(3+m+j,k,B),.lst (B.map (sy N)),.int v,⟨k1,mB,lB⟩,rfl,fun b=>?_⟩;refine aJ (ρ':=ss (.cel b (dk cs (n+1))) N cell m M l x (.int (0+(j:Int))) (.int v) d e f) (gY (i:=9) (pA qv rfl rfl) rfl) ?_;refine aJ (ρ':=ss (.cel b (dk cs (n+1))) N cell m M l (.lst (B.map (sy N))) (.int (0+(j:Int))) (.int v) d e f) (cD (i:=7) ?_) ?_
 ·show _=Res.ok (D.lst (((List.range c).map ix).map (sy N)));rw [List.map_map];refine fX (n:=13) (fun k:Nat=>D.int (0+(k:Int))) (fun j=>sy N (ix j)) (List.range c) rfl (oJ (n:=(c:Int)) (aF (aH (aH (x:=.int v) rfl rfl (cV _ _ (by decide) (by decide))) rfl ((bV _ _ (by decide)).trans (by rw [hc]))) rfl) (by lia) (by lia)) (by rw [List.length_range];lia) fun a ha=>?_
  rw [List.mem_range] at ha;exact ⟨aH (x:=.lst ((List.range m).map (sy N))) rfl (aH (aH (x:=.int v) rfl (aH rfl rfl (Z3 (by lia))) (cV _ _ (Q3 a).1 (Q3 a).2)) (y:=.int m) rfl (bV _ _ (by lia))) (bW (ixm a).2 (ixm a).1),rfl⟩
 have hrow:∀ρ:List D,bR 1 ρ=.ok (.lst ((List.range 26).map (sy N)))->bR 3 ρ=.ok (.int m)->bR 4 ρ=.ok (.lst ((List.range m).map (sy N)))->bR 7 ρ=.ok (.lst (B.map (sy N)))->bR 8 ρ=.ok (.int (0+(j:Int)))->bR 9 ρ=.ok (.int v)->fV (aB (b2 getD fL (b2 (aN .add) (b2 (aN .add) gU cF) m_)) (aB (b2 getD cL (b2 (aN .mod) iZ cF)) (aB (bD dC (aB kI aR)) aR))) ρ=.ok (rwD N (3+m+j,k,B)):=fun ρ g1 g3 g4 g7 g8 g9=>dO (aF (aH g1 (aH (aH rfl g3 (cY _ _)) g8 (cY _ _)) (bW (i:=3+m+j) (by lia) (by lia))) (aF (aH g4 (aH g9 g3 (bV _ _ (by lia))) (bW k2 k1)) (aF (bG (aF g7 rfl) rfl) rfl))) (by rw [a_];simp)
 have ha:=mZ (i:=5) (ρ:=ss (.cel b (dk cs (n+1))) N cell m M l (.lst (B.map (sy N))) (.int (0+(j:Int))) (.int v) d e f) (xs:=M.map (rwD N)) (hrow _ rfl rfl rfl rfl rfl rfl) rfl (by rw [List.length_map,a_];lia) (cQ ..);refine ha.trans ?_;unfold ss;rw [List.map_append];rfl
theorem J0 {cell:Int} {m:Nat} {l:Nat->Nat} (h1:1<=m) (hm:m<=3):∀(c j n:Nat) (M:List Rw) (x k o d e f:D),n+c<=1000->j+c<=3->M.length+c<100->
  ∃(E:List Rw) (x' k' o':D),(∀r∈E,Gr m r)/\E.map (·.1)=(List.range' (3+m+j) c)/\∀b,nH (tg1 8) mkb ((List.range' j c).map fun (k:Nat)=>D.int (0+(k:Int))) (ss (.cel b (dk cs n)) N cell m M l x k o d e f)=.ok (.nx (ss (.cel b (dk cs (n+c))) N cell m (M++E) l x' k' o' d e f))
 | 0,j,n,M,x,k,o,d,e,f,_,_,_=>⟨[],x,k,o,fun _ h=>by simp at h,rfl,fun b=>by rw [List.append_nil];rfl⟩
 | c+1,j,n,M,x,k,o,d,e,f,g1,g2,g3=>by
  obtain ⟨r,x1,o1,r1,r2,r3⟩:=Z5 (cs:=cs) (N:=N) (cell:=cell) (m:=m) (n:=n) (j:=j) (M:=M) (l:=l) (by lia) h1 hm (by lia) (by lia) x o d e f;obtain ⟨E,x2,k2,o2,e1,e2,e3⟩:=J0 h1 hm c (j+1) (n+1) (M++[r]) x1 (.int (0+(j:Int))) o1 d e f (by lia) (by lia) (by rw [List.length_append,List.length_singleton];lia);refine ⟨r::E,x2,k2,o2,fun y hy=>?_,?_,fun b=>?_⟩
  ·rcases List.mem_cons.mp hy with h|h
   ·exact h▸r1
   ·exact e1 y h
  ·rw [List.map_cons,List.range'_succ,r2,e2];rfl
  ·rw [List.range'_succ,List.map_cons];refine dD (ρ1:=ss (.cel b (dk cs n)) N cell m M l x (.int (0+(j:Int))) o d e f) rfl (r3 b) ?_;rw [e3 b,List.append_assoc,show n+1+c=n+(c+1) from by lia];rfl
theorem Z6 {cell:Int} {m n j:Nat} {M:List Rw} {l:Nat->Nat} {T:List Tk} (hn:n<=1000) (h1:1<=m) (hm:m<=3) (hj:j<3) (hT:T.length<100) (x o d f:D) :
  ∃(r:Tk) (o' f':D),Gt m r/\r.1=10+j/\∀b,tkb (ss (.cel b (dk cs n)) N cell m M l x (.int (0+(j:Int))) o d (.lst (T.map (tkD N))) f)=.ok (.nx (ss (.cel b (dk cs (n+1))) N cell m M l x (.int (0+(j:Int))) o' d (.lst ((T++[r]).map (tkD N))) f')):=by
 obtain ⟨v,qv⟩:=gZ cs n (by lia);obtain ⟨k,k1,k2⟩:=kix h1 v;obtain ⟨p,p1,p2⟩:=kix h1 (v / 3)
 let ix:Nat->Nat:=fun j=>((v / w2 j) % (m:Int)).toNat
 have ixm:∀j,ix j<m/\(v / w2 j) % (m:Int)=ix j:=fun j=>by
  obtain ⟨i,i1,i2⟩:=kix h1 (v / w2 j);have:ix j=i:=by show ((v / w2 j) % (m:Int)).toNat=i;lia
  exact ⟨by lia,by lia⟩
 let c:Nat:=(v / 9 % 3).toNat
 have hc:(c:Int)=v / 9 % 3:=by show (((v / 9 % 3).toNat:Nat):Int)=_;lia
 have c4:c<=2:=by lia
 let B:List Nat:=(List.range c).map ix
 have lB:B.length<=2:=by show ((List.range c).map ix).length<=2;rw [List.length_map,List.length_range];exact c4
 have mB:∀i∈B,i<m:=fun i hi=>by obtain ⟨a,_,rfl⟩:=List.mem_map.mp hi;exact (ixm a).1
 refine ⟨(10+j,k,p,B),.int v,.lst (B.map (sy N)),⟨k1,p1,mB,lB⟩,rfl,fun b=>?_⟩;refine aJ (ρ':=ss (.cel b (dk cs (n+1))) N cell m M l x (.int (0+(j:Int))) (.int v) d (.lst (T.map (tkD N))) f) (gY (i:=9) (pA qv rfl rfl) rfl) ?_;refine aJ (ρ':=ss (.cel b (dk cs (n+1))) N cell m M l x (.int (0+(j:Int))) (.int v) d (.lst (T.map (tkD N))) (.lst (B.map (sy N)))) (cD (i:=12) ?_) ?_
 ·show _=Res.ok (D.lst (((List.range c).map ix).map (sy N)));rw [List.map_map];refine fX (n:=13) (fun k:Nat=>D.int (0+(k:Int))) (fun j=>sy N (ix j)) (List.range c) rfl (oJ (n:=(c:Int)) (aF (aH (aH (x:=.int v) rfl rfl (cV _ _ (by decide) (by decide))) rfl ((bV _ _ (by decide)).trans (by rw [hc]))) rfl) (by lia) (by lia)) (by rw [List.length_range];lia) fun a ha=>?_
  rw [List.mem_range] at ha;exact ⟨aH (x:=.lst ((List.range m).map (sy N))) rfl (aH (aH (x:=.int v) rfl (aH rfl rfl (Z4 (by lia))) (cV _ _ (Q4 a).1 (Q4 a).2)) (y:=.int m) rfl (bV _ _ (by lia))) (bW (ixm a).2 (ixm a).1),rfl⟩
 have hrow:∀ρ:List D,bR 1 ρ=.ok (.lst ((List.range 26).map (sy N)))->bR 3 ρ=.ok (.int m)->bR 4 ρ=.ok (.lst ((List.range m).map (sy N)))->bR 12 ρ=.ok (.lst (B.map (sy N)))->bR 8 ρ=.ok (.int (0+(j:Int)))->bR 9 ρ=.ok (.int v)->fV (aB (b2 getD fL (b2 (aN .add) SN m_)) (aB (b2 getD cL (b2 (aN .mod) iZ cF)) (aB (b2 getD cL (b2 (aN .mod) (b2 (aN .fdiv) iZ gU) cF)) (aB (bD dC (aB nA aR)) aR)))) ρ=.ok (tkD N (10+j,k,p,B)):=fun ρ g1 g3 g4 g7 g8 g9=>dO (aF (aH g1 (aH rfl g8 (cY _ _)) (bW (i:=10+j) (by lia) (by lia))) (aF (aH g4 (aH g9 g3 (bV _ _ (by lia))) (bW k2 k1)) (aF (aH g4 (aH (aH g9 rfl (cV _ _ (by decide) (by decide))) g3 (bV _ _ (by lia))) (bW p2 p1)) (aF (bG (aF g7 rfl) rfl) rfl)))) (by rw [a_];simp)
 have ha:=mZ (i:=11) (ρ:=ss (.cel b (dk cs (n+1))) N cell m M l x (.int (0+(j:Int))) (.int v) d (.lst (T.map (tkD N))) (.lst (B.map (sy N)))) (xs:=T.map (tkD N)) (hrow _ rfl rfl rfl rfl rfl rfl) rfl (by rw [List.length_map,a_];lia) (iR ..);refine ha.trans ?_;unfold ss;rw [List.map_append];rfl
theorem J1 {cell:Int} {m:Nat} {l:Nat->Nat} {M:List Rw} (h1:1<=m) (hm:m<=3):∀(c j n:Nat) (T:List Tk) (x k o d f:D),n+c<=1000->j+c<=3->T.length+c<100->
  ∃(E:List Tk) (k' o' f':D),(∀r∈E,Gt m r)/\E.map (·.1)=(List.range' (10+j) c)/\∀b,nH (tg1 8) tkb ((List.range' j c).map fun (k:Nat)=>D.int (0+(k:Int))) (ss (.cel b (dk cs n)) N cell m M l x k o d (.lst (T.map (tkD N))) f)=.ok (.nx (ss (.cel b (dk cs (n+c))) N cell m M l x k' o' d (.lst ((T++E).map (tkD N))) f'))
 | 0,j,n,T,x,k,o,d,f,_,_,_=>⟨[],k,o,f,fun _ h=>by simp at h,rfl,fun b=>by rw [List.append_nil];rfl⟩
 | c+1,j,n,T,x,k,o,d,f,g1,g2,g3=>by
  obtain ⟨r,o1,f1,r1,r2,r3⟩:=Z6 (cs:=cs) (N:=N) (cell:=cell) (m:=m) (n:=n) (j:=j) (M:=M) (l:=l) (T:=T) (by lia) h1 hm (by lia) (by lia) x o d f;obtain ⟨E,k2,o2,f2,e1,e2,e3⟩:=J1 (M:=M) h1 hm c (j+1) (n+1) (T++[r]) x (.int (0+(j:Int))) o1 d f1 (by lia) (by lia) (by rw [List.length_append,List.length_singleton];lia);refine ⟨r::E,k2,o2,f2,fun y hy=>?_,?_,fun b=>?_⟩
  ·rcases List.mem_cons.mp hy with h|h
   ·exact h▸r1
   ·exact e1 y h
  ·rw [List.map_cons,List.range'_succ,r2,e2];rfl
  ·rw [List.range'_succ,List.map_cons];refine dD (ρ1:=ss (.cel b (dk cs n)) N cell m M l x (.int (0+(j:Int))) o d (.lst (T.map (tkD N))) f) rfl (r3 b) ?_;rw [e3 b,List.append_assoc,show n+1+c=n+(c+1) from by lia];rfl
end
end Lk51
end
section
namespace Lk51
open PySem L2 Mi
structure Sig (m:Nat) (M:List Rw) (T:List Tk) (l:Nat->Nat):Prop where
 m1:1<=m
 m3:m<=3
 mg:∀r∈M,Gr m r
 tg:∀t∈T,Gt m t
 mn:(M.map (·.1)).Nodup
 mi:∀r∈M,3<=r.1/\r.1<10
 tn:(T.map (·.1)).Nodup
 ti:∀t∈T,10<=t.1/\t.1<13
 tl:T.length<=3
 ml:M.length<=6
 lb:∀k,k<m->1<=l k/\l k<=4
 ba:∀k,k<m->∃r∈M,r.1=3+k/\r.2.1=k/\1+(r.2.2.map l).sum<=l k
theorem VH {f:FX} {ρ ρ':List D} {n:Int} (h:f ρ=.ok (.int n,ρ')) (h1:0<=n) (h2:n<=1000000):Y5 f ρ=.ok ((List.range n.toNat).map fun (k:Nat)=>D.int (0+(k:Int)),ρ'):=by
 unfold Y5;rw [h,Res.aK];have:j7 n=true:=by
  simp only [j7,Bool.and_eq_true,decide_eq_true_eq];lia
 simp only [gH,this,if_true];rfl
theorem VJ {it:List D->Res (List D×List D)} {t:D->List D->Res (List D)} {body:FS} {ρ ρ' xs:List D} {r:Res Fl} (h1:it ρ=.ok (xs,ρ')) (h2:nH t body xs ρ'=r):H_ it t body ρ=r:=by
 unfold H_;rw [h1,Res.aK];exact h2
theorem VL {i:Nat} {ρ:List D} {d:D} (h:bR i ρ=.ok d) (h2:d.v7=true):bOw i ρ=.ok d:=by
 unfold bOw;rw [h,Res.aK,if_pos h2]
theorem O2 {f:FA} {ρ ds:List D} (h:f ρ=.ok ds) (hl:ds.length<=100):sW f ρ=.ok (.rt (.tup (.lst ds::ρ))):=by
 unfold sW;rw [h,Res.aK,if_pos (by rw [a_];exact decide_eq_true (by lia))]
section
variable {N:List Str} (hN:N.length=26) (hd:N.Nodup)
include hN hd
theorem Z7 (cs:List Int) (n:Nat) (hn:n<=900):∃(m:Nat) (M:List Rw) (T:List Tk) (l:Nat->Nat) (n':Nat),Sig m M T l/\n'<=n+9/\∀b,fZ [.cel b (dk cs n),.lst ((List.range 26).map (sy N))]=.ok (.tup [.lst [.lst ((List.range m).map (sy N)),.lst (M.map (rwD N)),.lst (T.map (tkD N)),.dct (lsD N m l)],.cel b (dk cs n')]):=by
 obtain ⟨cell,q1⟩:=gZ cs n (by lia)
 let m:Nat:=(1+cell % 3).toNat
 have hm:(m:Int)=1+cell % 3:=by show (((1+cell % 3).toNat:Nat):Int)=_;lia
 have m1:1<=m:=by lia
 have m3:m<=3:=by lia
 obtain ⟨q,l,n1,x1,B,hn1,s5⟩:=Z2 (cs:=cs) hN hd (cell:=cell) (m:=m) (n:=n+1) (by lia) m1 m3
 let c:Nat:=(cell / 3 % 4).toNat
 have hc:(c:Int)=cell / 3 % 4:=by show (((cell / 3 % 4).toNat:Nat):Int)=_;lia
 have lm:(mk0 m q).length=m:=by unfold mk0;rw [List.length_map,List.length_range]
 obtain ⟨E,x2,k2,o2,E1,E2,s6⟩:=J0 (cs:=cs) (N:=N) (cell:=cell) (m:=m) (l:=l) m1 m3 c 0 n1 (mk0 m q) x1 .uD .uD .uD .uD .uD (by lia) (by lia) (by lia);have lE:E.length=c:=by
  have:=congrArg List.length E2;rw [List.length_map,List.length_range'] at this;exact this
 generalize hM0:mk0 m q++E=M0 at s6;have lM:M0.length=m+c:=by rw [<-hM0,List.length_append,lm,lE]
 obtain ⟨a,a1,a2⟩:=kix (m:=M0.length) (by lia) (cell / 12);obtain ⟨v,qv⟩:=gZ cs (n1+c) (by lia)
 let t:Nat:=(v % 4).toNat
 have ht:(t:Int)=v % 4:=by show (((v % 4).toNat:Nat):Int)=_;lia
 obtain ⟨T,k3,o3,f3,T1,T2,s9⟩:=J1 (cs:=cs) (N:=N) (cell:=cell) (m:=m) (l:=l) (M:=M0) m1 m3 t 0 (n1+c+1) [] x2 k2 o2 (.int a) .uD (by lia) (by lia) (by simp;lia);rw [List.nil_append] at s9;have lT:T.length=t:=by
  have:=congrArg List.length T2;rw [List.length_map,List.length_range'] at this;exact this
 have pm:(M0.drop a++M0.take a).Perm M0:=by
  have:=List.perm_append_comm (l₁:=M0.drop a) (l₂:=M0.take a);rwa [List.take_append_drop] at this
 have mem0:∀r,r∈M0->(∃k,k<m/\r=(3+k,k,q k))\/r∈E:=fun r hr=>by
  rw [<-hM0,List.mem_append] at hr;rcases hr with h|h
  ·unfold mk0 at h;obtain ⟨k,hk,rfl⟩:=List.mem_map.mp h;exact .inl ⟨k,List.mem_range.mp hk,rfl⟩
  ·exact .inr h
 have hE:∀r∈E,3+m<=r.1/\r.1<3+m+c:=fun r hr=>by
  have:=List.mem_map_of_mem (f:=(·.1)) hr;rw [E2,List.mem_range'_1] at this;exact this
 have nm:M0.map (·.1)=List.range' 3 (m+c):=by
  rw [<-hM0,List.map_append,E2];unfold mk0;rw [List.map_map,Nat.add_zero,List.range'_append_1.symm]
  congr 1
  rw [List.range'_eq_map_range];rfl
 refine ⟨m,M0.drop a++M0.take a,T,l,n1+c+1+t,⟨m1,m3,fun r hr=>?_,T1,?_,fun r hr=>?_,?_,fun r hr=>?_,by lia,?_,B.l1,fun k hk=>?_⟩,by lia,fun b=>?_⟩
 ·rcases mem0 r (pm.mem_iff.mp hr) with ⟨k,hk,rfl⟩|h
  ·exact ⟨hk,B.q1 k hk,B.q2 k hk⟩
  ·exact E1 r h
 ·rw [(pm.map _).nodup_iff,nm];exact List.nodup_range'
 ·rcases mem0 r (pm.mem_iff.mp hr) with ⟨k,hk,rfl⟩|h
  ·exact ⟨by show 3<=3+k;lia,by show 3+k<10;lia⟩
  ·have:=hE r h;lia
 ·rw [T2];exact List.nodup_range'
 ·have:=List.mem_map_of_mem (f:=(·.1)) hr;rw [T2,List.mem_range'_1] at this;lia
 ·rw [pm.length_eq];lia
 ·refine ⟨(3+k,k,q k),pm.mem_iff.mpr ?_,rfl,rfl,B.le k hk⟩;rw [<-hM0,List.mem_append]
  left
  unfold mk0;exact List.mem_map.mpr ⟨k,List.mem_range.mpr hk,rfl⟩
 ·refine tQ (k:=1) (ρ:=ss (.cel b (dk cs (n1+c+1+t))) N cell m M0 l x2 k3 o3 (.int a) (.lst (T.map (tkD N))) f3) ?_;show mL [.cel b (dk cs n),.lst ((List.range 26).map (sy N)),.uD,.uD,.uD,.uD,.uD,.uD,.uD,.uD,.uD,.uD,.uD]=_;rw [VF];refine aJ (ρ':=[.cel b (dk cs (n+1)),.lst ((List.range 26).map (sy N)),.int cell,.uD,.uD,.uD,.uD,.uD,.uD,.uD,.uD,.uD,.uD]) (gY (i:=2) (pA q1 rfl rfl) rfl) ?_;refine aJ (ρ':=[.cel b (dk cs (n+1)),.lst ((List.range 26).map (sy N)),.int cell,.int m,.uD,.uD,.uD,.uD,.uD,.uD,.uD,.uD,.uD]) (cD (i:=3) (aH (x:=.int 1) rfl (aH (x:=.int cell) rfl rfl (bV _ _ (by decide))) (by rw [cY,hm]))) ?_;refine aJ (ZZ (by lia) ..) (aJ (Z0 m3 ..) (aJ (Z1 hN hd m1 m3 ..) (aJ (s5 b) ?_)));refine aJ (rY (oJ (n:=(c:Int)) (aF (aH (aH (x:=.int cell) rfl rfl (cV _ _ (by decide) (by decide))) rfl ((bV _ _ (by decide)).trans (by rw [hc]))) rfl) (by lia) (by lia)) (by rw [Int.toNat_natCast,List.range_eq_range'];exact s6 b)) ?_;refine aJ (ρ':=ss (.cel b (dk cs (n1+c))) N cell m M0 l x2 k2 o2 (.int a) .uD .uD) (cD (i:=10) (aH (aH (x:=.int cell) rfl rfl (cV _ _ (by decide) (by decide))) (y:=.int M0.length) (bG (aF rfl rfl) ?_) ((bV _ _ (by lia)).trans (by rw [a2])))) ?_
  ·show Res.ok (D.int ((M0.map (rwD N)).length:Int))=_;rw [List.length_map]
  refine aJ (ρ':=ss (.cel b (dk cs (n1+c))) N cell m M0 l x2 k2 o2 (.int a) (.lst []) .uD) (eG (i:=11) rfl rfl) ?_;refine aJ (VJ (VH (n:=(t:Int)) (ρ':=ss (.cel b (dk cs (n1+c+1))) N cell m M0 l x2 k2 o2 (.int a) (.lst []) .uD) (pM (pA qv rfl rfl) rfl rfl ((bV _ _ (by decide)).trans (by rw [ht])) rfl) (by lia) (by lia)) (by rw [Int.toNat_natCast,List.range_eq_range'];exact s9 b)) ?_;refine O2 (aF (VL rfl rfl) (aF ?_ (aF (VL rfl rfl) (aF (VL rfl rfl) rfl)))) (by simp);rw [List.map_append];refine aH (x:=.lst ((M0.drop a).map (rwD N))) (y:=.lst ((M0.take a).map (rwD N))) ?_ ?_ (mJ _ _ ?_ (bQ (cQ N) _) (bQ (cQ N) _))
  ·rw [List.map_drop,<-xU];exact mW rfl (fQ rfl) rfl (bQ (cQ N) _)
  ·rw [List.map_take,<-QZ];exact mW rfl rfl (fQ rfl) (bQ (cQ N) _)
  ·rw [List.length_map,List.length_map,List.length_drop,List.length_take,a_];lia
theorem Z8 (cs:List Int) (n:Nat) (hn:n<=900):∃(m:Nat) (M:List Rw) (T:List Tk) (l:Nat->Nat) (n':Nat),Sig m M T l/\n'<=n+9/\ch1 fZ (dk cs n) [.lst ((List.range 26).map (sy N))]=.ok (.lst [.lst ((List.range m).map (sy N)),.lst (M.map (rwD N)),.lst (T.map (tkD N)),.dct (lsD N m l)],dk cs n'):=by
 obtain ⟨m,M,T,l,n',h1,h2,h3⟩:=Z7 hN hd cs n hn;exact ⟨m,M,T,l,n',h1,h2,xG h3⟩
end
end Lk51
end
section
namespace Lk51
open PySem L2 Mi
theorem qP {c:FT} {body:FS} {n:Nat} {ρ ρ':List D} {r:Res Fl} (h1:c ρ=.ok true) (h2:body ρ=.ok (.nx ρ')) (h3:w6 c body n ρ'=r):w6 c body (n+1) ρ=r:=by
 rw [w6,h1,Res.aK,if_pos rfl,h2];exact h3
theorem vN {c:FT} {body:FS} {n:Nat} {ρ:List D} (h1:c ρ=.ok false):w6 c body (n+1) ρ=.ok (.nx ρ):=by
 rw [w6,h1];rfl
theorem pO:∀ns:List Int,intsOf (ns.map D.int)=some ns
 | []=>rfl
 | n::ns=>by
  show (intsOf (ns.map D.int)).map (n::·)=_;rw [pO ns];rfl
def wc:FT:=(bTB (b2 (b8 .ne) kI (iV aR)))
def wb0:FS:=(y_ 7 9)
noncomputable def wb1:FS:=(bL false 10 (b2 (aN .sub) (b2 (aN .add) m_ (b2 getD fO iZ)) cJ) true)
noncomputable def wb2:FS:=(bL false 11 (cG 14 (bJ fL false) i_ (zW (bTB (b2 (b8 .eq) (b2 getD gQ cJ) iZ)) (bTB (b2 (b8 (.ord .le)) (bD u9 (aB (cG 15 (bJ (b2 getD gQ gW) false) i_ (fG) (b2 getD fO rE) false) aR)) j8))) gQ false) true)
noncomputable def wb3:FS:=(bL false 12 (cG 14 (bJ gR false) i_ (bTB (b2 inX iZ (b2 getD gQ gW))) gQ false) true)
noncomputable def wb4:FS:=(sIf (zW (bTr cL) (bTB (b2 (b8 .ne) nA (iV aR)))) (sAl 11 12) (lU))
noncomputable def wb5:FS:=(fW false 13 (x2R getD gR (x2L (aN .mod) (bZ aL 1 0 aR) (bD jF (aB gR aR)))))
def wb6:FS:=(pQ 6 (b2 getD eU iI))
noncomputable def wb7:FS:=(bL false 8 (b2 (aN .sub) j8 (bD u9 (aB (cG 14 (bJ (b2 getD eU gW) false) i_ (fG) (b2 getD fO gQ) false) aR))) true)
def wb8:FS:=(T_ 7 (b1 QS (b2 getD eU gW)))
noncomputable def wb:FS:=(bA wb0 (bA wb1 (bA wb2 (bA wb3 (bA wb4 (bA wb5 (bA wb6 (bA wb7 wb8))))))))
inductive Run (H:List Rw):List Nat->List Nat->Prop
 | nil:Run H [] []
 | step {r:Rw} {rest W:List Nat}:r∈H->Run H (r.2.2++rest) W->Run H (r.2.1::rest) (r.1::W)
theorem VM {i j:Nat} {ρ xs:List D} {x:D} (h:ρ.getD i .uD=.lst (xs++[x])) {ρ':List D} (he:(ρ.set i (.lst xs)).set j x=ρ'):y_ i j ρ=.ok (.nx ρ'):=by
 subst he;unfold y_;rw [h];dsimp only;rw [List.length_append,List.length_singleton,Nat.add_sub_cancel,List.getElem?_append_right (Nat.le_refl _),Nat.sub_self,List.dropLast_concat];rfl
theorem Q5 {i:Nat} {ρ:List D} {f:FE} {xs ys:List D} (h1:f ρ=.ok (.lst ys)) (h2:ρ.getD i .uD=.lst xs) (hl:xs.length+ys.length<=10000) (hp:D.aU ys=true):T_ i f ρ=.ok (.nx (ρ.set i (.lst (xs++ys)))):=by
 unfold T_;rw [h1,Res.aK,h2];dsimp only;rw [if_pos (by rw [hp,a_,decide_eq_true (by lia)];rfl)]
theorem qQ {α:Type} {N:List Str} (hN:N.length=26) (hd:N.Nodup) (nm:α->Nat) (g:α->D):∀(L:List α),(L.map nm).Nodup->(∀a∈L,nm a<26)->∀a∈L,dZ (L.map fun a=>(sy N (nm a),g a)) (sy N (nm a))=some (g a)
 | [],_,_,a,ha=>by simp at ha
 | b::L,h1,h2,a,ha=>by
  rw [List.map_cons,dZ,tX hN hd (h2 b (List.mem_cons_self ..)) (h2 a ha)];rw [List.map_cons,List.nodup_cons] at h1;rcases List.mem_cons.mp ha with e|e
  ·subst e;rw [decide_eq_true rfl,if_pos rfl]
  ·have:¬nm b=nm a:=fun g=>h1.1 (g▸List.mem_map_of_mem (f:=nm) e)
   rw [decide_eq_false this,if_neg (by simp)];exact qQ hN hd nm g L h1.2 (fun c hc=>h2 c (List.mem_cons_of_mem _ hc)) a e
theorem xX (N:List Str):∀H:List Rw,D.bY 11 (H.map (rwD N))=true
 | []=>by rw [List.map_nil,D.bY]
 | r::H=>by
  rw [List.map_cons,D.bY,xX N H];unfold rwD;rw [D.bK,D.bY,D.bY,D.bY,D.bY,D.bK,fY];unfold sy;rw [D.bK,D.bK] <;> simp
section
variable {N:List Str} (hN:N.length=26) (hd:N.Nodup)
include hN hd
theorem oX {m:Nat} (hm:m<=3) {l:Nat->Nat} {k:Nat} (hk:k<m):getD (.dct (lsD N m l)) (sy N k)=.ok (.int (l k)):=by
 show (if true then Res.ofOpt (dZ (lsD N m l) (sy N k)) else .bad)=_;rw [if_pos rfl];have:=qQ hN hd (fun k:Nat=>k) (fun k=>D.int (l k)) (List.range m) (by rw [List.map_id'];exact List.nodup_range) (fun a ha=>by have:=List.mem_range.mp ha;lia) k (List.mem_range.mpr hk);unfold lsD;rw [this];rfl
omit hN hd in
theorem xY (l:Nat->Nat):∀ps:List Nat,(ps.map fun k=>((l k:Nat):Int)).sum=(((ps.map l).sum:Nat):Int)
 | []=>rfl
 | p::ps=>by
  rw [List.map_cons,List.map_cons,List.sum_cons,List.sum_cons,xY l ps];lia
theorem Q6 {m:Nat} (hm:m<=3) {l:Nat->Nat} (hl:∀k,k<m->1<=l k/\l k<=4) {f:FE} {ρ:List D} {n:Nat} {ps:List Nat} (hρ:ρ.length=n) (hf:f ρ=.ok (.tup (ps.map (sy N)))) (hp:∀i∈ps,i<m) (hpl:ps.length<=100) (h5:∀k,bR 5 (ρ++[sy N k])=.ok (.dct (lsD N m l))) (hn:∀k,bR n (ρ++[sy N k])=.ok (sy N k)) :
  bD u9 (aB (cG n (bJ f false) i_ (fG) (b2 getD fO (bR n)) false) aR) ρ=.ok (.int ((ps.map l).sum:Nat)):=by
 refine bG (aF (fX (sy N) (fun k=>D.int (l k)) ps hρ (jV hf) (by lia) fun k hk=>⟨aH (h5 k) (hn k) (oX hN hd hm (hp k hk)),rfl⟩) rfl) ?_;show (match intsOf (ps.map fun k=>D.int (l k)) with|some ns=>if ns.all (fun i=>decide (-1000<=i)&&decide (i<=1000))&&decide (ns.length<=100000) then Res.ok (D.int ns.sum) else .bad|none=>.bad)=_;have e:(ps.map fun k=>D.int (l k))=(ps.map fun k=>((l k:Nat):Int)).map D.int:=by rw [List.map_map];rfl
 rw [e,pO];dsimp only;rw [xY,if_pos];rw [Bool.and_eq_true,List.all_eq_true,decide_eq_true_eq,List.length_map];refine ⟨fun i hi=>?_,by lia⟩;obtain ⟨k,hk,rfl⟩:=List.mem_map.mp hi;have:=hl k (hp k hk);rw [Bool.and_eq_true,decide_eq_true_eq,decide_eq_true_eq];lia
omit hN hd in
theorem fU {ρ:List D} {i:Nat} {r:Rw} (h:bR i ρ=.ok (rwD N r)):b2 getD (bR i) iI ρ=.ok (sy N r.1)/\b2 getD (bR i) cJ ρ=.ok (sy N r.2.1)/\b2 getD (bR i) gW ρ=.ok (.tup (r.2.2.map (sy N))):=⟨aH h rfl rfl,aH h rfl rfl,aH h rfl rfl⟩
theorem xZ {i j:Nat} (hi:i<26) (hj:j<26):b8 .eq (sy N i) (sy N j)=.ok (.bl (decide (i=j))):=by
 show (if (sy N i).bK aQ&&(sy N j).bK aQ then Res.ok (D.bl (eqD (sy N i) (sy N j))) else .bad)=_;rw [jN,jN,tX hN hd hi hj];rfl
theorem J2 {i j:Nat} (hi:i<26) (hj:j<26):b8 .ne (sy N i) (sy N j)=.ok (.bl (!decide (i=j))):=by
 show (if (sy N i).bK aQ&&(sy N j).bK aQ then Res.ok (D.bl (!eqD (sy N i) (sy N j))) else .bad)=_;rw [jN,jN,tX hN hd hi hj];rfl
theorem aBl {i:Nat} {l:List Nat} (hi:i<26) (hl:∀j∈l,j<26):b8 .isin (sy N i) (.tup (l.map (sy N)))=.ok (.bl (decide (i∈l))):=by
 show (if (sy N i).bK aQ&&D.bY aQ (l.map (sy N)) then Res.ok (D.bl ((l.map (sy N)).any fun y=>eqD y (sy N i))) else .bad)=_;rw [jN,fY,xV hN hd hi l hl];rfl
theorem O3 {i:Nat} {l:List Nat} (hi:i<26) (hl:∀j∈l,j<26):b8 .notin (sy N i) (.tup (l.map (sy N)))=.ok (.bl (!decide (i∈l))):=by
 show (if (sy N i).bK aQ&&D.bY aQ (l.map (sy N)) then Res.ok (D.bl (!(l.map (sy N)).any fun y=>eqD y (sy N i))) else .bad)=_;rw [jN,fY,xV hN hd hi l hl];rfl
theorem Z9 {i:Nat} {l:List Nat} (hi:i<26) (hl:∀j∈l,j<26):b8 .isin (sy N i) (.lst (l.map (sy N)))=.ok (.bl (decide (i∈l))):=by
 show (if (sy N i).bK aQ&&D.bY aQ (l.map (sy N)) then Res.ok (D.bl ((l.map (sy N)).any fun y=>eqD y (sy N i))) else .bad)=_;rw [jN,fY,xV hN hd hi l hl];rfl
omit hN hd in
theorem aBm (H:List Rw):b8 .ne (.lst (H.map (rwD N))) (.lst [])=.ok (.bl (!H.isEmpty)):=by
 show (if D.bY 11 (H.map (rwD N))&&D.bY 11 [] then Res.ok (D.bl (!oY (H.map (rwD N)) [])) else .bad)=_;rw [xX,D.bY];cases H <;> rfl
omit hN hd in
theorem Z_ (l:List Nat):b8 .ne (.lst (l.map (sy N))) (.lst [])=.ok (.bl (!l.isEmpty)):=by
 show (if D.bY 11 (l.map (sy N))&&D.bY 11 [] then Res.ok (D.bl (!oY (l.map (sy N)) [])) else .bad)=_;rw [fY,D.bY];cases l <;> rfl
omit hN hd in
theorem Q7 (l:List Nat):b8 .eq (.lst (l.map (sy N))) (.lst [])=.ok (.bl l.isEmpty):=by
 show (if D.bY 11 (l.map (sy N))&&D.bY 11 [] then Res.ok (D.bl (oY (l.map (sy N)) [])) else .bad)=_;rw [fY,D.bY];cases l <;> rfl
omit hN hd in
theorem aCx (v:Int):rG .gt [.int 0,.int v]=.ok (.int (if 0<v then v else 0)):=by
 show lR .gt [.int 0,.int v]=_;have h:∀x y:Int,nG .gt (.int x) (.int y)=some (decide (y<x)):=fun x y=>rfl
 have hall:([D.int 0,D.int v].all fun x=>x.bK aQ&&[D.int 0,D.int v].all fun y=>(nG .gt x y).isSome)=true:=by
  simp only [List.all_cons,List.all_nil,h,Option.isSome_some,Bool.and_true];rfl
 rw [lR,if_pos hall];simp only [List.foldl_cons,List.foldl_nil,h,Option.getD_some];by_cases hr:0<v
 ·simp [hr]
 ·simp [hr]
end
end Lk51
end
section
namespace Lk51
open PySem L2 Mi
structure aAm (m:Nat) (H:List Rw) (l:Nat->Nat):Prop where
 m3:m<=3
 lb:∀k,k<m->1<=l k/\l k<=4
 hl:H.length<=100
 hg:∀r∈H,Gr m r
 ba:∀k,k<m->∃r∈H,r.2.1=k/\1+(r.2.2.map l).sum<=l k
noncomputable abbrev wst (hD:D) (N:List Str) (H:List Rw) (w most:D) (full:Bool) (m:Nat) (l:Nat->Nat) (W st:List Nat) (left:Nat) (a b c d e:D):List D:=[hD,.lst (H.map (rwD N)),w,most,.bl full,.dct (lsD N m l),.lst (W.map (sy N)),.lst (st.reverse.map (sy N)),.int left,a,b,c,d,e]
theorem aBn {a:FE} {ρ:List D} {b:Bool} (h:a ρ=.ok (.bl b)):bTr a ρ=.ok b:=by
 unfold bTr;rw [h];rfl
theorem VN {N:List Str} {cs:List Int} {n:Nat} {H:List Rw} {w most:D} {full:Bool} {m:Nat} {l:Nat->Nat} {W rest:List Nat} {left:Nat} {a b d e:D} {S:List Rw} {v:Int} {i:Nat} {r:Rw} {z:Nat} (qv:ch1 aL (dk cs n) []=.ok (.int v,dk cs (n+1))) (lS:0<S.length) (i2:v % (S.length:Int)=i) (hi:S[i]?=some r):wb5 (wst (.cel z (dk cs n)) N H w most full m l W rest left a b (.lst (S.map (rwD N))) d e)=.ok (.nx (wst (.cel z (dk cs (n+1))) N H w most full m l W rest left a b (.lst (S.map (rwD N))) d (rwD N r))):=by
 have hl:∀ρ:List D,bR 11 ρ=.ok (.lst (S.map (rwD N)))->(bD jF (aB gR aR)) ρ=.ok (.int S.length):=fun ρ h=>bG (aF h rfl) (by
  show Res.ok (D.int ((S.map (rwD N)).length:Int))=_;rw [List.length_map])
 exact gY (i:=13) (ZM (x:=.lst (S.map (rwD N))) rfl (pM (pA qv rfl rfl) rfl (hl _ rfl) (bV _ _ (by lia)) rfl) (mV i2 hi) (cQ ..)) rfl
section
variable {N:List Str} (hN:N.length=26) (hd:N.Nodup)
include hN hd
theorem turn {cs:List Int} {n:Nat} {H:List Rw} {w most:D} {full:Bool} {m:Nat} {l:Nat->Nat} (P:aAm m H l) {W rest:List Nat} {k left:Nat} (hk:k<m) (hn:n<=10000) (hW:W.length<=10000) (hr:rest.length<=5000) (a b c d e:D) :
  ∃r∈H,r.2.1=k/\∃(left':Nat) (a' b' c' d' e':D),left'+(r.2.2.map l).sum+1=left+l k/\∀z,wb (wst (.cel z (dk cs n)) N H w most full m l W (k::rest) left a b c d e)=.ok (.nx (wst (.cel z (dk cs (n+1))) N H w most full m l (W++[r.1]) (r.2.2++rest) left' a' b' c' d' e')):=by
 have hk1:=P.lb k hk;have m3:=P.m3;obtain ⟨v,qv⟩:=gZ cs n (by lia)
 let room:Nat:=left+l k-1
 have hroom:(left:Int)+(l k:Nat)-1=(room:Int):=by show _=((left+l k-1:Nat):Int);lia
 let p1:Rw->Bool:=fun r=>decide (r.2.1=k)&&decide ((((r.2.2.map l).sum:Nat):Int)<=(room:Int))
 let p2:Rw->Bool:=fun r=>decide (k∈r.2.2)
 let S1:=H.filter p1
 let S2:=S1.filter p2
 let S:=if (full&&!S2.isEmpty)=true then S2 else S1
 have sub1:∀r∈S1,r∈H/\r.2.1=k/\(r.2.2.map l).sum<=room:=fun r hr=>by
  have:=List.mem_filter.mp hr;have h2:(decide (r.2.1=k)&&decide ((((r.2.2.map l).sum:Nat):Int)<=(room:Int)))=true:=this.2;rw [Bool.and_eq_true,decide_eq_true_eq,decide_eq_true_eq] at h2;exact ⟨this.1,h2.1,by lia⟩
 have ne1:S1≠[]:=by
  obtain ⟨r,hr,e1,e2⟩:=P.ba k hk;have:r∈S1:=List.mem_filter.mpr ⟨hr,by
   show (decide (r.2.1=k)&&decide ((((r.2.2.map l).sum:Nat):Int)<=(room:Int)))=true;rw [Bool.and_eq_true,decide_eq_true_eq,decide_eq_true_eq];exact ⟨e1,by lia⟩⟩
  exact List.ne_nil_of_mem this
 have subS:∀r∈S,r∈S1:=fun r hr=>by
  have hr':r∈(if (full&&!S2.isEmpty)=true then S2 else S1):=hr;split at hr'
  ·exact (List.mem_filter.mp hr').1
  ·exact hr'
 have neS:S≠[]:=by
  show (if (full&&!S2.isEmpty)=true then S2 else S1)≠[];split
  ·rename_i h;rw [Bool.and_eq_true] at h;intro g;rw [g] at h;exact absurd h.2 (by decide)
  ·exact ne1
 have lS:0<S.length:=List.length_pos_iff.mpr neS;obtain ⟨i,i1,i2⟩:=kix (m:=S.length) (by lia) v;have hi:S[i]?=some S[i]:=List.getElem?_eq_getElem i1;obtain ⟨g1,g2,g3⟩:=sub1 _ (subS _ (List.getElem_mem i1));generalize hr0:S[i]=r at g1 g2 g3 hi;obtain ⟨u1,u2,u3⟩:=P.hg r g1;refine ⟨r,g1,g2,room-(r.2.2.map l).sum,sy N k,.int room,.lst (S.map (rwD N)),.lst (S2.map (rwD N)),rwD N r,by lia,fun z=>?_⟩;have t0:wb0 (wst (.cel z (dk cs n)) N H w most full m l W (k::rest) left a b c d e)=.ok (.nx (wst (.cel z (dk cs n)) N H w most full m l W rest left (sy N k) b c d e)):=VM (i:=7) (j:=9) (xs:=rest.reverse.map (sy N)) (x:=sy N k) (by
  show D.lst ((k::rest).reverse.map (sy N))=_;rw [List.reverse_cons,List.map_append];rfl) rfl
 have t1:wb1 (wst (.cel z (dk cs n)) N H w most full m l W rest left (sy N k) b c d e)=.ok (.nx (wst (.cel z (dk cs n)) N H w most full m l W rest left (sy N k) (.int room) c d e)):=by
  rw [<-hroom];exact cD (i:=10) (aH (aH (x:=.int left) rfl (aH rfl rfl (oX hN hd m3 hk)) (cY _ _)) rfl (sE _ _))
 have t2:wb2 (wst (.cel z (dk cs n)) N H w most full m l W rest left (sy N k) (.int room) c d e)=.ok (.nx (wst (.cel z (dk cs n)) N H w most full m l W rest left (sy N k) (.int room) (.lst (S1.map (rwD N))) d e)):=by
  refine cD (i:=11) (oW (n:=14) (rwD N) (rwD N) p1 H rfl (dY rfl) (by have:=P.hl;lia) (fun r hr=>?_) fun r hr _=>⟨rfl,cQ ..⟩);obtain ⟨v1,v2,v3⟩:=P.hg r hr;have c1:∀ρ:List D,bR 14 ρ=.ok (rwD N r)->bR 9 ρ=.ok (sy N k)->(bTB (b2 (b8 .eq) (b2 getD gQ cJ) iZ)) ρ=.ok (decide (r.2.1=k)):=fun ρ e1 e2=>d7 (aH (fU e1).2.1 e2 (xZ hN hd (by lia) (by lia)))
  by_cases hrk:r.2.1=k
  ·refine (T7 ((c1 _ rfl rfl).trans (by rw [decide_eq_true hrk])) (d7 (aH (Q6 hN hd m3 P.lb (n:=15) rfl (aH rfl rfl rfl) v2 (by lia) (fun _=>rfl) (fun _=>rfl)) rfl (ZP _ _)))).trans ?_;show _=Res.ok (decide (r.2.1=k)&&decide ((((r.2.2.map l).sum:Nat):Int)<=(room:Int)));rw [decide_eq_true hrk,Bool.true_and]
  ·refine (T8 ((c1 _ rfl rfl).trans (by rw [decide_eq_false hrk]))).trans ?_;show _=Res.ok (decide (r.2.1=k)&&decide ((((r.2.2.map l).sum:Nat):Int)<=(room:Int)));rw [decide_eq_false hrk,Bool.false_and]
 have t3:wb3 (wst (.cel z (dk cs n)) N H w most full m l W rest left (sy N k) (.int room) (.lst (S1.map (rwD N))) d e)=.ok (.nx (wst (.cel z (dk cs n)) N H w most full m l W rest left (sy N k) (.int room) (.lst (S1.map (rwD N))) (.lst (S2.map (rwD N))) e)):=by
  refine cD (i:=12) (oW (n:=14) (rwD N) (rwD N) p2 S1 rfl (dY rfl) (by have:=P.hl;have:S1.length<=H.length:=List.length_filter_le ..;lia) (fun r hr=>?_) fun r hr _=>⟨rfl,cQ ..⟩);obtain ⟨v1,v2,v3⟩:=P.hg r (sub1 r hr).1;exact d7 (aH rfl (aH rfl rfl rfl) (aBl hN hd (by lia) fun j hj=>by have:=v2 j hj;lia))
 have t4:wb4 (wst (.cel z (dk cs n)) N H w most full m l W rest left (sy N k) (.int room) (.lst (S1.map (rwD N))) (.lst (S2.map (rwD N))) e)=.ok (.nx (wst (.cel z (dk cs n)) N H w most full m l W rest left (sy N k) (.int room) (.lst (S.map (rwD N))) (.lst (S2.map (rwD N))) e)):=by
  have cnd:∀ρ:List D,bR 4 ρ=.ok (.bl full)->bR 12 ρ=.ok (.lst (S2.map (rwD N)))->(zW (bTr cL) (bTB (b2 (b8 .ne) nA (iV aR)))) ρ=.ok (full&&!S2.isEmpty):=fun ρ e1 e2=>by
   have e3:bTr cL ρ=.ok full:=aBn e1;cases full
   ·exact T8 e3
   ·exact T7 e3 (d7 (aH e2 rfl (aBm S2)))
  refine T6 (cnd _ rfl rfl) ?_;by_cases h:(full&&!S2.isEmpty)=true
  ·rw [if_pos h];have:S=S2:=if_pos h;rw [this];exact T5 rfl
  ·rw [if_neg h];have:S=S1:=if_neg h;rw [this];rfl
 have t5:wb5 (wst (.cel z (dk cs n)) N H w most full m l W rest left (sy N k) (.int room) (.lst (S.map (rwD N))) (.lst (S2.map (rwD N))) e)=.ok (.nx (wst (.cel z (dk cs (n+1))) N H w most full m l W rest left (sy N k) (.int room) (.lst (S.map (rwD N))) (.lst (S2.map (rwD N))) (rwD N r))):=VN qv lS i2 hi;have t6:wb6 (wst (.cel z (dk cs (n+1))) N H w most full m l W rest left (sy N k) (.int room) (.lst (S.map (rwD N))) (.lst (S2.map (rwD N))) (rwD N r))=.ok (.nx (wst (.cel z (dk cs (n+1))) N H w most full m l (W++[r.1]) rest left (sy N k) (.int room) (.lst (S.map (rwD N))) (.lst (S2.map (rwD N))) (rwD N r))):=by
  have ha:=mZ (i:=6) (ρ:=wst (.cel z (dk cs (n+1))) N H w most full m l W rest left (sy N k) (.int room) (.lst (S.map (rwD N))) (.lst (S2.map (rwD N))) (rwD N r)) (xs:=W.map (sy N)) (fU (i:=13) (r:=r) rfl).1 rfl (by rw [List.length_map,a_];lia) rfl;refine ha.trans ?_;unfold wst;rw [List.map_append];rfl
 have t7:wb7 (wst (.cel z (dk cs (n+1))) N H w most full m l (W++[r.1]) rest left (sy N k) (.int room) (.lst (S.map (rwD N))) (.lst (S2.map (rwD N))) (rwD N r))=.ok (.nx (wst (.cel z (dk cs (n+1))) N H w most full m l (W++[r.1]) rest (room-(r.2.2.map l).sum) (sy N k) (.int room) (.lst (S.map (rwD N))) (.lst (S2.map (rwD N))) (rwD N r))):=by
  have e:((room-(r.2.2.map l).sum:Nat):Int)=(room:Int)-((r.2.2.map l).sum:Nat):=by lia
  unfold wst;rw [e];exact cD (i:=8) (aH (x:=.int room) rfl (Q6 hN hd m3 P.lb (n:=14) rfl (aH rfl rfl rfl) u2 (by lia) (fun _=>rfl) (fun _=>rfl)) (sE _ _))
 have t8:wb8 (wst (.cel z (dk cs (n+1))) N H w most full m l (W++[r.1]) rest (room-(r.2.2.map l).sum) (sy N k) (.int room) (.lst (S.map (rwD N))) (.lst (S2.map (rwD N))) (rwD N r))=.ok (.nx (wst (.cel z (dk cs (n+1))) N H w most full m l (W++[r.1]) (r.2.2++rest) (room-(r.2.2.map l).sum) (sy N k) (.int room) (.lst (S.map (rwD N))) (.lst (S2.map (rwD N))) (rwD N r))):=by
  have hx:=Q5 (i:=7) (ρ:=wst (.cel z (dk cs (n+1))) N H w most full m l (W++[r.1]) rest (room-(r.2.2.map l).sum) (sy N k) (.int room) (.lst (S.map (rwD N))) (.lst (S2.map (rwD N))) (rwD N r)) (f:=b1 QS (b2 getD eU gW)) (xs:=rest.reverse.map (sy N)) (ys:=r.2.2.reverse.map (sy N)) (zQ (fU (i:=13) (r:=r) rfl).2.2 (by
   show (if D.aU (r.2.2.map (sy N))&&decide ((r.2.2.map (sy N)).length<=lim) then Res.ok (D.lst (r.2.2.map (sy N)).reverse) else .bad)=_;rw [bO,List.length_map,a_,decide_eq_true (by lia),<-List.map_reverse];rfl)) rfl (by rw [List.length_map,List.length_reverse,List.length_map,List.length_reverse];lia) (bO ..)
  refine hx.trans ?_;have e7:((r.2.2++rest).reverse.map (sy N))=rest.reverse.map (sy N)++r.2.2.reverse.map (sy N):=by rw [List.reverse_append,List.map_append]
  unfold wst;rw [e7];rfl
 exact aJ t0 (aJ t1 (aJ t2 (aJ t3 (aJ t4 (aJ t5 (aJ t6 (aJ t7 t8)))))))
theorem aA0 {cs:List Int} {H:List Rw} {w most:D} {full:Bool} {m:Nat} {l:Nat->Nat} (P:aAm m H l):∀(μ n fuel:Nat) (W st:List Nat) (left:Nat) (a b c d e:D),left+(st.map l).sum=μ->μ<fuel->n+μ<=5000->W.length+μ<=5000->(∀k∈st,k<m)->
  ∃(V:List Nat) (n':Nat) (left':Nat) (a' b' c' d' e':D),Run H st V/\V.length<=μ/\n'<=n+μ/\∀z,w6 wc wb fuel (wst (.cel z (dk cs n)) N H w most full m l W st left a b c d e)=.ok (.nx (wst (.cel z (dk cs n')) N H w most full m l (W++V) [] left' a' b' c' d' e'))
 | μ,n,0,W,st,left,a,b,c,d,e,h1,h2,_,_,_=>absurd h2 (Nat.not_lt_zero _)
 | μ,n,fuel+1,W,[],left,a,b,c,d,e,h1,h2,_,_,_=>⟨[],n,left,a,b,c,d,e,.nil,Nat.zero_le _,by lia,fun z=>by
   rw [List.append_nil];exact vN (d7 (aH rfl rfl (Z_ (N:=N) [])))⟩
 | 0,n,fuel+1,W,k::rest,left,a,b,c,d,e,h1,h2,_,_,h5=>by
   have:=P.lb k (h5 k (List.mem_cons_self ..));rw [List.map_cons,List.sum_cons] at h1;lia
 | μ+1,n,fuel+1,W,k::rest,left,a,b,c,d,e,h1,h2,h3,h4,h5=>by
   have hk:=h5 k (List.mem_cons_self ..);have lbs:∀st:List Nat,(∀k∈st,k<m)->st.length<=(st.map l).sum:=by
    intro st;induction st with
    | nil=>intro _;simp
    | cons x xs ih=>
     intro h;have:=ih fun k hk=>h k (List.mem_cons_of_mem _ hk)
     have:=P.lb x (h x (List.mem_cons_self ..));rw [List.map_cons,List.sum_cons,List.length_cons];lia
   have hrest:∀k∈rest,k<m:=fun j hj=>h5 j (List.mem_cons_of_mem _ hj)
   have hlr:=lbs rest hrest;rw [List.map_cons,List.sum_cons] at h1;obtain ⟨r,r1,r2,left',a',b',c',d',e',r3,r4⟩:=turn hN hd (cs:=cs) (n:=n) (w:=w) (most:=most) (full:=full) P (W:=W) (rest:=rest) (k:=k) (left:=left) hk (by lia) (by lia) (by lia) a b c d e;have hp:=(P.hg r r1).2.1;obtain ⟨V,n',left2,a2,b2,c2,d2,e2,q1,q2,q3,q4⟩:=aA0 P μ (n+1) fuel (W++[r.1]) (r.2.2++rest) left' a' b' c' d' e' (by rw [List.map_append,List.sum_append];lia) (by lia) (by lia) (by rw [List.length_append,List.length_singleton];lia) (fun j hj=>by
    rcases List.mem_append.mp hj with h|h
    ·exact hp j h
    ·exact hrest j h)
   refine ⟨r.1::V,n',left2,a2,b2,c2,d2,e2,r2▸.step r1 q1,by rw [List.length_cons];lia,by lia,fun z=>?_⟩;refine qP (d7 (aH rfl rfl ((Z_ (N:=N) (k::rest).reverse).trans ?_))) (r4 z) ?_
   ·rw [List.reverse_cons];cases rest.reverse <;> rfl
   ·rw [q4 z,List.append_assoc];rfl
theorem O4 (cs:List Int) {n:Nat} {H:List Rw} {full:Bool} {m:Nat} {l:Nat->Nat} (P:aAm m H l) {k most:Nat} (hk:k<m) (hm:most<=390) (hn:n<=1000) :
  ∃(V:List Nat) (n':Nat),Run H [k] V/\V.length<=390/\n'<=2000/\ch1 dW (dk cs n) [.lst (H.map (rwD N)),sy N k,.int most,.bl full,.dct (lsD N m l)]=.ok (.lst (V.map (sy N)),dk cs n'):=by
 have hk1:=P.lb k hk
 let left:Nat:=most-l k
 obtain ⟨V,n',left',a',b',c',d',e',h1,h2,h3,h4⟩:=aA0 hN hd (cs:=cs) (w:=sy N k) (most:=.int most) (full:=full) P (left+l k) n 1000 [] [k] left .uD .uD .uD .uD .uD (by simp) (by show most-l k+l k<1000;lia) (by show n+(most-l k+l k)<=_;lia) (by show 0+(most-l k+l k)<=_;lia) (fun j hj=>by rw [List.mem_singleton] at hj;lia);refine ⟨V,n',h1,Nat.le_trans h2 (by show most-l k+l k<=_;lia),by lia,xG fun z=>tQ (k:=1) (ρ:=wst (.cel z (dk cs n')) N H (sy N k) (.int most) full m l V [] left' a' b' c' d' e') ?_⟩;refine aJ (ρ':=[.cel z (dk cs n),.lst (H.map (rwD N)),sy N k,.int most,.bl full,.dct (lsD N m l),.lst [],.uD,.uD,.uD,.uD,.uD,.uD,.uD]) (eG (i:=6) rfl rfl) ?_;refine aJ (ρ':=[.cel z (dk cs n),.lst (H.map (rwD N)),sy N k,.int most,.bl full,.dct (lsD N m l),.lst [],.lst [sy N k],.uD,.uD,.uD,.uD,.uD,.uD]) (eG (i:=7) rfl rfl) ?_;refine aJ (ρ':=wst (.cel z (dk cs n)) N H (sy N k) (.int most) full m l [] [k] left .uD .uD .uD .uD .uD) (dM (i:=8) (d:=.int left) (bG (aF rfl (aF (aH (x:=.int most) rfl (aH rfl rfl (oX hN hd P.m3 hk)) (sE _ _)) rfl)) ((aCx _).trans ?_)) rfl) ?_
 ·congr 2
  show _=((most-l k:Nat):Int);split <;> lia
 refine aJ (h4 z) ?_;exact xO rfl rfl
end
end Lk51
end
section
namespace Lk51
open PySem L2 Mi
theorem call_v {n m:Nat} {f:FS} {ds:List D} {d:D} (h:f (ds++List.replicate (m-n) D.uD)=.ok (.rt d)):fnS n m f ds=.ok d:=by
 unfold fnS;rw [h];rfl
theorem x_ {a:FT} {ρ:List D} {b:Bool} (h:a ρ=.ok b):EY a ρ=.ok (!b):=by
 unfold EY;rw [h,Res.aK];rfl
theorem zR {a:FE} {ρ:List D} {b:Bool} (h:a ρ=.ok (.bl b)):bTr a ρ=.ok b:=by
 unfold bTr;rw [h,Res.aK];rfl
def ec:FT:=(bTB (b2 (b8 (.ord .gt)) cL iI))
noncomputable def eb:FS:=(bA (bL false 4 (b2 (aN .add) (b2 (aN .sub) cL cJ) (bD jF (aB (b2 getD (b2 getD oZ (b2 getD fL cF)) cJ) aR))) true) (bL false 3 (b2 (aN .add) cF cJ) true))
def pc:FT:=(bTB (b2 (b8 (.ord .lt)) cL (bD jF (aB fL aR))))
noncomputable def pb:FS:=(bA (bL false 5 (bD (tZ 3 eN) (aB dH (aB fL (aB cL aR)))) true) (bA (pQ 3 (iY fL (cN cL) (cN fO))) (sAl 4 5)))
noncomputable def hb0:FS:=(sIf (bOr (EY (bTr (b1 (uM .str) cL))) (bOr (bTB (b2 (b8 .notin) cL dH)) (bTB (b2 (b8 .eq) cF (iV aR))))) (rH (bC (.bl false)) true) (lU))
noncomputable def hb1:FS:=(UL (xTB (x2L (b8 .ne) (zF 3) (b2 getD (b2 getD dH cL) cJ))) (rH (bC (.bl false)) true) (lU))
def hb2:FS:=(T_ 3 (b1 QS (b2 getD (b2 getD dH cL) gW)))
def hb:FS:=(bA hb0 (bA hb1 hb2))
def hdV (N:List Str) (r:Rw):D:=.tup [sy N r.2.1,.tup (r.2.2.map (sy N))]
def hdD (N:List Str) (F:List Rw):List (D×D):=F.map fun r=>(sy N r.1,hdV N r)
def stD (N:List Str) (F:List Rw):List (D×D):=F.map fun r=>(sy N r.1,rwD N r)
def tr (t:Tk):Rw:=(t.1,t.2.1,t.2.2.1::t.2.2.2)
theorem yC (N:List Str) (r:Rw):(hdV N r).pure=true:=by
 show ((sy N r.2.1).pure&&((D.tup (r.2.2.map (sy N))).pure&&true))=true;rw [D.pure,bO];rfl
theorem J3 {H:List Rw} {st w:List Nat} (h:Run H st w):st.length<=w.length:=by
 induction h with
 | nil=>exact Nat.le_refl _
 | step hr _ ih=>
  rw [List.length_append] at ih;rw [List.length_cons,List.length_cons];lia
theorem J4 {H:List Rw}:∀{w a b:List Nat},Run H (a++b) w->∃u v,w=u++v/\Run H a u/\Run H b v
 | w,[],b,h=>⟨[],w,rfl,.nil,h⟩
 | w,k::a,b,h=>by
  have h':Run H (k::(a++b)) w:=h;cases h' with
  | @step r _ W hr h2=>
   rw [<-List.append_assoc] at h2;obtain ⟨u,v,e,h3,h4⟩:=J4 h2;exact ⟨r.1::u,v,by rw [e];rfl,.step hr h3,h4⟩
termination_by w=>w.length
theorem O5 {H F:List Rw} (hs:∀r∈H,r∈F) {st w:List Nat} (h:Run H st w):Run F st w:=by
 induction h with
 | nil=>exact .nil
 | step hr _ ih=>exact .step (hs _ hr) ih
theorem tY {H:List Rw}:∀{ps w:List Nat},Run H ps w->∃ws:List (List Nat),w=ws.flatten/\ws.length=ps.length/\∀(i p:Nat) (u:List Nat),ps[i]?=some p->ws[i]?=some u->Run H [p] u
 | [],w,h=>by
  cases h;exact ⟨[],rfl,rfl,fun i p u h=>by simp at h⟩
 | p::ps,w,h=>by
  obtain ⟨u,v,e,h1,h2⟩:=J4 (a:=[p]) (b:=ps) h;obtain ⟨ws,e1,e2,e3⟩:=tY h2;refine ⟨u::ws,by rw [e,e1];rfl,by rw [List.length_cons,List.length_cons,e2],fun i q x hq hx=>?_⟩;cases i with
  | zero=>
   simp at hq hx;subst hq hx;exact h1
  | succ i=>
   simp at hq hx;exact e3 i q x hq hx
section
variable {N:List Str} (hN:N.length=26) (hd:N.Nodup)
include hN hd
theorem qR {α:Type} (nm:α->Nat) (g:α->D) {i:Nat} (hi:i<26) (v:D):∀(L:List α),(∀a∈L,nm a<26)->i∉L.map nm->putD (L.map fun a=>(sy N (nm a),g a)) (sy N i) v=(L.map fun a=>(sy N (nm a),g a))++[(sy N i,v)]
 | [],_,_=>rfl
 | a::L,h1,h2=>by
  rw [List.map_cons,List.mem_cons,not_or] at h2;rw [List.map_cons,putD,tX hN hd (h1 a (List.mem_cons_self ..)) hi,decide_eq_false (fun g=>h2.1 g.symm),if_neg (by simp),qR nm g hi v L (fun b hb=>h1 b (List.mem_cons_of_mem _ hb)) h2.2];rfl
omit hN hd in
theorem yD {α:Type} (nm:α->Nat) (g:α->D) (L:List α) (i:Nat):zV (L.map fun a=>(sy N (nm a),g a)) (sy N i)=true:=by
 show (true&&(L.map fun a=>(sy N (nm a),g a)).all fun p=>isTup p.1==false)=true;rw [Bool.true_and,List.all_eq_true];intro y hy;obtain ⟨k,_,rfl⟩:=List.mem_map.mp hy;rfl
theorem yE {pr e f g h:D} (e5:D):∀(M L:List Rw),((L++M).map (·.1)).Nodup->(∀r∈L++M,r.1<26)->L.length+M.length<=1000->∀(a b c:D),∃a' b' c',nH (tgN [2,3,4]) (zY 1 dH (fV (aB cF (aB cL aR)))) (M.map (rwD N)) [pr,.dct (hdD N L),a,b,c,e5,f]=.ok (.nx [pr,.dct (hdD N (L++M)),a',b',c',e5,f])
 | [],L,_,_,_,a,b,c=>⟨a,b,c,by rw [List.append_nil];rfl⟩
 | r::M,L,h1,h2,h3,a,b,c=>by
  have hr:r.1<26:=h2 r (by simp);have hn:r.1∉L.map (·.1):=fun hm=>by
   rw [List.map_append,List.map_cons,List.nodup_append] at h1;exact h1.2.2 _ hm _ (List.mem_cons_self ..) rfl
  have e1:hdD N (L++[r])=putD (hdD N L) (sy N r.1) (hdV N r):=by
   unfold hdD;rw [qR hN hd (fun r:Rw=>r.1) (hdV N) hr _ L (fun x hx=>h2 x (by simp [hx])) hn,List.map_append];rfl
  rw [List.length_cons] at h3;obtain ⟨a',b',c',q⟩:=yE (pr:=pr) (e:=e) (f:=f) (g:=g) (h:=h) e5 M (L++[r]) (by rw [List.append_assoc];exact h1) (by rw [List.append_assoc];exact h2) (by rw [List.length_append,List.length_singleton];lia) (sy N r.1) (sy N r.2.1) (.tup (r.2.2.map (sy N)));refine ⟨a',b',c',?_⟩;rw [List.map_cons];rw [List.append_assoc] at q;refine dD (ρ1:=[pr,.dct (hdD N L),sy N r.1,sy N r.2.1,.tup (r.2.2.map (sy N)),e5,f]) rfl (wX (i:=1) (kvs:=hdD N L) (k:=sy N r.1) (d:=hdV N r) (dO (aF rfl (aF rfl rfl)) (by rw [a_];simp)) rfl rfl (by unfold hdD;rw [List.length_map,a_];lia) (yD ..) (yC ..)) ?_;rw [<-e1];exact q
theorem yF {pr:D}:∀(T:List Tk) (L:List Rw),((L++T.map tr).map (·.1)).Nodup->(∀r∈L++T.map tr,r.1<26)->L.length+T.length<=1000->(∀t∈T,t.2.2.2.length<=10)->∀(a b c d e:D),∃a' b' c' d' e',nH (tgN [2,3,5,6]) (zY 1 dH (fV (aB cF (aB (b2 KN (fV (aB fO aR)) pF) aR)))) (T.map (tkD N)) [pr,.dct (hdD N L),a,b,c,d,e]=.ok (.nx [pr,.dct (hdD N (L++T.map tr)),a',b',c',d',e'])
 | [],L,_,_,_,_,a,b,c,d,e=>⟨a,b,c,d,e,by rw [show L++List.map tr []=L from List.append_nil L];rfl⟩
 | t::T,L,h1,h2,h3,h4,a,b,c,d,e=>by
  have hr:(tr t).1<26:=h2 (tr t) (by simp);have hn:(tr t).1∉L.map (·.1):=fun hm=>by
   rw [List.map_cons,List.map_append,List.map_cons,List.nodup_append] at h1;exact h1.2.2 _ hm _ (List.mem_cons_self ..) rfl
  have e1:hdD N (L++[tr t])=putD (hdD N L) (sy N (tr t).1) (hdV N (tr t)):=by
   unfold hdD;rw [qR hN hd (fun r:Rw=>r.1) (hdV N) hr _ L (fun x hx=>h2 x (List.mem_append_left _ hx)) hn,List.map_append];rfl
  rw [List.length_cons] at h3;obtain ⟨a',b',c',d',e',q⟩:=yF (pr:=pr) T (L++[tr t]) (by rw [List.append_assoc];exact h1) (by rw [List.append_assoc];exact h2) (by rw [List.length_append,List.length_singleton];lia) (fun x hx=>h4 x (List.mem_cons_of_mem _ hx)) (sy N t.1) (sy N t.2.1) c (sy N t.2.2.1) (.tup (t.2.2.2.map (sy N)));refine ⟨a',b',c',d',e',?_⟩;rw [List.map_cons];rw [List.append_assoc] at q;have hl:=h4 t (List.mem_cons_self ..);have had:KN (.tup [sy N t.2.2.1]) (.tup (t.2.2.2.map (sy N)))=.ok (.tup ((tr t).2.2.map (sy N))):=by
   show (if decide ([sy N t.2.2.1].length+(t.2.2.2.map (sy N)).length<=lim) then Res.ok (D.tup ([sy N t.2.2.1]++t.2.2.2.map (sy N))) else .bad)=_;rw [List.length_map,a_,decide_eq_true (by simp;lia)];rfl
  refine dD (ρ1:=[pr,.dct (hdD N L),sy N t.1,sy N t.2.1,c,sy N t.2.2.1,.tup (t.2.2.2.map (sy N))]) rfl (wX (i:=1) (kvs:=hdD N L) (k:=sy N (tr t).1) (d:=hdV N (tr t)) (dO (aF rfl (aF (aH (dO (aF rfl rfl) (by rw [a_];simp)) rfl had) rfl)) (by rw [a_];simp)) rfl rfl (by unfold hdD;rw [List.length_map,a_];lia) (yD ..) (yC ..)) ?_;rw [<-e1];exact q
structure Hds (F:List Rw):Prop where
 nd:(F.map (·.1)).Nodup
 lt:∀r∈F,r.1<26/\r.2.1<26/\(∀i∈r.2.2,i<26)/\r.2.2.length<=10
 ln:F.length<=100
theorem O6 {M:List Rw} {T:List Tk} (F:Hds (M++T.map tr)) {P0 P3:D}:jU [.tup [P0,.tup (M.map (rwD N)),.tup (T.map (tkD N)),P3]]=.ok (.dct (hdD N (M++T.map tr))):=by
 have hl:=F.ln;rw [List.length_append,List.length_map] at hl;obtain ⟨a,b,c,q1⟩:=yE hN hd (pr:=.tup [P0,.tup (M.map (rwD N)),.tup (T.map (tkD N)),P3]) (e:=.uD) (f:=.uD) (g:=.uD) (h:=.uD) .uD M [] (by have:=F.nd;rw [List.map_append,List.nodup_append] at this;exact this.1) (fun r hr=>(F.lt r (List.mem_append_left _ hr)).1) (by simp;lia) .uD .uD .uD;obtain ⟨a2,b2',c2,d2,e2,q2⟩:=yF hN hd (pr:=.tup [P0,.tup (M.map (rwD N)),.tup (T.map (tkD N)),P3]) T M F.nd (fun r hr=>(F.lt r hr).1) (by lia) (fun t ht=>by have:=(F.lt (tr t) (List.mem_append_right _ (List.mem_map_of_mem ht))).2.2.2;have e:(tr t).2.2.length=t.2.2.2.length+1:=rfl;lia) a b c .uD .uD;refine call_v ?_;refine aJ (ρ':=[.tup [P0,.tup (M.map (rwD N)),.tup (T.map (tkD N)),P3],.dct [],.uD,.uD,.uD,.uD,.uD]) (eG (i:=1) rfl rfl) ?_;refine aJ (rY ((jV (aH rfl rfl rfl)).trans (by rw [bQ (cQ N)];rfl)) q1) ?_;exact aJ (rY ((jV (aH rfl rfl rfl)).trans (by rw [bQ (iR N)];rfl)) q2) rfl
theorem aA1 {F:List Rw} (hF:Hds F) {r:Rw} (hr:r∈F):getD (.dct (hdD N F)) (sy N r.1)=.ok (hdV N r):=by
 show (if true then Res.ofOpt (dZ (hdD N F) (sy N r.1)) else .bad)=_;unfold hdD;rw [if_pos rfl,qQ hN hd (fun r:Rw=>r.1) (hdV N) F hF.nd (fun a ha=>(hF.lt a ha).1) r hr];rfl
theorem J5 {F:List Rw} (hF:Hds F) {r:Rw} (hr:r∈F):dZ (stD N F) (sy N r.1)=some (rwD N r):=by
 unfold stD;exact qQ hN hd (fun r:Rw=>r.1) (rwD N) F hF.nd (fun a ha=>(hF.lt a ha).1) r hr
theorem Q8 {F:List Rw} (hF:Hds F) {r:Rw} (hr:r∈F):getD (.dct (stD N F)) (sy N r.1)=.ok (rwD N r):=by
 show (if true then Res.ofOpt (dZ (stD N F) (sy N r.1)) else .bad)=_;rw [if_pos rfl,J5 hN hd hF hr];rfl
theorem aA2 {F:List Rw} (hF:Hds F) {bg:D} {WW:List Nat} {st w:List Nat} (R:Run F st w):∀(pre post:List Nat) (fuel:Nat),WW=pre++w++post->w.length<fuel->w6 ec eb fuel [.dct (hdD N F),.tup (WW.map (sy N)),bg,.int pre.length,.int st.length]=.ok (.nx [.dct (hdD N F),.tup (WW.map (sy N)),bg,.int ((pre.length+w.length:Nat):Int),.int 0]):=by
 induction R with
 | nil=>
  intro pre post fuel e hf;cases fuel with
  | zero=>exact absurd hf (Nat.not_lt_zero _)
  | succ fuel=>exact vN (d7 (aH rfl rfl ((cmp_gt _ _).trans rfl)))
 | @step r rest W hr R ih=>
  intro pre post fuel e hf;cases fuel with
  | zero=>exact absurd hf (Nat.not_lt_zero _)
  | succ fuel=>
   rw [List.length_cons] at hf;have hq:=ih (pre++[r.1]) post fuel (by rw [e];simp) (by lia);have hw:WW[pre.length]?=some r.1:=by
    rw [e,List.append_assoc,List.getElem?_append_right (Nat.le_refl _),Nat.sub_self];rfl
   have c1:ec [.dct (hdD N F),.tup (WW.map (sy N)),bg,.int pre.length,.int ((r.2.1::rest).length:Nat)]=.ok true:=d7 (aH rfl rfl ((cmp_gt _ _).trans (by rw [decide_eq_true (by rw [List.length_cons];lia)])));have hlen:∀ρ:List D,bR 0 ρ=.ok (.dct (hdD N F))->bR 1 ρ=.ok (.tup (WW.map (sy N)))->bR 3 ρ=.ok (.int pre.length)->(bD jF (aB (b2 getD (b2 getD oZ (b2 getD fL cF)) cJ) aR)) ρ=.ok (.int r.2.2.length):=fun ρ g0 g1 g3=>bG (aF (aH (aH g0 (aH g1 g3 (xW rfl hw)) (aA1 hN hd hF hr)) rfl (z:=.tup (r.2.2.map (sy N))) rfl) rfl) (by
    show Res.ok (D.int ((r.2.2.map (sy N)).length:Int))=_;rw [List.length_map])
   refine qP c1 (ρ':=[.dct (hdD N F),.tup (WW.map (sy N)),bg,.int ((pre++[r.1]).length:Nat),.int ((r.2.2++rest).length:Nat)]) ?_ (hq.trans ?_)
   ·refine aJ (ρ':=[.dct (hdD N F),.tup (WW.map (sy N)),bg,.int pre.length,.int ((r.2.2++rest).length:Nat)]) (cD (i:=4) (aH (aH (x:=.int ((r.2.1::rest).length:Nat)) rfl rfl (sE _ _)) (hlen _ rfl rfl rfl) ?_)) ?_
    ·rw [cY,List.length_append,List.length_cons]
     congr 2
     lia
    ·rw [List.length_append (as:=pre),List.length_singleton];exact cD (i:=3) (aH (x:=.int pre.length) rfl rfl (cY _ _))
   ·rw [List.length_append,List.length_singleton,List.length_cons,show pre.length+1+W.length=pre.length+(W.length+1) from by lia]
theorem aA3 {F:List Rw} (hF:Hds F) {pre w post:List Nat} {p:Nat} (R:Run F [p] w) (hw:w.length<=500):eN [.dct (hdD N F),.tup ((pre++w++post).map (sy N)),.int pre.length]=.ok (.int ((pre.length+w.length:Nat):Int)):=by
 refine call_v ?_;refine aJ (ρ':=[.dct (hdD N F),.tup ((pre++w++post).map (sy N)),.int pre.length,.int pre.length,.uD]) (T5 rfl) ?_;refine aJ (ρ':=[.dct (hdD N F),.tup ((pre++w++post).map (sy N)),.int pre.length,.int pre.length,.int 1]) (cD rfl) ?_;exact aJ (aA2 hN hd hF R pre post 1000 rfl (by lia)) (rW rfl rfl)
end
end Lk51
end
section
namespace Lk51
open PySem L2 Mi
def tw (N:List Str) (w:List Nat):D:=.tup (w.map (sy N))
theorem vO (N:List Str) (w:List Nat):(tw N w).pure=true:=by
 show (D.tup (w.map (sy N))).pure=true;rw [D.pure,bO]
theorem VP {a:FE} {lo hi:List D->Res (Option Int)} {ρ xs:List D} {i j:Nat} (h1:a ρ=.ok (.tup xs)) (h2:lo ρ=.ok (some (i:Int))) (h3:hi ρ=.ok (some (j:Int))) (hx:D.aU xs=true) (hi1:1<=i) (hij:i<=j) (hj:j<=xs.length):iY a lo hi ρ=.ok (.tup ((xs.drop i).take (j-i))):=by
 unfold iY;rw [h1,Res.aK,h2,Res.aK,h3,Res.aK];have e0:∀d:Nat,vY xs.length d (some (i:Int))=i:=fun d=>by
  unfold vY;dsimp only;rw [if_neg (by lia)];lia
 have e1:∀d:Nat,vY xs.length d (some (j:Int))=j:=fun d=>by
  unfold vY;dsimp only;rw [if_neg (by lia)];lia
 show (if !D.aU xs||decide (vY xs.length 0 (some (i:Int))=0/\vY xs.length xs.length (some (j:Int))=xs.length) then Res.bad else Res.ok (D.tup (cutD xs (some (i:Int)) (some (j:Int)))))=_;rw [hx,e0,e1,decide_eq_false (by lia),if_neg (by simp)];unfold cutD;rw [e0,e1]
section
variable {N:List Str} (hN:N.length=26) (hd:N.Nodup)
include hN hd
theorem Q9 {F:List Rw} (hF:Hds F) {pr:D} {WW:List Nat} (hW:WW.length<=500):∀(ws G:List (List Nat)) (pre:List Nat) (fuel:Nat) (x:D),WW=pre++ws.flatten->1<=pre.length->(∀w∈ws,∃p,Run F [p] w)->ws.length<fuel->G.length+ws.length<=1000->
  ∃x' y',w6 pc pb fuel [pr,.tup (WW.map (sy N)),.dct (hdD N F),.lst (G.map (tw N)),.int pre.length,x]=.ok (.nx [pr,.tup (WW.map (sy N)),.dct (hdD N F),.lst ((G++ws).map (tw N)),y',x'])
 | ws,G,pre,0,x,_,_,_,h,_=>absurd h (Nat.not_lt_zero _)
 | [],G,pre,fuel+1,x,e,h1,_,_,_=>⟨x,.int pre.length,by
  rw [List.append_nil];refine vN (d7 (aH rfl (y:=.int WW.length) (bG (aF rfl rfl) ?_) ((xQ _ _).trans ?_)))
  ·show Res.ok (D.int ((WW.map (sy N)).length:Int))=_;rw [List.length_map]
  ·rw [decide_eq_false];rw [e];simp⟩
 | w::ws,G,pre,fuel+1,x,e,h1,h2,h3,h4=>by
  obtain ⟨p,R⟩:=h2 w (List.mem_cons_self ..);have hw1:1<=w.length:=J3 R;have e':WW=pre++w++ws.flatten:=by rw [e,List.flatten_cons,List.append_assoc]
  have hl:WW.length=pre.length+w.length+ws.flatten.length:=by rw [e',List.length_append,List.length_append]
  rw [List.length_cons] at h3 h4;obtain ⟨x',y',q⟩:=Q9 hF (pr:=pr) hW ws (G++[w]) (pre++w) fuel (.int ((pre.length+w.length:Nat):Int)) (by rw [e']) (by rw [List.length_append];lia) (fun u hu=>h2 u (List.mem_cons_of_mem _ hu)) (by lia) (by rw [List.length_append,List.length_singleton];lia);refine ⟨x',y',?_⟩;have he:=aA3 hN hd hF (pre:=pre) (post:=ws.flatten) R (by lia);rw [<-e'] at he;have c1:pc [pr,.tup (WW.map (sy N)),.dct (hdD N F),.lst (G.map (tw N)),.int pre.length,x]=.ok true:=d7 (aH rfl (y:=.int WW.length) (bG (aF rfl rfl) (by
   show Res.ok (D.int ((WW.map (sy N)).length:Int))=_;rw [List.length_map])) ((xQ _ _).trans (by rw [decide_eq_true (by lia)])))
  rw [List.append_assoc] at q;refine qP c1 (ρ':=[pr,.tup (WW.map (sy N)),.dct (hdD N F),.lst ((G++[w]).map (tw N)),.int ((pre++w).length:Nat),.int ((pre.length+w.length:Nat):Int)]) ?_ q;refine aJ (ρ':=[pr,.tup (WW.map (sy N)),.dct (hdD N F),.lst (G.map (tw N)),.int pre.length,.int ((pre.length+w.length:Nat):Int)]) (cD (i:=5) (bG (aF rfl (aF rfl (aF rfl rfl))) ((mH rfl).trans he))) ?_;refine aJ (ρ':=[pr,.tup (WW.map (sy N)),.dct (hdD N F),.lst ((G++[w]).map (tw N)),.int pre.length,.int ((pre.length+w.length:Nat):Int)]) ?_ ?_
  ·have hs:=VP (a:=bR 1) (lo:=cN cL) (hi:=cN fO) (ρ:=[pr,.tup (WW.map (sy N)),.dct (hdD N F),.lst (G.map (tw N)),.int pre.length,.int ((pre.length+w.length:Nat):Int)]) (xs:=WW.map (sy N)) (i:=pre.length) (j:=pre.length+w.length) rfl (fQ rfl) (fQ rfl) (bO ..) h1 (by lia) (by rw [List.length_map];lia);have ec:((WW.map (sy N)).drop pre.length).take (pre.length+w.length-pre.length)=w.map (sy N):=by
    rw [<-List.map_drop,<-List.map_take,e',List.append_assoc,List.drop_append_of_le_length (Nat.le_refl _),List.drop_length,List.nil_append,Nat.add_sub_cancel_left,List.take_left]
   rw [ec] at hs;have ha:=mZ (i:=3) (xs:=G.map (tw N)) hs rfl (by rw [List.length_map,a_];lia) (vO N w);refine ha.trans ?_;rw [List.map_append];rfl
  ·rw [List.length_append (as:=pre)];exact T5 rfl
theorem O7 {M:List Rw} {T:List Tk} (hF:Hds (M++T.map tr)) {P0 P3:D} {x:Nat} {ws:List (List Nat)} (hW:(x::ws.flatten).length<=500) (hws:∀w∈ws,∃p,Run (M++T.map tr) [p] w) (hwl:ws.length<=100) :
  mQ [.tup [P0,.tup (M.map (rwD N)),.tup (T.map (tkD N)),P3],.tup ((x::ws.flatten).map (sy N))]=.ok (.lst (ws.map (tw N))):=by
 obtain ⟨x',y',q⟩:=Q9 hN hd hF (pr:=.tup [P0,.tup (M.map (rwD N)),.tup (T.map (tkD N)),P3]) (WW:=x::ws.flatten) hW ws [] [x] 1000 .uD rfl (by simp) hws (by lia) (by simp;lia);refine call_v ?_;refine aJ (ρ':=[.tup [P0,.tup (M.map (rwD N)),.tup (T.map (tkD N)),P3],.tup ((x::ws.flatten).map (sy N)),.dct (hdD N (M++T.map tr)),.uD,.uD,.uD]) (cD (i:=2) (bG (aF rfl rfl) ((mH rfl).trans (O6 hN hd hF)))) ?_;refine aJ (ρ':=[.tup [P0,.tup (M.map (rwD N)),.tup (T.map (tkD N)),P3],.tup ((x::ws.flatten).map (sy N)),.dct (hdD N (M++T.map tr)),.lst [],.uD,.uD]) (eG (i:=3) rfl rfl) ?_;refine aJ (ρ':=[.tup [P0,.tup (M.map (rwD N)),.tup (T.map (tkD N)),P3],.tup ((x::ws.flatten).map (sy N)),.dct (hdD N (M++T.map tr)),.lst [],.int 1,.uD]) (cD (i:=4) rfl) ?_;exact aJ q rfl
theorem aA4 {F:List Rw} (hF:Hds F) {pa kd:D} {st w:List Nat} (R:Run F st w):w.length<=500->∀x:D,∃x',nH (tg1 4) hb (w.map (sy N)) [pa,kd,.dct (stD N F),.lst (st.reverse.map (sy N)),x]=.ok (.nx [pa,kd,.dct (stD N F),.lst [],x']):=by
 induction R with
 | nil=>exact fun _ x=>⟨x,rfl⟩
 | @step r rest W hr R ih=>
  intro hl x;rw [List.length_cons] at hl;obtain ⟨x',q⟩:=ih (by lia) (sy N r.1);have hrl:=J3 R;rw [List.length_append] at hrl;obtain ⟨l1,l2,l3,l4⟩:=hF.lt r hr;refine ⟨x',?_⟩;rw [List.map_cons];refine dD (ρ1:=[pa,kd,.dct (stD N F),.lst ((r.2.1::rest).reverse.map (sy N)),sy N r.1]) rfl ?_ q;have s0:hb0 [pa,kd,.dct (stD N F),.lst ((r.2.1::rest).reverse.map (sy N)),sy N r.1]=.ok (.nx [pa,kd,.dct (stD N F),.lst ((r.2.1::rest).reverse.map (sy N)),sy N r.1]):=by
   refine wW (ZR (x_ (b:=true) (zR (zQ rfl rfl))) (ZR (d7 (aH rfl rfl ?_)) (d7 (aH rfl rfl ((Q7 (N:=N) _).trans ?_))))) rfl
   ·show (if zV (stD N F) (sy N r.1) then Res.ok (D.bl (!(dZ (stD N F) (sy N r.1)).isSome)) else .bad)=_;rw [J5 hN hd hF hr];unfold stD;rw [yD];rfl
   ·rw [List.reverse_cons];cases rest.reverse <;> rfl
  have gst:∀ρ:List D,bR 2 ρ=.ok (.dct (stD N F))->bR 4 ρ=.ok (sy N r.1)->b2 getD dH cL ρ=.ok (rwD N r):=fun ρ g2 g4=>aH g2 g4 (Q8 hN hd hF hr)
  have s1:hb1 [pa,kd,.dct (stD N F),.lst ((r.2.1::rest).reverse.map (sy N)),sy N r.1]=.ok (.nx [pa,kd,.dct (stD N F),.lst (rest.reverse.map (sy N)),sy N r.1]):=by
   have hpop:zF 3 [pa,kd,.dct (stD N F),.lst ((r.2.1::rest).reverse.map (sy N)),sy N r.1]=.ok (sy N r.2.1,[pa,kd,.dct (stD N F),.lst (rest.reverse.map (sy N)),sy N r.1]):=by
    have e:(r.2.1::rest).reverse.map (sy N)=rest.reverse.map (sy N)++[sy N r.2.1]:=by
     rw [List.reverse_cons,List.map_append];rfl
    rw [e];unfold zF;rw [show [pa,kd,D.dct (stD N F),.lst (rest.reverse.map (sy N)++[sy N r.2.1]),sy N r.1].getD 3 .uD=.lst (rest.reverse.map (sy N)++[sy N r.2.1]) from rfl];dsimp only;rw [List.length_append,List.length_singleton,Nat.add_sub_cancel,List.getElem?_append_right (Nat.le_refl _),Nat.sub_self,List.dropLast_concat];rfl
   refine xP (k:=false) (QV (pM hpop rfl (aH (gst _ rfl rfl) rfl (z:=sy N r.2.1) rfl) ((J2 hN hd l2 l2).trans (by rw [decide_eq_true rfl];rfl)) rfl)) ?_;rw [if_neg (by simp)];rfl
  have s2:hb2 [pa,kd,.dct (stD N F),.lst (rest.reverse.map (sy N)),sy N r.1]=.ok (.nx [pa,kd,.dct (stD N F),.lst ((r.2.2++rest).reverse.map (sy N)),sy N r.1]):=by
   have hx:=Q5 (i:=3) (ρ:=[pa,kd,.dct (stD N F),.lst (rest.reverse.map (sy N)),sy N r.1]) (f:=b1 QS (b2 getD (b2 getD dH cL) gW)) (xs:=rest.reverse.map (sy N)) (ys:=r.2.2.reverse.map (sy N)) (zQ (aH (gst _ rfl rfl) rfl (z:=.tup (r.2.2.map (sy N))) rfl) (by
    show (if D.aU (r.2.2.map (sy N))&&decide ((r.2.2.map (sy N)).length<=lim) then Res.ok (D.lst (r.2.2.map (sy N)).reverse) else .bad)=_;rw [bO,List.length_map,a_,decide_eq_true (by lia),<-List.map_reverse];rfl)) rfl (by rw [List.length_map,List.length_reverse,List.length_map,List.length_reverse];lia) (bO ..)
   refine hx.trans ?_;have e7:((r.2.2++rest).reverse.map (sy N))=rest.reverse.map (sy N)++r.2.2.reverse.map (sy N):=by rw [List.reverse_append,List.map_append]
   rw [e7];rfl
  exact aJ s0 (aJ s1 s2)
theorem O8 {F:List Rw} (hF:Hds F) {p:Nat} {w:List Nat} (R:Run F [p] w) (hl:w.length<=500):cM [tw N w,sy N p,.dct (stD N F)]=.ok (.bl true):=by
 obtain ⟨x',q⟩:=aA4 hN hd hF (pa:=tw N w) (kd:=sy N p) R hl .uD;refine call_v ?_;refine aJ (ρ':=[tw N w,sy N p,.dct (stD N F),.lst [sy N p],.uD]) (eG (i:=3) rfl rfl) ?_;refine aJ (qG (d:=tw N w) (xs:=w.map (sy N)) rfl rfl q) ?_;exact rW (aH rfl rfl (Q7 (N:=N) [])) rfl
end
end Lk51
end
section
namespace Lk51
open PySem L2 Mi
def gc:FT:=(bTB (b2 (b8 .eq) (b2 getD pF cJ) (b2 getD fO gW)))
noncomputable def gb0:FS:=(bL false 7 (iY cF (cN L_) (cN (b2 (aN .add) (b2 (aN .add) L_ (bD jF (aB (b2 getD pF gW) aR))) (bD jF (aB (b2 getD fO gU) aR))))) true)
noncomputable def gb1:FS:=(bL false 8 (fV (aB (b2 getD fO iI) (aB (b2 getD cF gU) aR))) false)
noncomputable def gb2:FS:=(sIf (bTB (b2 inX (b2 getD fO cJ) oZ)) (bL false 8 (bD (tZ 4 gG) (aB (b2 getD fO cJ) (aB oZ (aB fL (aB cF aR))))) true) (lU))
noncomputable def gb3:FS:=(pQ 4 (fV (aB (b2 getD fO iI) (aB (b2 getD pF iI) (aB (bD dC (aB kI aR)) (aB m_ aR))))))
def gi:FS:=sIf gc (bA gb0 (bA gb1 (bA gb2 gb3))) (lU)
theorem O9 {α:Type} (f:α->D) (l:List α) (lo hi:Option Int):cutD (l.map f) lo hi=(cutD l lo hi).map f:=by
 unfold cutD;rw [List.length_map,List.map_take,List.map_drop]
structure Prg (m:Nat) (M:List Rw) (T:List Tk):Prop where
 m1:1<=m
 m3:m<=3
 ml:M.length<=10
 tl:T.length<=10
 mg:∀r∈M,Gr m r/\r.1<26
 tg:∀t∈T,t.1<26/\t.2.1<26/\t.2.2.1<26/\t.2.2.2.length<=2
 ba:∀k,k<m->∃r∈M,r.1=3+k
section
variable {N:List Str} (hN:N.length=26) (hd:N.Nodup)
include hN hd
theorem aA5 {m k:Nat} (h3:m<=3) (hk:k<m):j0 (.lst ((List.range m).map (sy N))) [sy N k]=.ok (.int k):=by
 show (if (sy N k).bK aQ&&D.bY aQ ((List.range m).map (sy N)) then (match UJ (sy N k) ((List.range m).map (sy N)) with|some j=>Res.ok (D.int j)|none=>.bad) else .bad)=_;have e:∀i j,i<3->j<3->eqD (sy N i) (sy N j)=decide (i=j):=fun i j hi hj=>tX hN hd (by lia) (by lia)
 have hx:UJ (sy N k) ((List.range m).map (sy N))=some k:=by
  have:(m=1/\k=0)\/(m=2/\k=0)\/(m=2/\k=1)\/(m=3/\k=0)\/(m=3/\k=1)\/(m=3/\k=2):=by lia
  have e00:=e 0 0 (by decide) (by decide);have e01:=e 0 1 (by decide) (by decide);have e02:=e 0 2 (by decide) (by decide);have e11:=e 1 1 (by decide) (by decide);have e12:=e 1 2 (by decide) (by decide);have e22:=e 2 2 (by decide) (by decide);rcases this with ⟨rfl,rfl⟩|⟨rfl,rfl⟩|⟨rfl,rfl⟩|⟨rfl,rfl⟩|⟨rfl,rfl⟩|⟨rfl,rfl⟩ <;> simp [List.range_succ,UJ,e00,e01,e02,e11,e12,e22]
 rw [hx,jN,fY];rfl
theorem VR {m:Nat} {M:List Rw} {T:List Tk} (P:Prg m M T) {k:Nat} (hk:k<m):∃l:List Nat,gG [sy N k,.lst ((List.range m).map (sy N)),.lst (M.map (rwD N)),.lst ((List.range 26).map (sy N))]=.ok (.tup (l.map (sy N))):=by
 let p:Rw->Bool:=fun r=>decide (r.1=3+k)
 let L:=M.filter p
 have m3:=P.m3;have nx:∀(ρ:List D) (i j:Nat),j<m->bR 3 ρ=.ok (.lst ((List.range 26).map (sy N)))->bR 1 ρ=.ok (.lst ((List.range m).map (sy N)))->bR i ρ=.ok (sy N j)->b2 getD cF (b2 (aN .add) gU (bM j0 fL (aB (bR i) aR))) ρ=.ok (sy N (3+j)):=fun ρ i j hj g3 g1 gi=>aH g3 (aH rfl (ZS g1 (aF gi rfl) (aA5 hN hd m3 hj)) (cY _ _)) (bW (i:=3+j) (by lia) (by lia))
 have hL:∃r0,L[0]?=some r0/\r0∈M:=by
  obtain ⟨r,hr,e⟩:=P.ba k hk;have:r∈L:=List.mem_filter.mpr ⟨hr,decide_eq_true e⟩;cases hc:L with
  | nil=>rw [hc] at this;simp at this
  | cons a l=>exact ⟨a,rfl,(List.mem_filter.mp (show a∈M.filter p from by show a∈L;rw [hc];exact List.mem_cons_self ..)).1⟩
 obtain ⟨r0,h0,hr0⟩:=hL;obtain ⟨⟨g1,g2,g3⟩,g4⟩:=P.mg r0 hr0;refine ⟨r0.1::r0.2.2.map (3+·),call_v ?_⟩;have hcomp:cG 5 (bJ dH false) i_ (bTB (b2 (b8 .eq) (b2 getD fO iI) (b2 getD cF (b2 (aN .add) gU (bM j0 fL (aB oZ aR)))))) fO false [sy N k,.lst ((List.range m).map (sy N)),.lst (M.map (rwD N)),.lst ((List.range 26).map (sy N)),.uD]=.ok (.lst (L.map (rwD N))):=
  oW (n:=5) (rwD N) (rwD N) p M rfl (dY rfl) (by have:=P.ml;lia) (fun r hr=>d7 (aH (fU (i:=5) (r:=r) rfl).1 (nx _ 0 k hk rfl rfl rfl) (xZ hN hd (P.mg r hr).2 (by lia)))) (fun r hr _=>⟨rfl,cQ ..⟩)
 refine aJ (ρ':=[sy N k,.lst ((List.range m).map (sy N)),.lst (M.map (rwD N)),.lst ((List.range 26).map (sy N)),rwD N r0]) (dM (i:=4) (aH hcomp rfl (mV (i:=0) rfl h0)) (cQ ..)) ?_;have hc2:cG 5 (bJ (b2 getD cL gW) false) i_ (fG) (b2 getD cF (b2 (aN .add) gU (bM j0 fL (aB fO aR)))) false [sy N k,.lst ((List.range m).map (sy N)),.lst (M.map (rwD N)),.lst ((List.range 26).map (sy N)),rwD N r0]=.ok (.lst (r0.2.2.map fun x=>sy N (3+x))):=
  fX (n:=5) (sy N) (fun x=>sy N (3+x)) r0.2.2 rfl (jV (fU (i:=4) (r:=r0) rfl).2.2) (by lia) (fun x hx=>⟨nx _ 5 x (g2 x hx) rfl rfl rfl,rfl⟩)
 refine rW (d:=.tup ((r0.1::r0.2.2.map (3+·)).map (sy N))) (aH (dO (aF (fU (i:=4) (r:=r0) rfl).1 rfl) (by rw [a_];simp)) (bG (aF hc2 rfl) rfl) ?_) ?_
 ·show (if decide ([sy N r0.1].length+(r0.2.2.map fun x=>sy N (3+x)).length<=lim) then Res.ok (D.tup ([sy N r0.1]++r0.2.2.map fun x=>sy N (3+x))) else .bad)=_;rw [List.length_map,a_,decide_eq_true (by simp;lia),List.map_cons,List.map_map];rfl
 ·rw [Bool.false_or,D.pure,bO]
noncomputable abbrev gs (N:List Str) (m:Nat) (M:List Rw) (T:List Tk) (R:List D) (a b c d e:D):List D:=[.lst ((List.range m).map (sy N)),.lst (M.map (rwD N)),.lst (T.map (tkD N)),.lst ((List.range 26).map (sy N)),.lst R,a,b,c,d,e]
omit hN hd in
theorem zT {R:List D} {x:D} (h:D.aU R=true) (hx:x.pure=true):D.aU (R++[x])=true:=by
 induction R with
 | nil=>rw [List.nil_append,D.aU,hx];rfl
 | cons y R ih=>
  rw [D.aU,Bool.and_eq_true] at h;rw [List.cons_append,D.aU,h.1,ih h.2];rfl
omit hN hd in
theorem jO {ρ:List D} {i:Nat} {t:Tk} (h:bR i ρ=.ok (tkD N t)):b2 getD (bR i) iI ρ=.ok (sy N t.1)/\b2 getD (bR i) cJ ρ=.ok (sy N t.2.1)/\b2 getD (bR i) gW ρ=.ok (sy N t.2.2.1)/\b2 getD (bR i) gU ρ=.ok (.tup (t.2.2.2.map (sy N))):=⟨aH h rfl rfl,aH h rfl rfl,aH h rfl rfl,aH h rfl rfl⟩
theorem aBo {m:Nat} {M:List Rw} {T:List Tk} (P:Prg m M T) {t:Tk} (ht:t∈T) {r:Rw} (hr:r∈M) {R:List D} (hR:D.aU R=true) (hl:R.length<=1000) (c d e:D):∃(R':List D) (c' d':D),D.aU R'=true/\R'.length<=R.length+1/\gi (gs N m M T R (tkD N t) (rwD N r) c d e)=.ok (.nx (gs N m M T R' (tkD N t) (rwD N r) c' d' e)):=by
 obtain ⟨⟨u1,u2,u3⟩,u4⟩:=P.mg r hr;obtain ⟨v1,v2,v3,v4⟩:=P.tg t ht;have m3:=P.m3;have hc:gc (gs N m M T R (tkD N t) (rwD N r) c d e)=.ok (decide (r.2.1=t.2.2.1)):=d7 (aH (fU (i:=6) (r:=r) rfl).2.1 (jO (i:=5) (t:=t) rfl).2.2.1 (xZ hN hd (by lia) v3));by_cases hk:r.2.1=t.2.2.1
 ·let own:List Nat:=cutD (List.range 26) (some 13) (some (13+(r.2.2.length:Int)+(t.2.2.2.length:Int)))
  have lnR:∀l:List Nat,jF [.tup (l.map (sy N))]=.ok (.int l.length):=fun l=>by
   show Res.ok (D.int ((l.map (sy N)).length:Int))=_;rw [List.length_map]
  have s0:gb0 (gs N m M T R (tkD N t) (rwD N r) c d e)=.ok (.nx (gs N m M T R (tkD N t) (rwD N r) (.lst (own.map (sy N))) d e)):=by
   refine cD (i:=7) ?_;show _=Res.ok (D.lst ((cutD (List.range 26) (some 13) (some (13+(r.2.2.length:Int)+(t.2.2.2.length:Int)))).map (sy N)));rw [<-O9];exact mW rfl (fQ rfl) (fQ (aH (aH rfl (bG (aF (fU (i:=6) (r:=r) rfl).2.2 rfl) (lnR _)) (cY _ _)) (bG (aF (jO (i:=5) (t:=t) rfl).2.2.2 rfl) (lnR _)) (cY _ _))) (bO ..)
  have s1:gb1 (gs N m M T R (tkD N t) (rwD N r) (.lst (own.map (sy N))) d e)=.ok (.nx (gs N m M T R (tkD N t) (rwD N r) (.lst (own.map (sy N))) (tw N [t.1,3]) e)):=dM (i:=8) (dO (aF (jO (i:=5) (t:=t) rfl).1 (aF (aH rfl rfl (bW (i:=3) rfl (by decide))) rfl)) (by rw [a_];simp)) rfl;have s2:∃w:List Nat,gb2 (gs N m M T R (tkD N t) (rwD N r) (.lst (own.map (sy N))) (tw N [t.1,3]) e)=.ok (.nx (gs N m M T R (tkD N t) (rwD N r) (.lst (own.map (sy N))) (tw N w) e)):=by
   have hin:bTB (b2 inX (b2 getD fO cJ) oZ) (gs N m M T R (tkD N t) (rwD N r) (.lst (own.map (sy N))) (tw N [t.1,3]) e)=.ok (decide (t.2.1∈List.range m)):=d7 (aH (jO (i:=5) (t:=t) rfl).2.1 rfl (Z9 hN hd v2 fun j hj=>by have:=List.mem_range.mp hj;lia));by_cases hm:t.2.1∈List.range m
   ·obtain ⟨w,hw⟩:=VR hN hd P (List.mem_range.mp hm);exact ⟨w,KJ (hin.trans (by rw [decide_eq_true hm])) (cD (i:=8) (bG (aF (jO (i:=5) (t:=t) rfl).2.1 (aF rfl (aF rfl (aF rfl rfl)))) ((mH rfl).trans hw)))⟩
   ·exact ⟨[t.1,3],wW (hin.trans (by rw [decide_eq_false hm])) rfl⟩
  obtain ⟨w,s2⟩:=s2;have hpn:(D.tup [sy N t.1,sy N r.1,.tup (own.map (sy N)),tw N w]).pure=true:=by
   show ((sy N t.1).pure&&((sy N r.1).pure&&((D.tup (own.map (sy N))).pure&&((tw N w).pure&&true))))=true;rw [vO,D.pure,bO];rfl
  have s3:=mZ (i:=4) (f:=fV (aB (b2 getD fO iI) (aB (b2 getD pF iI) (aB (bD dC (aB kI aR)) (aB m_ aR))))) (ρ:=gs N m M T R (tkD N t) (rwD N r) (.lst (own.map (sy N))) (tw N w) e) (xs:=R) (d:=.tup [sy N t.1,sy N r.1,.tup (own.map (sy N)),tw N w]) (dO (aF (jO (i:=5) (t:=t) rfl).1 (aF (fU (i:=6) (r:=r) rfl).1 (aF (bG (aF rfl rfl) rfl) (aF rfl rfl)))) (by rw [a_];simp)) rfl (by rw [a_];lia) hpn;have s3':gb3 (gs N m M T R (tkD N t) (rwD N r) (.lst (own.map (sy N))) (tw N w) e)=.ok (.nx (gs N m M T (R++[.tup [sy N t.1,sy N r.1,.tup (own.map (sy N)),tw N w]]) (tkD N t) (rwD N r) (.lst (own.map (sy N))) (tw N w) e)):=s3;exact ⟨R++[.tup [sy N t.1,sy N r.1,.tup (own.map (sy N)),tw N w]],.lst (own.map (sy N)),tw N w,zT hR hpn,by simp,KJ (hc.trans (by rw [decide_eq_true hk])) (aJ s0 (aJ s1 (aJ s2 s3')))⟩
 ·exact ⟨R,c,d,hR,by lia,wW (hc.trans (by rw [decide_eq_false hk])) rfl⟩
theorem J6 {m:Nat} {M:List Rw} {T:List Tk} (P:Prg m M T) {t:Tk} (ht:t∈T):∀(L:List Rw),(∀r∈L,r∈M)->∀(R:List D),D.aU R=true->R.length+L.length<=1000->∀(b c d e:D),∃(R':List D) (b' c' d':D),D.aU R'=true/\R'.length<=R.length+L.length/\nH (tg1 6) gi (L.map (rwD N)) (gs N m M T R (tkD N t) b c d e)=.ok (.nx (gs N m M T R' (tkD N t) b' c' d' e))
 | [],_,R,hR,_,b,c,d,e=>⟨R,b,c,d,hR,by lia,rfl⟩
 | r::L,h1,R,hR,hl,b,c,d,e=>by
  rw [List.length_cons] at hl;obtain ⟨R1,c1,d1,p1,p2,p3⟩:=aBo hN hd P ht (h1 r (List.mem_cons_self ..)) hR (by lia) c d e;obtain ⟨R2,b2,c2,d2,q1,q2,q3⟩:=J6 P ht L (fun x hx=>h1 x (List.mem_cons_of_mem _ hx)) R1 p1 (by lia) (rwD N r) c1 d1 e;refine ⟨R2,b2,c2,d2,q1,by rw [List.length_cons];lia,?_⟩;rw [List.map_cons];exact dD (ρ1:=gs N m M T R (tkD N t) (rwD N r) c d e) rfl p3 q3
theorem J7 {m:Nat} {M:List Rw} {T:List Tk} (P:Prg m M T):∀(L:List Tk),(∀r∈L,r∈T)->∀(R:List D),D.aU R=true->R.length+10*L.length<=900->∀(a b c d e:D),∃(R':List D) (a' b' c' d':D),D.aU R'=true/\R'.length<=R.length+10*L.length/\nH (tg1 5) (pR 1 (tg1 6) gi) (L.map (tkD N)) (gs N m M T R a b c d e)=.ok (.nx (gs N m M T R' a' b' c' d' e))
 | [],_,R,hR,_,a,b,c,d,e=>⟨R,a,b,c,d,hR,by lia,rfl⟩
 | t::L,h1,R,hR,hl,a,b,c,d,e=>by
  rw [List.length_cons] at hl;have ml:=P.ml;obtain ⟨R1,b1,c1,d1,p1,p2,p3⟩:=J6 hN hd P (h1 t (List.mem_cons_self ..)) M (fun _ h=>h) R hR (by lia) b c d e;obtain ⟨R2,a2,b2,c2,d2,q1,q2,q3⟩:=J7 P L (fun x hx=>h1 x (List.mem_cons_of_mem _ hx)) R1 p1 (by lia) (tkD N t) b1 c1 d1 e;refine ⟨R2,a2,b2,c2,d2,q1,by rw [List.length_cons];lia,?_⟩;rw [List.map_cons];exact dD (ρ1:=gs N m M T R (tkD N t) b c d e) rfl (qG rfl rfl p3) q3
theorem VV {m:Nat} {M:List Rw} {T:List Tk} (P:Prg m M T):∃P0 P3:D,dF [.lst ((List.range m).map (sy N)),.lst (M.map (rwD N)),.lst (T.map (tkD N)),.lst ((List.range 26).map (sy N))]=.ok (.tup [P0,.tup (M.map (rwD N)),.tup (T.map (tkD N)),P3]):=by
 have tl:=P.tl;have m3:=P.m3;obtain ⟨R,a,b,c,d,p1,p2,p3⟩:=J7 hN hd P T (fun _ h=>h) [] rfl (by simp;lia) .uD .uD .uD .uD .uD
 let p:Tk->Bool:=fun t=>decide (t.2.1=19)
 let L:=T.filter p
 have hcomp:cG 10 (bJ dH false) i_ (bTB (b2 (b8 .eq) (b2 getD j8 cJ) (b2 getD cF jE))) (b2 getD cF jE) false (gs N m M T R a b c d .uD)=.ok (.lst (L.map fun _=>sy N 19)):=
  oW (n:=10) (tkD N) (fun _=>sy N 19) p T rfl (dY rfl) (by lia) (fun t ht=>d7 (aH (jO (i:=10) (t:=t) rfl).2.1 (aH rfl rfl (bW (i:=19) rfl (by decide))) (xZ hN hd (P.tg t ht).2.1 (by decide)))) (fun r hr _=>⟨aH rfl rfl (bW (i:=19) rfl (by decide)),rfl⟩)
 have hL:L.length<=10:=Nat.le_trans (List.length_filter_le ..) tl;refine ⟨.tup ((List.range m).map (sy N)++L.map fun _=>sy N 19),.tup R,call_v ?_⟩;have hp0:D.aU ((List.range m).map (sy N)++L.map fun _=>sy N 19)=true:=by
  have:(L.map fun _=>sy N 19)=(L.map fun _=>19).map (sy N):=by rw [List.map_map];rfl
  rw [this,<-List.map_append,bO]
 refine aJ (ρ':=gs N m M T [] .uD .uD .uD .uD .uD) (eG (i:=4) rfl rfl) ?_;refine aJ (qG (xs:=T.map (tkD N)) rfl rfl p3) ?_;refine aJ (ρ':=gs N m M T R a b c d (.tup ((List.range m).map (sy N)++L.map fun _=>sy N 19))) (dM (i:=9) (bG (aF (aH (x:=.lst ((List.range m).map (sy N))) rfl hcomp (mJ _ _ (by rw [List.length_map,List.length_map,List.length_range,a_];lia) (bO ..) (bQ (fun _=>rfl) _))) rfl) rfl) hp0) ?_;refine rW (dO (aF rfl (aF (bG (aF rfl rfl) rfl) (aF (bG (aF rfl rfl) rfl) (aF (bG (aF rfl rfl) rfl) rfl)))) (by rw [a_];simp)) ?_;show (false||(((D.tup ((List.range m).map (sy N)++L.map fun _=>sy N 19)).pure)&&((D.tup (M.map (rwD N))).pure&&((D.tup (T.map (tkD N))).pure&&((D.tup R).pure&&true)))))=true;rw [D.pure,D.pure,D.pure,D.pure,hp0,p1,bQ (cQ N),bQ (iR N)];rfl
end
end Lk51
end
section
namespace Lk51
open PySem L2 Mi
theorem V0 {i:Nat} {ρ:List D} {d:D} (h:ρ.getD i .uD=d) (hd:d≠.uD):bR i ρ=.ok d:=by
 unfold bR;rw [h];cases d <;> first|rfl|exact absurd rfl hd
noncomputable def lb:FS:=(bA (sIf (bOr (EY (bTr (b1 (uM .tuple) (b2 getD nC o5)))) (EY (bTr (bD (tZ 3 cM) (aB (b2 getD nC o5) (aB (b2 getD rF o5) (aB gQ aR))))))) (rH (bC (.bl false)) true) (lU)) (bL false 18 (b2 KN (bR 18) (b2 getD nC o5)) false))
noncomputable def lw0:FS:=(bL true 1 (aAl (iV (aB (iY oZ (eO) (cN v5)) (aB iI aR)))) true)
def lw1:FS:=(fW false 2 (bZ aL 1 1 aR))
def lw2:FS:=(fW false 3 (bZ dR 1 1 aR))
def lw3:FS:=(IK (bZ fZ 2 1 (aB cF aR)) [4,5,6,7])
noncomputable def lw4:FS:=(bL false 8 (b2 getD cL (b2 (aN .mod) (b2 (aN .fdiv) dH SM) (bD jF (aB cL aR)))) false)
noncomputable def lw5:FS:=(bL false 9 (b2 (b8 .eq) (b2 (aN .mod) (b2 (aN .fdiv) dH (bC (.int 24))) vZ) cJ) true)
noncomputable def lw6:FS:=(sIf (bTr iZ) (bA (bL false 6 (b2 (aN .add) (b2 (aN .add) (iV (aB (bPu (fV (aB (b2 getD cF DY) (aB (b2 getD cL iI) (aB (b2 getD cF jE) (aB (fV aR) aR)))))) aR)) pF) (iV (aB (bPu (fV (aB (b2 getD cF D_) (aB (b2 getD cF jE) (aB (b2 getD cL iI) (aB (fV aR) aR)))))) aR))) true) (bL false 8 (b2 getD cL iI) false)) (lU))
noncomputable def lw7:FS:=(bL false 10 (b2 (aN .add) fO (cG 20 (bJ pF false) i_ (fG) (fV (aB (b2 getD jW iI) (aB (b2 getD jW cJ) (aB (b2 KN (fV (aB (b2 getD jW gW) aR)) (b2 getD jW gU)) aR)))) false)) true)
noncomputable def lw8:FS:=(bL false 11 (b2 getD (iV (aB cJ (aB KH (aB DX (aB (bC (.int 390)) aR))))) (b2 (aN .mod) (b2 (aN .fdiv) dH gW) vZ)) false)
noncomputable def lw9:FS:=(bL false 12 (cG 20 (bJ j8 false) i_ (zW (bTB (b2 (b8 .ne) (b2 getD cF jE) (b2 getD jW cJ))) (bTB (b2 (b8 .notin) (b2 getD cF jE) (b2 getD jW gW)))) jW false) true)
noncomputable def aCy:FS:=(fW false 13 (bZ dW 6 1 (aB nA (aB m_ (aB gR (aB (bPu (b2 (b8 .eq) (b2 (aN .mod) dH gW) cJ)) (aB kI aR)))))))
noncomputable def aCz:FS:=(sIf (bTr iZ) (bL false 13 (b2 (aN .add) (iV (aB (bPu (b2 getD cF DY)) (aB (bPu (b2 getD cF D_)) aR))) eU) true) (lU))
def aD0:FS:=(bL true 14 (bC (.dct [])) true)
def aD1:FS:=(pR 10 (tg1 15) (zY 14 (b2 getD rE iI) rE))
noncomputable def aD2:FS:=(bL false 16 (bD (tZ 2 mQ) (aB (bD (tZ 4 dF) (aB cL (aB fO (aB pF (aB cF aR))))) (aB (bD dC (aB eU aR)) aR))) true)
noncomputable def aD3:FS:=(bL false 17 (b2 getD (b2 getD gQ (b2 getD eU iI)) gW) false)
noncomputable def aD4:FS:=(sIf (bOr (EY (bTr (b1 (uM .list) nC))) (bTB (b2 (b8 .ne) (bD jF (aB nC aR)) (bD jF (aB rF aR))))) (rH (bC (.bl false)) true) (lU))
def aD5:FS:=(bL false 18 (fV aR) true)
noncomputable def aD6:FS:=(E_ (iW (aB (bD jF (aB rF aR)) aR) gH) (tg1 19) lb)
noncomputable def aD7:FS:=(rH (b2 (b8 .eq) (bR 18) (bD dC (aB (iY eU (cN cJ) (eO)) aR))) true)
theorem V1:U7=(bA lw0 (bA lw1 (bA lw2 (bA lw3 (bA lw4 (bA lw5 (bA lw6 (bA lw7 (bA lw8 (bA lw9 (bA aCy (bA aCz (bA aD0 (bA aD1 (bA aD2 (bA aD3 (bA aD4 (bA aD5 (bA aD6 aD7))))))))))))))))))):=rfl
theorem V2 {f:FX} {ρ ρ1 xs:List D} {is:List Nat} (h:f ρ=.ok (.lst xs,ρ1)) (hl:xs.length=is.length) {ρ':List D} (he:uP is xs ρ1=ρ'):IK f is ρ=.ok (.nx ρ'):=by
 subst he;unfold IK;rw [h,Res.aK];dsimp only;rw [if_pos (decide_eq_true hl)]
theorem yG {a:FA} {ρ:List D} {xs:List D} (h:a ρ=.ok xs) (hl:xs.length<=lim):iV a ρ=.ok (.lst xs):=by
 unfold iV;rw [h,Res.aK,if_pos (decide_eq_true hl)];rfl
theorem aD8 (ns:List Int):(ns.map D.int).all isI=true:=by
 rw [List.all_eq_true];intro x hx;obtain ⟨i,_,rfl⟩:=List.mem_map.mp hx;rfl
theorem aA6 (ns:List Int) (r:List D):∃cs:List Int,lw0 (.scr (ns.map D.int)::.uD::r)=.ok (.nx (.scr (ns.map D.int)::.lst (dk cs 0)::r)):=by
 refine ⟨cutD ns none (some 120),eG (i:=1) (d:=.lst (dk (cutD ns none (some 120)) 0)) ?_ (lL _ _)⟩;have h1:iY oZ (eO) (cN v5) (.scr (ns.map D.int)::.uD::r)=.ok (.lst ((cutD ns none (some 120)).map D.int)):=by
  rw [<-T9];show (if D.aU (ns.map D.int) then Res.ok (D.lst (cutD (ns.map D.int) none (some 120))) else .bad)=_;rw [mK];rfl
 have h2:iV (aB (iY oZ (eO) (cN v5)) (aB iI aR)) (.scr (ns.map D.int)::.uD::r)=.ok (.lst [.lst ((cutD ns none (some 120)).map D.int),.int 0]):=yG (aF h1 rfl) (by rw [a_];simp);unfold aAl;rw [h2,Res.aK];show (do let r <- UT [.lst ((cutD ns none (some 120)).map D.int),.int 0];Res.ok (D.lst r))=_;have h3:UT [.lst ((cutD ns none (some 120)).map D.int),.int 0]=.ok (dk (cutD ns none (some 120)) 0):=by
  show (if ((cutD ns none (some 120)).map D.int).all isI&&D.aU [.int 0] then Res.ok (D.scr ((cutD ns none (some 120)).map D.int)::[.int 0]) else .bad)=_;rw [aD8];rfl
 rw [h3];rfl
theorem V3 (i:Int) (h0:0<=i) (h1:i<4):∃t:Nat,getD (.lst [.int 1,.int 6,.int 40,.int 390]) (.int i)=.ok (.int t)/\t<=390:=by
 have:i=0\/i=1\/i=2\/i=3:=by lia
 rcases this with h|h|h|h <;> subst h
 ·exact ⟨1,rfl,by decide⟩
 ·exact ⟨6,rfl,by decide⟩
 ·exact ⟨40,rfl,by decide⟩
 ·exact ⟨390,rfl,by decide⟩
noncomputable def tk' (h:Bool) (T:List Tk):List Tk:=if h then [(21,0,19,[])]++T++[(20,19,0,[])] else T
noncomputable abbrev la (sc:D) (cs:List Int) (n:Nat) (cell:Int) (N:List Str) (m:Nat) (M:List Rw) (T:List Tk) (l:Nat->Nat) (k:Nat) (h:Bool) (r:List D):List D:=sc::.lst (dk cs n)::.int cell::.lst ((List.range 26).map (sy N))::.lst ((List.range m).map (sy N))::.lst (M.map (rwD N))::.lst (T.map (tkD N))::.dct (lsD N m l)::sy N k::.bl h::r
section
variable {N:List Str} (hN:N.length=26) (hd:N.Nodup)
include hN hd
omit hN hd in
theorem aA7 {sc:D} {cs:List Int} {n:Nat} {cell:Int} {m:Nat} {M:List Rw} {T:List Tk} {l:Nat->Nat} {k:Nat} {h:Bool} (m1:1<=m) (hT:T.length<=100) (r:List D):lw6 (la sc cs n cell N m M T l k h r)=.ok (.nx (la sc cs n cell N m M (tk' h T) l (if h then 0 else k) h r)):=by
 have hb:bTr iZ (la sc cs n cell N m M T l k h r)=.ok h:=zR rfl;cases h
 ·exact wW hb rfl
 ·refine KJ hb ?_;have e1:bPu (fV (aB (b2 getD cF DY) (aB (b2 getD cL iI) (aB (b2 getD cF jE) (aB (fV aR) aR))))) (la sc cs n cell N m M T l k true r)=.ok (tkD N (21,0,19,[])):=JP (dO (aF (aH rfl rfl (bW (i:=21) rfl (by decide))) (aF (aH rfl rfl (bW (i:=0) rfl (by lia))) (aF (aH rfl rfl (bW (i:=19) rfl (by decide))) (aF (dO (xs:=[]) rfl (by rw [a_];simp)) rfl)))) (by rw [a_];simp)) (iR N (21,0,19,[]));have e2:bPu (fV (aB (b2 getD cF D_) (aB (b2 getD cF jE) (aB (b2 getD cL iI) (aB (fV aR) aR))))) (la sc cs n cell N m M T l k true r)=.ok (tkD N (20,19,0,[])):=JP (dO (aF (aH rfl rfl (bW (i:=20) rfl (by decide))) (aF (aH rfl rfl (bW (i:=19) rfl (by decide))) (aF (aH rfl rfl (bW (i:=0) rfl (by lia))) (aF (dO (xs:=[]) rfl (by rw [a_];simp)) rfl)))) (by rw [a_];simp)) (iR N (20,19,0,[]));refine aJ (ρ':=la sc cs n cell N m M (tk' true T) l k true r) (cD (i:=6) (d:=.lst ((tk' true T).map (tkD N))) ?_) (dM (i:=8) (aH rfl rfl (bW (i:=0) rfl (by lia))) rfl);have e3:(tk' true T).map (tkD N)=([tkD N (21,0,19,[])]++T.map (tkD N))++[tkD N (20,19,0,[])]:=by
   unfold tk';rw [if_pos rfl,List.map_append,List.map_append];rfl
  rw [e3];refine aH (aH (yG (aF e1 rfl) (by rw [a_];simp)) (y:=.lst (T.map (tkD N))) rfl (mJ _ _ ?_ (bQ (iR N) [(21,0,19,[])]) (bQ (iR N) _))) (yG (aF e2 rfl) (by rw [a_];simp)) (mJ _ _ ?_ ?_ (bQ (iR N) [(20,19,0,[])]))
  ·rw [List.length_map,a_,List.length_singleton];lia
  ·rw [List.length_append,List.length_map,a_,List.length_singleton,List.length_singleton];lia
  ·exact bQ (iR N) ((21,0,19,[])::T)
omit hN hd in
theorem aA8 {sc:D} {cs:List Int} {n:Nat} {cell:Int} {m:Nat} {M:List Rw} {T:List Tk} {l:Nat->Nat} {k:Nat} {h:Bool} (hM:M.length<=100) (hT:T.length<=100) (hm:∀t∈T,t.2.2.2.length<=10) (a b c d e f g i j p:D):lw7 (la sc cs n cell N m M T l k h [a,b,c,d,e,f,g,i,j,p])=.ok (.nx (la sc cs n cell N m M T l k h [.lst ((M++T.map tr).map (rwD N)),b,c,d,e,f,g,i,j,p])):=by
 refine cD (i:=10) ?_;rw [List.map_append,List.map_map];refine aH (x:=.lst (M.map (rwD N))) rfl (fX (n:=20) (tkD N) (fun t=>rwD N (tr t)) T rfl (dY rfl) (by lia) fun t ht=>?_) (mJ _ _ (by rw [List.length_map,List.length_map,a_];lia) (bQ (cQ N) _) ?_)
 ·refine ⟨dO (aF (jO (i:=20) (t:=t) rfl).1 (aF (jO (i:=20) (t:=t) rfl).2.1 (aF (aH (dO (aF (jO (i:=20) (t:=t) rfl).2.2.1 rfl) (by rw [a_];simp)) (jO (i:=20) (t:=t) rfl).2.2.2 (z:=.tup ((tr t).2.2.map (sy N))) ?_) rfl))) (by rw [a_];simp),cQ ..⟩;show (if decide ([sy N t.2.2.1].length+(t.2.2.2.map (sy N)).length<=lim) then Res.ok (D.tup ([sy N t.2.2.1]++t.2.2.2.map (sy N))) else .bad)=_;have:=hm t ht;rw [List.length_map,a_,decide_eq_true (by simp;lia)];rfl
 ·exact bQ (fun t=>cQ N (tr t)) T
def pS (r:Rw):Bool:=!decide (19=r.2.1)&&!decide (19∈r.2.2)
theorem aA9 {sc:D} {cs:List Int} {n:Nat} {cell:Int} {m:Nat} {M:List Rw} {T:List Tk} {l:Nat->Nat} {k:Nat} {h:Bool} {F:List Rw} (hF:Hds F) (b c d e f g i j p:D):lw9 (la sc cs n cell N m M T l k h [.lst (F.map (rwD N)),b,c,d,e,f,g,i,j,p])=.ok (.nx (la sc cs n cell N m M T l k h [.lst (F.map (rwD N)),b,.lst ((F.filter pS).map (rwD N)),d,e,f,g,i,j,p])):=by
 refine cD (i:=12) (oW (n:=20) (rwD N) (rwD N) pS F rfl (dY rfl) (by have:=hF.ln;lia) (fun r hr=>?_) fun r hr _=>⟨rfl,cQ ..⟩);obtain ⟨u1,u2,u3,u4⟩:=hF.lt r hr;have n19:∀ρ:List D,bR 3 ρ=.ok (.lst ((List.range 26).map (sy N)))->b2 getD cF jE ρ=.ok (sy N 19):=fun ρ g3=>aH g3 rfl (bW (i:=19) rfl (by decide))
 have c1:∀ρ:List D,bR 3 ρ=.ok (.lst ((List.range 26).map (sy N)))->bR 20 ρ=.ok (rwD N r)->(bTB (b2 (b8 .ne) (b2 getD cF jE) (b2 getD jW cJ))) ρ=.ok (!decide (19=r.2.1)):=fun ρ g3 g=>d7 (aH (n19 _ g3) (fU g).2.1 (J2 hN hd (by decide) u2))
 have c2:∀ρ:List D,bR 3 ρ=.ok (.lst ((List.range 26).map (sy N)))->bR 20 ρ=.ok (rwD N r)->(bTB (b2 (b8 .notin) (b2 getD cF jE) (b2 getD jW gW))) ρ=.ok (!decide (19∈r.2.2)):=fun ρ g3 g=>d7 (aH (n19 _ g3) (fU g).2.2 (O3 hN hd (by decide) u3))
 unfold pS;by_cases h1:19=r.2.1
 ·rw [decide_eq_true h1] at c1 ⊢;exact T8 (c1 _ rfl rfl)
 ·rw [decide_eq_false h1] at c1 ⊢;exact T7 (c1 _ rfl rfl) (c2 _ rfl rfl)
theorem J8 {A:List D} (hA:A.length=14) {b c d e f:D}:∀(M L:List Rw),((L++M).map (·.1)).Nodup->(∀r∈L++M,r.1<26)->L.length+M.length<=1000->∀(a:D),∃a',nH (tg1 15) (zY 14 (b2 getD rE iI) rE) (M.map (rwD N)) (A++[.dct (stD N L),a,b,c,d,e])=.ok (.nx (A++[.dct (stD N (L++M)),a',b,c,d,e]))
 | [],L,_,_,_,a=>⟨a,by rw [List.append_nil];rfl⟩
 | r::M,L,h1,h2,h3,a=>by
  have hr:r.1<26:=h2 r (by simp);have hn:r.1∉L.map (·.1):=fun hm=>by
   rw [List.map_append,List.map_cons,List.nodup_append] at h1;exact h1.2.2 _ hm _ (List.mem_cons_self ..) rfl
  have e1:stD N (L++[r])=putD (stD N L) (sy N r.1) (rwD N r):=by
   unfold stD;rw [qR hN hd (fun r:Rw=>r.1) (rwD N) hr _ L (fun x hx=>h2 x (by simp [hx])) hn,List.map_append];rfl
  rw [List.length_cons] at h3;obtain ⟨a',q⟩:=J8 hA (b:=b) (c:=c) (d:=d) (e:=e) (f:=f) M (L++[r]) (by rw [List.append_assoc];exact h1) (by rw [List.append_assoc];exact h2) (by rw [List.length_append,List.length_singleton];lia) (rwD N r);refine ⟨a',?_⟩;rw [List.map_cons];rw [List.append_assoc] at q;have s1:∀x y:D,(A++[.dct (stD N L),x,b,c,d,e]).set 15 y=A++[.dct (stD N L),y,b,c,d,e]:=fun x y=>by
   rw [List.set_append_right _ _ (by lia),hA];rfl
  have s2:∀(x y z:D),(A++[x,y,b,c,d,e]).set 14 z=A++[z,y,b,c,d,e]:=fun x y z=>by
   rw [List.set_append_right _ _ (by lia),hA];rfl
  have g15:bR 15 (A++[.dct (stD N L),rwD N r,b,c,d,e])=.ok (rwD N r):=by
   have:(A++[.dct (stD N L),rwD N r,b,c,d,e]).getD 15 .uD=rwD N r:=by
    rw [List.getD_eq_getElem?_getD,List.getElem?_append_right (by lia),hA];rfl
   exact V0 this fun h=>by unfold rwD at h;cases h
  have g14:(A++[.dct (stD N L),rwD N r,b,c,d,e]).getD 14 .uD=.dct (stD N L):=by
   rw [List.getD_eq_getElem?_getD,List.getElem?_append_right (by lia),hA];rfl
  refine dD (ρ1:=A++[.dct (stD N L),rwD N r,b,c,d,e]) (congrArg Res.ok (s1 a (rwD N r))) (wX (i:=14) (kvs:=stD N L) (k:=sy N r.1) (d:=rwD N r) g15 (fU g15).1 g14 (by unfold stD;rw [List.length_map,a_];lia) (yD ..) (cQ ..)) ?_;rw [<-e1,s2];exact q
end
end Lk51
end
section
namespace Lk51
open PySem L2 Mi
theorem J9 (N:List Str):∀l:List Nat,oY (l.map (sy N)) (l.map (sy N))=true
 | []=>by rw [List.map_nil,oY]
 | i::l=>by
  rw [List.map_cons,oY,J9 N l];show ((N.getD i "" == N.getD i "")&&true)=true;simp
theorem aBp (N:List Str) (l:List Nat):b8 .eq (tw N l) (tw N l)=.ok (.bl true):=by
 show (if D.bY 11 (l.map (sy N))&&D.bY 11 (l.map (sy N)) then Res.ok (D.bl (oY (l.map (sy N)) (l.map (sy N)))) else .bad)=_;rw [fY,J9];rfl
section
variable {m:Nat} {M:List Rw} {T:List Tk} {l:Nat->Nat}
theorem yH {h:Bool} {t:Tk} (ht:t∈tk' h T):t∈T\/t=(21,0,19,[])\/t=(20,19,0,[]):=by
 unfold tk' at ht;split at ht
 ·simp at ht;rcases ht with e|e|e
  ·exact .inr (.inl e)
  ·exact .inl e
  ·exact .inr (.inr e)
 ·exact .inl ht
theorem J_ (h:Bool):(tk' h T).length<=T.length+2:=by
 unfold tk';split
 ·simp
 ·lia
theorem Q_ (S:Sig m M T l) (h:Bool):Hds (M++(tk' h T).map tr):=by
 have m3:=S.m3;have m1:=S.m1;refine ⟨?_,fun r hr=>?_,?_⟩
 ·have e:(M++(tk' h T).map tr).map (·.1)=M.map (·.1)++(tk' h T).map (·.1):=by
   rw [List.map_append,List.map_map];rfl
  have nT:((tk' h T).map (·.1)).Nodup:=by
   unfold tk';split
   ·have ti:∀x∈T.map (·.1),10<=x/\x<13:=fun x hx=>by
     obtain ⟨t,ht,rfl⟩:=List.mem_map.mp hx;exact S.ti t ht
    rw [List.map_append,List.map_append,List.nodup_append];refine ⟨?_,by simp,fun a ha b hb=>?_⟩
    ·rw [List.nodup_append];refine ⟨by simp,S.tn,fun a ha b hb=>?_⟩;have:=ti b hb;simp at ha;lia
    ·simp at hb;rw [List.mem_append] at ha;rcases ha with g|g
     ·simp at g;lia
     ·have:=ti a g;lia
   ·exact S.tn
  rw [e,List.nodup_append];refine ⟨S.mn,nT,fun a ha b hb=>?_⟩;obtain ⟨r,hr,rfl⟩:=List.mem_map.mp ha;obtain ⟨t,ht,rfl⟩:=List.mem_map.mp hb;have:=S.mi r hr;rcases yH ht with g|g|g
  ·have:=S.ti t g;lia
  ·subst g;show r.1≠21;lia
  ·subst g;show r.1≠20;lia
 ·rcases List.mem_append.mp hr with g|g
  ·obtain ⟨u1,u2,u3⟩:=S.mg r g;have:=S.mi r g;exact ⟨by lia,by lia,fun i hi=>by have:=u2 i hi;lia,by lia⟩
  ·obtain ⟨t,ht,rfl⟩:=List.mem_map.mp g;rcases yH ht with e|e|e
   ·obtain ⟨u1,u2,u3,u4⟩:=S.tg t e;have:=S.ti t e;refine ⟨by show t.1<26;lia,by show t.2.1<26;lia,fun i hi=>?_,by show (t.2.2.1::t.2.2.2).length<=10;rw [List.length_cons];lia⟩;rcases List.mem_cons.mp hi with q|q
    ·lia
    ·have:=u3 i q;lia
   ·subst e;exact ⟨by decide,by decide,fun i hi=>by simp [tr] at hi;lia,by decide⟩
   ·subst e;exact ⟨by decide,by decide,fun i hi=>by simp [tr] at hi;lia,by decide⟩
 ·have:=J_ (T:=T) h;have:=S.tl;have:=S.ml;rw [List.length_append,List.length_map];lia
theorem aAa (S:Sig m M T l) (h:Bool):Prg m M (tk' h T):=by
 have m3:=S.m3;have t2:=J_ (T:=T) h;have tl:=S.tl;refine ⟨S.m1,m3,by have:=S.ml;lia,by lia,fun r hr=>⟨S.mg r hr,by have:=S.mi r hr;lia⟩,fun t ht=>?_,fun k hk=>?_⟩
 ·rcases yH ht with e|e|e
  ·obtain ⟨u1,u2,u3,u4⟩:=S.tg t e;have:=S.ti t e;exact ⟨by lia,by lia,by lia,u4⟩
  ·subst e;exact ⟨by decide,by decide,by decide,by decide⟩
  ·subst e;exact ⟨by decide,by decide,by decide,by decide⟩
 ·obtain ⟨r,hr,e,_⟩:=S.ba k hk;exact ⟨r,hr,e⟩
theorem V4 (S:Sig m M T l) (h:Bool):aAm m ((M++(tk' h T).map tr).filter pS) l:=by
 have m3:=S.m3;refine ⟨m3,S.lb,Nat.le_trans (List.length_filter_le ..) (Q_ S h).ln,fun r hr=>?_,fun k hk=>?_⟩
 ·obtain ⟨h1,h2⟩:=List.mem_filter.mp hr;rcases List.mem_append.mp h1 with g|g
  ·exact S.mg r g
  ·obtain ⟨t,ht,rfl⟩:=List.mem_map.mp g;rcases yH ht with e|e|e
   ·obtain ⟨u1,u2,u3,u4⟩:=S.tg t e;refine ⟨u1,fun i hi=>?_,by show (t.2.2.1::t.2.2.2).length<=3;rw [List.length_cons];lia⟩;rcases List.mem_cons.mp hi with q|q
    ·lia
    ·exact u3 i q
   ·subst e;exact absurd h2 (by decide)
   ·subst e;exact absurd h2 (by decide)
 ·obtain ⟨r,hr,e1,e2,e3⟩:=S.ba k hk;obtain ⟨u1,u2,u3⟩:=S.mg r hr;refine ⟨r,List.mem_filter.mpr ⟨List.mem_append_left _ hr,?_⟩,e2,e3⟩;have n1:¬19=r.2.1:=by lia
  have n2:¬19∈r.2.2:=fun g=>by have:=u2 19 g;lia
  show (!decide (19=r.2.1)&&!decide (19∈r.2.2))=true;rw [decide_eq_false n1,decide_eq_false n2];rfl
end
section
variable {N:List Str} (hN:N.length=26) (hd:N.Nodup)
include hN hd
theorem RB {F:List Rw} (hF:Hds F) {ws:List (List Nat)} {ps:List Nat} (hl:ws.length=ps.length) (hr:∀(i p:Nat) (u:List Nat),ps[i]?=some p->ws[i]?=some u->Run F [p] u) (hW:ws.flatten.length<=400) {a0 a1 a2 a3 a4 a5 a6 a7 a8 a9 a10 a11 a12 a13 a15:D}:∀(c j:Nat),j+c=ps.length->∀(x:D),∃x',nH (tg1 19) lb ((List.range' j c).map fun (k:Nat)=>D.int (0+(k:Int))) [a0,a1,a2,a3,a4,a5,a6,a7,a8,a9,a10,a11,a12,a13,.dct (stD N F),a15,.lst (ws.map (tw N)),.tup (ps.map (sy N)),tw N (ws.take j).flatten,x]=.ok (.nx [a0,a1,a2,a3,a4,a5,a6,a7,a8,a9,a10,a11,a12,a13,.dct (stD N F),a15,.lst (ws.map (tw N)),.tup (ps.map (sy N)),tw N ws.flatten,x'])
 | 0,j,h,x=>⟨x,by rw [List.take_of_length_le (by lia)];rfl⟩
 | c+1,j,h,x=>by
  have h1:ps[j]?=some (ps[j]'(by lia)):=List.getElem?_eq_getElem _;have h2:ws[j]?=some (ws[j]'(by lia)):=List.getElem?_eq_getElem _;generalize ps[j]'(by lia)=p at h1;generalize ws[j]'(by lia)=w at h2;have R:=hr j p w h1 h2;have ef:(ws.take (j+1)).flatten=(ws.take j).flatten++w:=by
   rw [List.take_add_one,h2];simp
  have hle:∀i,(ws.take i).flatten.length<=ws.flatten.length:=fun i=>by
   have:=congrArg (fun z=>z.flatten.length) (List.take_append_drop i ws);simp only [List.flatten_append,List.length_append] at this;lia
  have hle1:=hle (j+1);rw [ef,List.length_append] at hle1;obtain ⟨x',q⟩:=RB hF hl hr hW (a0:=a0) (a1:=a1) (a2:=a2) (a3:=a3) (a4:=a4) (a5:=a5) (a6:=a6) (a7:=a7) (a8:=a8) (a9:=a9) (a10:=a10) (a11:=a11) (a12:=a12) (a13:=a13) (a15:=a15) c (j+1) (by lia) (.int (0+(j:Int)));refine ⟨x',?_⟩;rw [List.range'_succ,List.map_cons];rw [ef] at q;refine dD (ρ1:=[a0,a1,a2,a3,a4,a5,a6,a7,a8,a9,a10,a11,a12,a13,.dct (stD N F),a15,.lst (ws.map (tw N)),.tup (ps.map (sy N)),tw N (ws.take j).flatten,.int (0+(j:Int))]) rfl ?_ q;have gf:∀ρ:List D,bR 16 ρ=.ok (.lst (ws.map (tw N)))->bR 19 ρ=.ok (.int (0+(j:Int)))->b2 getD nC o5 ρ=.ok (tw N w):=fun ρ g1 g2=>aH g1 g2 (mV (by lia) h2)
  have gp:∀ρ:List D,bR 17 ρ=.ok (.tup (ps.map (sy N)))->bR 19 ρ=.ok (.int (0+(j:Int)))->b2 getD rF o5 ρ=.ok (sy N p):=fun ρ g1 g2=>aH g1 g2 (xW (by lia) h1)
  refine aJ (wW (ZR (x_ (b:=true) (zR (zQ (gf _ rfl rfl) rfl))) (x_ (b:=true) (zR (bG (aF (gf _ rfl rfl) (aF (gp _ rfl rfl) (aF rfl rfl))) ((mH rfl).trans (O8 hN hd hF R (by lia))))))) rfl) ?_;refine dM (i:=18) (d:=tw N ((ws.take j).flatten++w)) (aH (x:=tw N (ws.take j).flatten) (y:=tw N w) rfl (gf _ rfl rfl) ?_) (vO ..);show (if decide (((ws.take j).flatten.map (sy N)).length+(w.map (sy N)).length<=lim) then Res.ok (D.tup ((ws.take j).flatten.map (sy N)++w.map (sy N))) else .bad)=_;rw [List.length_map,List.length_map,a_,decide_eq_true (by lia),<-List.map_append];rfl
end
theorem zU {M:List Rw} {T:List Tk} {h:Bool} {k:Nat} {V:List Nat} (R:Run ((M++(tk' h T).map tr).filter pS) [if h then 0 else k] V):Run (M++(tk' h T).map tr) [if h then 0 else k] (if h then 21::20::V else V):=by
 have R':=O5 (F:=M++(tk' h T).map tr) (fun r hr=>(List.mem_filter.mp hr).1) R;cases h
 ·exact R'
 ·have i1:((21,0,[19]):Rw)∈M++(tk' true T).map tr:=List.mem_append_right _ (List.mem_map.mpr ⟨(21,0,19,[]),by unfold tk';simp,rfl⟩);have i2:((20,19,[0]):Rw)∈M++(tk' true T).map tr:=List.mem_append_right _ (List.mem_map.mpr ⟨(20,19,0,[]),by unfold tk';simp,rfl⟩);exact Run.step (r:=(21,0,[19])) (rest:=[]) i1 (Run.step (r:=(20,19,[0])) (rest:=[]) i2 R')
end Lk51
end
section
namespace Lk51
open PySem L2 Mi
theorem main:∀ns:List Int,ns.length<=63->zO [.scr (ns.map D.int)]=.ok (.bl true):=fun ns _=>by
 obtain ⟨cs,e0⟩:=aA6 ns [.uD,.uD,.uD,.uD,.uD,.uD,.uD,.uD,.uD,.uD,.uD,.uD,.uD,.uD,.uD,.uD,.uD,.uD];obtain ⟨cell,q1⟩:=gZ cs 0 (by lia);obtain ⟨N,hN,hd,q2⟩:=OJ cs 1 (by lia);rw [ZV N hN] at q2;obtain ⟨m,M,T,l,n1,S,hn1,q3⟩:=Z8 hN hd cs 4 (by lia);have m1:=S.m1;have m3:=S.m3;obtain ⟨k,k1,k2⟩:=kix m1 (cell / 8);generalize hh:(cell / 24 % 4==1)=h;have hT:T.length<=100:=by have:=S.tl;lia
 have hF:=Q_ S h;have P:=V4 S h;have G:=aAa S h;obtain ⟨most,o1,o2⟩:=V3 (cell / 2 % 4) (by lia) (by lia);have hk0:(if h then 0 else k)<m:=by split <;> lia
 obtain ⟨V,n2,R,lV,hn2,q4⟩:=O4 hN hd cs (n:=n1) (full:=(cell % 2==1)) P hk0 o2 (by lia);have RW:=zU R;generalize hk':(if h then 0 else k)=k' at RW q4 hk0;have lW:(if h then 21::20::V else V).length<=392:=by
  split
  ·rw [List.length_cons,List.length_cons];lia
  ·lia
 generalize hW:(if h then 21::20::V else V)=WW at RW lW;generalize hFe:M++(tk' h T).map tr=F at RW hF P q4;obtain ⟨r,W,e2,hr,R2⟩:∃(r:Rw) (W:List Nat),WW=r.1::W/\r∈F/\Run F (r.2.2++[]) W:=by
  cases RW with
  | step hr R2=>exact ⟨_,_,rfl,hr,R2⟩
 subst e2;rw [List.append_nil] at R2;obtain ⟨ws,w1,w2,w3⟩:=tY R2;subst w1;obtain ⟨u1,u2,u3,u4⟩:=hF.lt r hr;rw [List.length_cons] at lW;obtain ⟨P0,P3,q5⟩:=VV hN hd G;have hws:∀w∈ws,∃p,Run F [p] w:=fun w hw=>by
  obtain ⟨i,hi,e⟩:=List.getElem_of_mem hw;exact ⟨r.2.2[i]'(by lia),w3 i _ w (List.getElem?_eq_getElem _) (by rw [List.getElem?_eq_getElem hi,e])⟩
 have q6:mQ [.tup [P0,.tup (M.map (rwD N)),.tup ((tk' h T).map (tkD N)),P3],.tup ((r.1::ws.flatten).map (sy N))]=.ok (.lst (ws.map (tw N))):=by
  subst hFe;exact O7 hN hd hF (by rw [List.length_cons];lia) hws (by lia)
 refine call_v ?_;show U7 [.scr (ns.map D.int),.uD,.uD,.uD,.uD,.uD,.uD,.uD,.uD,.uD,.uD,.uD,.uD,.uD,.uD,.uD,.uD,.uD,.uD,.uD]=_;rw [V1];refine aJ e0 ?_;refine aJ (ρ':=[.scr (ns.map D.int),.lst (dk cs 1),.int cell,.uD,.uD,.uD,.uD,.uD,.uD,.uD,.uD,.uD,.uD,.uD,.uD,.uD,.uD,.uD,.uD,.uD]) (gY (i:=2) (pA q1 rfl rfl) rfl) ?_;refine aJ (ρ':=[.scr (ns.map D.int),.lst (dk cs 4),.int cell,.lst ((List.range 26).map (sy N)),.uD,.uD,.uD,.uD,.uD,.uD,.uD,.uD,.uD,.uD,.uD,.uD,.uD,.uD,.uD,.uD]) (gY (i:=3) (lK (fs:=aR) (i:=1) (rest:=[]) rfl rfl rfl q2 (lL ..) rfl) rfl) ?_;refine aJ (ρ':=[.scr (ns.map D.int),.lst (dk cs n1),.int cell,.lst ((List.range 26).map (sy N)),.lst ((List.range m).map (sy N)),.lst (M.map (rwD N)),.lst (T.map (tkD N)),.dct (lsD N m l),.uD,.uD,.uD,.uD,.uD,.uD,.uD,.uD,.uD,.uD,.uD,.uD]) (V2 (lK (i:=1) (fs:=aB cF aR) (rest:=[.lst ((List.range 26).map (sy N))]) (aF rfl rfl) rfl rfl q3 (lL ..) rfl) rfl rfl) ?_;refine aJ (ρ':=[.scr (ns.map D.int),.lst (dk cs n1),.int cell,.lst ((List.range 26).map (sy N)),.lst ((List.range m).map (sy N)),.lst (M.map (rwD N)),.lst (T.map (tkD N)),.dct (lsD N m l),sy N k,.uD,.uD,.uD,.uD,.uD,.uD,.uD,.uD,.uD,.uD,.uD]) (dM (i:=8) (aH rfl (aH (aH (x:=.int cell) rfl rfl (cV _ _ (by decide) (by decide))) (y:=.int m) (bG (aF rfl rfl) ?_) (bV _ _ (by lia))) (bW k2 k1)) rfl) ?_
 ·show Res.ok (D.int (((List.range m).map (sy N)).length:Int))=_;rw [List.length_map,List.length_range]
 refine aJ (ρ':=la (.scr (ns.map D.int)) cs n1 cell N m M T l k h [.uD,.uD,.uD,.uD,.uD,.uD,.uD,.uD,.uD,.uD]) (cD (i:=9) (aH (aH (aH (x:=.int cell) rfl rfl (cV _ _ (by decide) (by decide))) rfl (bV _ _ (by decide))) rfl ((jM _ _).trans (by rw [hh])))) ?_;refine aJ (aA7 m1 hT _) ?_;rw [hk'];refine aJ (aA8 (by have:=S.ml;lia) (by have:=J_ (T:=T) h;have:=S.tl;lia) (fun t ht=>by have:=(G.tg t ht).2.2.2;lia) ..) ?_;rw [hFe];refine aJ (ρ':=la (.scr (ns.map D.int)) cs n1 cell N m M (tk' h T) l k' h [.lst (F.map (rwD N)),.int most,.uD,.uD,.uD,.uD,.uD,.uD,.uD,.uD]) (dM (i:=11) (aH rfl (aH (aH (x:=.int cell) rfl rfl (cV _ _ (by decide) (by decide))) rfl (bV _ _ (by decide))) o1) rfl) ?_;refine aJ (aA9 hN hd hF ..) ?_;have hfull:bPu (b2 (b8 .eq) (b2 (aN .mod) dH gW) cJ) (la (.scr (ns.map D.int)) cs n1 cell N m M (tk' h T) l k' h [.lst (F.map (rwD N)),.int most,.lst ((F.filter pS).map (rwD N)),.uD,.uD,.uD,.uD,.uD,.uD,.uD])=.ok (.bl (cell % 2==1)):=JP (aH (aH (x:=.int cell) rfl rfl (bV _ _ (by decide))) rfl (jM _ _)) rfl;have hargs:(aB nA (aB m_ (aB gR (aB (bPu (b2 (b8 .eq) (b2 (aN .mod) dH gW) cJ)) (aB kI aR))))) (la (.scr (ns.map D.int)) cs n1 cell N m M (tk' h T) l k' h [.lst (F.map (rwD N)),.int most,.lst ((F.filter pS).map (rwD N)),.uD,.uD,.uD,.uD,.uD,.uD,.uD])=.ok [.lst ((F.filter pS).map (rwD N)),sy N k',.int most,.bl (cell % 2==1),.dct (lsD N m l)]:=aF rfl (aF rfl (aF rfl (aF hfull (aF rfl rfl))));have hcall:bZ dW 6 1 (aB nA (aB m_ (aB gR (aB (bPu (b2 (b8 .eq) (b2 (aN .mod) dH gW) cJ)) (aB kI aR))))) (la (.scr (ns.map D.int)) cs n1 cell N m M (tk' h T) l k' h [.lst (F.map (rwD N)),.int most,.lst ((F.filter pS).map (rwD N)),.uD,.uD,.uD,.uD,.uD,.uD,.uD])=.ok (.lst (V.map (sy N)),la (.scr (ns.map D.int)) cs n2 cell N m M (tk' h T) l k' h [.lst (F.map (rwD N)),.int most,.lst ((F.filter pS).map (rwD N)),.uD,.uD,.uD,.uD,.uD,.uD,.uD]):=lK hargs rfl rfl q4 (lL ..) rfl;refine aJ (ρ':=la (.scr (ns.map D.int)) cs n2 cell N m M (tk' h T) l k' h [.lst (F.map (rwD N)),.int most,.lst ((F.filter pS).map (rwD N)),.lst (V.map (sy N)),.uD,.uD,.uD,.uD,.uD,.uD]) (gY (i:=13) hcall rfl) ?_;refine aJ (ρ':=la (.scr (ns.map D.int)) cs n2 cell N m M (tk' h T) l k' h [.lst (F.map (rwD N)),.int most,.lst ((F.filter pS).map (rwD N)),.lst ((r.1::ws.flatten).map (sy N)),.uD,.uD,.uD,.uD,.uD,.uD]) ?_ ?_
 ·have hb:bTr iZ (la (.scr (ns.map D.int)) cs n2 cell N m M (tk' h T) l k' h [.lst (F.map (rwD N)),.int most,.lst ((F.filter pS).map (rwD N)),.lst (V.map (sy N)),.uD,.uD,.uD,.uD,.uD,.uD])=.ok h:=zR rfl;rw [<-hW];cases h
  ·exact wW hb rfl
  ·refine KJ hb (cD (i:=13) ?_);exact aH (yG (aF (JP (aH rfl rfl (bW (i:=21) rfl (by decide))) rfl) (aF (JP (aH rfl rfl (bW (i:=20) rfl (by decide))) rfl) rfl)) (by rw [a_];simp)) (y:=.lst (V.map (sy N))) rfl (mJ _ _ (by rw [List.length_map,a_];simp;lia) rfl (bO ..))
 refine aJ (ρ':=la (.scr (ns.map D.int)) cs n2 cell N m M (tk' h T) l k' h [.lst (F.map (rwD N)),.int most,.lst ((F.filter pS).map (rwD N)),.lst ((r.1::ws.flatten).map (sy N)),.dct [],.uD,.uD,.uD,.uD,.uD]) (eG (i:=14) rfl rfl) ?_;obtain ⟨x15,q7⟩:=J8 hN hd (A:=[.scr (ns.map D.int),.lst (dk cs n2),.int cell,.lst ((List.range 26).map (sy N)),.lst ((List.range m).map (sy N)),.lst (M.map (rwD N)),.lst ((tk' h T).map (tkD N)),.dct (lsD N m l),sy N k',.bl h,.lst (F.map (rwD N)),.int most,.lst ((F.filter pS).map (rwD N)),.lst ((r.1::ws.flatten).map (sy N))]) rfl (b:=.uD) (c:=.uD) (d:=.uD) (e:=.uD) (f:=.uD) F [] hF.nd (fun r hr=>(hF.lt r hr).1) (by have:=hF.ln;simp;lia) .uD;refine aJ (qG (xs:=F.map (rwD N)) rfl rfl q7) ?_;refine aJ (ρ':=la (.scr (ns.map D.int)) cs n2 cell N m M (tk' h T) l k' h [.lst (F.map (rwD N)),.int most,.lst ((F.filter pS).map (rwD N)),.lst ((r.1::ws.flatten).map (sy N)),.dct (stD N F),x15,.lst (ws.map (tw N)),.uD,.uD,.uD]) (cD (i:=16) (bG (aF (bG (aF rfl (aF rfl (aF rfl (aF rfl rfl)))) ((mH rfl).trans q5)) (aF (bG (aF rfl rfl) rfl) rfl)) ((mH rfl).trans q6))) ?_;refine aJ (ρ':=la (.scr (ns.map D.int)) cs n2 cell N m M (tk' h T) l k' h [.lst (F.map (rwD N)),.int most,.lst ((F.filter pS).map (rwD N)),.lst ((r.1::ws.flatten).map (sy N)),.dct (stD N F),x15,.lst (ws.map (tw N)),.tup (r.2.2.map (sy N)),.uD,.uD]) (dM (i:=17) (aH (aH rfl (aH rfl rfl (mV (i:=0) (l:=r.1::ws.flatten) rfl rfl)) (Q8 hN hd hF hr)) rfl (z:=.tup (r.2.2.map (sy N))) rfl) (by rw [D.pure,bO])) ?_;have hlf:∀ρ:List D,bR 17 ρ=.ok (.tup (r.2.2.map (sy N)))->(bD jF (aB rF aR)) ρ=.ok (.int r.2.2.length):=fun ρ g=>bG (aF g rfl) (by
  show Res.ok (D.int ((r.2.2.map (sy N)).length:Int))=_;rw [List.length_map])
 have hlw:∀ρ:List D,bR 16 ρ=.ok (.lst (ws.map (tw N)))->(bD jF (aB nC aR)) ρ=.ok (.int ws.length):=fun ρ g=>bG (aF g rfl) (by
  show Res.ok (D.int ((ws.map (tw N)).length:Int))=_;rw [List.length_map])
 refine aJ (wW (ZR (x_ (b:=true) (zR (zQ rfl rfl))) (d7 (aH (hlw _ rfl) (hlf _ rfl) ((U8 _ _).trans (by rw [w2];simp))))) rfl) ?_;refine aJ (ρ':=la (.scr (ns.map D.int)) cs n2 cell N m M (tk' h T) l k' h [.lst (F.map (rwD N)),.int most,.lst ((F.filter pS).map (rwD N)),.lst ((r.1::ws.flatten).map (sy N)),.dct (stD N F),x15,.lst (ws.map (tw N)),.tup (r.2.2.map (sy N)),tw N [],.uD]) (cD (i:=18) (dO (xs:=[]) rfl (by rw [a_];simp))) ?_;obtain ⟨x19,q8⟩:=RB hN hd hF w2 w3 (by lia) (a0:=.scr (ns.map D.int)) (a1:=.lst (dk cs n2)) (a2:=.int cell) (a3:=.lst ((List.range 26).map (sy N))) (a4:=.lst ((List.range m).map (sy N))) (a5:=.lst (M.map (rwD N))) (a6:=.lst ((tk' h T).map (tkD N))) (a7:=.dct (lsD N m l)) (a8:=sy N k') (a9:=.bl h) (a10:=.lst (F.map (rwD N))) (a11:=.int most) (a12:=.lst ((F.filter pS).map (rwD N))) (a13:=.lst ((r.1::ws.flatten).map (sy N))) (a15:=x15) r.2.2.length 0 (by lia) .uD;refine aJ (rY (oJ (n:=(r.2.2.length:Int)) (aF (hlf _ rfl) rfl) (by lia) (by lia)) (by rw [Int.toNat_natCast,List.range_eq_range'];exact q8)) ?_;refine rW (aH (x:=tw N ws.flatten) (y:=tw N ws.flatten) rfl (bG (aF (x:=.lst (ws.flatten.map (sy N))) ?_ rfl) rfl) (aBp ..)) rfl;have:=mW (a:=bR 13) (lo:=cN cJ) (hi:=eO) (ρ:=[.scr (ns.map D.int),.lst (dk cs n2),.int cell,.lst ((List.range 26).map (sy N)),.lst ((List.range m).map (sy N)),.lst (M.map (rwD N)),.lst ((tk' h T).map (tkD N)),.dct (lsD N m l),sy N k',.bl h,.lst (F.map (rwD N)),.int most,.lst ((F.filter pS).map (rwD N)),.lst ((r.1::ws.flatten).map (sy N)),.dct (stD N F),x15,.lst (ws.map (tw N)),.tup (r.2.2.map (sy N)),tw N ws.flatten,x19]) (xs:=(r.1::ws.flatten).map (sy N)) rfl (fQ rfl) rfl (bO ..);exact this.trans (congrArg (fun z=>Res.ok (D.lst z)) (xU ((r.1::ws.flatten).map (sy N)) 1))
end Lk51
end
section
open PySem PySem.W PyProof.Rows
set_option maxRecDepth 100000 in
set_option maxHeartbeats 0 in
theorem PySem.Challenge.cw_hookmill_k51_split_holds : PySem.Challenge.rw_hookmill_k51_split.Holds := by
 w_on;o_law;k_head;(case hw=>w_witness2)
 k_fill
 refine Lk51.walk (l:=PySem.Challenge.rw_hookmill_k51_split) Lk51.main rfl rfl (fun w h Y=>PySem.W.kIn_of Y) ?F
 case F=>
  intro w mg fa h KX G hmg
  refine' Lk51.ZL KX G hmg ?a0 ?a1 ?a2 ?a3 ?a4 ?a5 ?a6 ?a7 ?a8 ?a9 ?a10 ?l10 ?c10 ?k10 ?z_len ?z_min ?z_max ?z_list ?z_tuple ?z_sorted ?z_range ?z_isinstance ?z_int ?z_bool ?z_str ?z_dict ?z_all ?z_enumerate ?z_sum ?z_zip ?z_abs ?z_reversed
  (case a0|a1|a2|a3|a4|a5|a6|a7|a8|a9=>refine' Lk51.aBh ?a ?b ?c ?d;(case a=>k_is);(case b=>k_is);(case c=>k_is);case d=>k_is)
  (case a10|l10|c10|k10|z_len|z_min|z_max|z_list|z_tuple|z_sorted|z_range|z_isinstance|z_int|z_bool|z_str|z_dict|z_all|z_enumerate|z_sum|z_zip|z_abs|z_reversed=>k_is)
end
