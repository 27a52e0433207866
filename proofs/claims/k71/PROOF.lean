import PyProof.Rows.All
import Wide.All
import OpenK.AllK
import Wide.FinOn
import PyProof.EqAt
import PyProof.EqKinds
import PyProof.TupleCall
import Lean
import PyProof.Rows.SortRuns
import PySem.Syntax
import PyProof.NeKinds
import PyProof.WalkInts
import KE.KDictList
import PyProof.CompUse
import PyProof.StrWalks
import PyProof.EnumMake
import PyProof.EnumFor
import PyProof.StrCalls2
import PyProof.StrBlock2
import PyProof.StrBlockI
import PyProof.SliceStr2
import PyProof.ConsumeWalk
import PyProof.StrLawsJoin
import KE.KTryMore
import KE.KTryDeep
import OpenK.KOwn
import PyProof.ExcClass3
import KE.KIsAll
import PyProof.ExcArgsOwn
import PyProof.NsDelKeeps
import PyProof.StationsW
import OpenK.KCls
import PyProof.InstStoreFacts
import PyProof.ListRange
import PyProof.DictWalks
import KE.KEqDict
import PyProof.Rows.TupAdd
import PyProof.DictIter
import PyProof.AttrMissHeap
import PyProof.ZipIter
import PyProof.TupleIter
import PyProof.WalksMore
import PyProof.FactsAll.zip
import KE.KDictOf
import PyProof.Conv_int
import PyProof.Conv_int_bool
import PyProof.StrBlockL
import PyProof.MakeMany
import PyProof.MeetsStr2
import PyProof.CallRoads3
import PyProof.Rows.TupIn
import KE.KRevIter
import PyProof.Draws
import PyProof.CallType
import PyProof.EnumStmt
import PyProof.DictItems
import PyProof.Rows.StrInSeq3
import PyProof.MeetsSeq2
import KE.KPairComp
import PySem.Challenge.RW_hookmill_k71_roles
set_option Elab.async false
set_option maxRecDepth 100000
set_option maxHeartbeats 4000000
noncomputable section
set_option linter.all false
set_option autoImplicit true
set_option genSizeOfSpec false
set_option genInjectivity true
abbrev nDb (x:PySem.Str):Prop := (x==("__debug__" : PySem.Str))=false
abbrev nCd (x:PySem.Str):Prop := (x==("__classdict__" : PySem.Str))=false
namespace L2
open PySem PySem.Spec PyProof.Rows
noncomputable abbrev Key:=Sum Int Str
noncomputable def MT:Key->Value->Bool
 | .inl k,v=>Value.isInt k v
 | .inr x,v=>Value.isStrOf x v
noncomputable def aMg (w:World):Key->Int
 | .inl k=>hashInt k
 | .inr x=>hashStr w x
theorem cJ:∀{k:Key} {v:Value},MT k v=true->(∃i t,k=Sum.inl i/\v=Value.int i t)\/(∃x t,k=Sum.inr x/\v=Value.str x t)
 | .inl i,v,h=>by
  obtain ⟨t,e⟩:=Value.isInt_shape (k:=i) (v:=v) h;exact .inl ⟨i,t,rfl,e⟩
 | .inr x,v,h=>by
  obtain ⟨t,e⟩:=Value.isStrOf_shape (x:=x) (v:=v) h;exact .inr ⟨x,t,rfl,e⟩
theorem V_ (i:Int) (t:Tok):MT (.inl i) (.int i t)=true:=by simp [MT,Value.isInt]
theorem WD (x:Str) (t:Tok):MT (.inr x) (.str x t)=true:=by simp [MT,Value.isStrOf]
theorem aGo (a b:Int):decide ((Sum.inl a:Key)=Sum.inl b)=(a==b):=by
 by_cases e:a=b
 ·subst e;simp
 ·have h:¬(Sum.inl a:Key)=Sum.inl b:=fun q=>e (Sum.inl.inj q)
  rw [decide_eq_false h];exact (beq_eq_false_iff_ne.mpr e).symm
theorem aGp (a b:Str):decide ((Sum.inr a:Key)=Sum.inr b)=decide (a=b):=by
 by_cases e:a=b
 ·subst e;simp
 ·have h:¬(Sum.inr a:Key)=Sum.inr b:=fun q=>e (Sum.inr.inj q)
  rw [decide_eq_false h,decide_eq_false e]
theorem aGq (a:Int) (b:Str):decide ((Sum.inl a:Key)=Sum.inr b)=false:=decide_eq_false (fun q=>nomatch q)
theorem aGr (a:Str) (b:Int):decide ((Sum.inr a:Key)=Sum.inl b)=false:=decide_eq_false (fun q=>nomatch q)
def bT (prog:Program) (w:World):PySem.KeyKind prog w Key where
 is:=MT
 hash:=aMg w
 inj:=fun v a b ha hb=>by
  rcases cJ ha with ⟨i,t,rfl,rfl⟩|⟨x,t,rfl,rfl⟩
  ·rcases cJ hb with ⟨j,u,rfl,e⟩|⟨y,u,rfl,e⟩
   ·injection e with e1 _;rw [e1]
   ·exact nomatch e
  ·rcases cJ hb with ⟨j,u,rfl,e⟩|⟨y,u,rfl,e⟩
   ·exact nomatch e
   ·injection e with e1 _;rw [e1]
 byValue:=fun k v h=>by
  rcases cJ h with ⟨i,t,rfl,rfl⟩|⟨x,t,rfl,rfl⟩ <;> rfl
 pyHash:=fun hv h=>by
  rcases cJ hv with ⟨i,t,rfl,rfl⟩|⟨x,t,rfl,rfl⟩
  ·exact wpAny_pyHash_int h
  ·exact wpAny_pyHash_str h
 eqBool:=fun hu hv h=>by
  rcases cJ hu with ⟨i,t,rfl,rfl⟩|⟨x,t,rfl,rfl⟩
  ·rcases cJ hv with ⟨j,u,rfl,rfl⟩|⟨y,u,rfl,rfl⟩
   ·rw [aGo] at h;exact wpAny_eqBool_int h
   ·rw [aGq] at h;exact SeqAt.EqAt.int_str i t y u _ _ _ _ h
  ·rcases cJ hv with ⟨j,u,rfl,rfl⟩|⟨y,u,rfl,rfl⟩
   ·rw [aGr] at h;exact SeqAt.EqAt.str_int x t j u _ _ _ _ h
   ·rw [aGp] at h;exact wpAny_eqBool_str h
 «strs»:=fun k x t v h=>by
  rcases cJ h with ⟨i,u,rfl,e⟩|⟨y,u,rfl,e⟩
  ·exact nomatch e
  ·injection e with e1 _
   subst e1;cases v <;> rfl
theorem M3 (prog:Program) (w:World) (i:Int) (t:Tok):(bT prog w).is (.inl i) (.int i t)=true:=V_ i t
theorem M4 (prog:Program) (w:World) (x:Str) (t:Tok):(bT prog w).is (.inr x) (.str x t)=true:=WD x t
inductive V where
 | non|bl (b:Bool)|int (i:Int)|str (x:Str)|byt (b:Array UInt8)|flt (b:UInt64)|ref (a:Addr)|ty (n:String)
 deriving DecidableEq
def RelV:V->Value->Prop
 | .non,u=>u=Value.none
 | .bl b,u=>u=Value.bool b
 | .int i,u=>∃t,u=Value.int i t
 | .str x,u=>∃t,u=Value.str x t
 | .byt b,u=>∃t,u=Value.bytes b t
 | .flt b,u=>∃t,u=Value.float b t
 | .ref a,u=>u=Value.ref a
 | .ty n,u=>u=Value.type n
abbrev Vals:List V->List Value->Prop:=Paired RelV
theorem Vals.length {xs:List V} {us:List Value} (r:Vals xs us):xs.length=us.length:=Paired.length r
theorem Vals.get:∀{xs:List V} {us:List Value} {i:Nat} {x:V},Vals xs us->xs[i]?=some x->∃u,us[i]?=some u/\RelV x u
 | _,_,_,_,.nil,e=>by simp at e
 | _,_,0,_,.cons r _,e=>by simp at e;subst e;exact ⟨_,rfl,r⟩
 | _,_,i+1,x,.cons _ t,e=>by
  obtain ⟨u,h1,h2⟩:=Vals.get (i:=i) (x:=x) t (by simpa using e);exact ⟨u,by simpa using h1,h2⟩
theorem Vals.set {x:V} {u:Value} (r:RelV x u):∀{xs:List V} {us:List Value} (i:Nat),Vals xs us->Vals (xs.set i x) (us.set i u)
 | _,_,_,.nil=>.nil
 | _,_,0,.cons _ t=>.cons r t
 | _,_,i+1,.cons q t=>.cons q (Vals.set r i t)
theorem Vals.append:∀{xs ys:List V} {us ws:List Value},Vals xs us->Vals ys ws->Vals (xs++ys) (us++ws)
 | _,_,_,_,.nil,s=>s
 | _,_,_,_,.cons r t,s=>.cons r (Vals.append t s)
theorem Vals.take:∀{xs:List V} {us:List Value} (n:Nat),Vals xs us->Vals (xs.take n) (us.take n)
 | _,_,0,_=>.nil
 | _,_,_+1,.nil=>.nil
 | _,_,n+1,.cons r t=>.cons r (Vals.take n t)
theorem Vals.drop:∀{xs:List V} {us:List Value} (n:Nat),Vals xs us->Vals (xs.drop n) (us.drop n)
 | _,_,0,r=>r
 | _,_,_+1,.nil=>.nil
 | _,_,n+1,.cons _ t=>Vals.drop n t
def L_:Option V->Option Value->Prop
 | some v,some u=>RelV v u
 | none,none=>True
 | _,_=>False
def KV {κ:Type}:List (κ×V)->List (κ×Value)->Prop:=Paired fun (p:κ×V) (q:κ×Value)=>p.1=q.1/\RelV p.2 q.2
noncomputable def kV:Key->V
 | .inl i=>.int i
 | .inr x=>.str x
inductive HO where
 | lst (xs:List V)
 | tup (xs:List V)
 | dK (kvs:List (Key×V))|dT (kvs:List (List Key×V))
 | set (S:Int->Bool) (n:Nat)
 | ins (C dx:Addr) (fs:List (Str×V))
 | own (x:Addr)
 | xd (fs:List (Str×V))
 | met (f x:Addr)
 | rng (lo hi:Int)
 | frz (o:Obj) (u:HO)
 | tbl (ps:Array Value)
 | ext (φ:Heap->Prop)
noncomputable abbrev Hp:=Addr->Option HO
noncomputable def upd (H:Hp) (a:Addr) (o:HO):Hp:=fun b=>if b=a then some o else H b
theorem aG {H:Hp} {a:Addr} {o:HO}:upd H a o a=some o:=by unfold upd;rw [if_pos rfl]
theorem aR {H:Hp} {a b:Addr} {o:HO} (h:b≠a):upd H a o b=H b:=by unfold upd;rw [if_neg h]
theorem M5 {H:Hp} {a:Addr} {o u:HO}:upd (upd H a o) a u=upd H a u:=by
 funext b;unfold upd;split <;> rfl
theorem M6 {H:Hp} {a b:Addr} {o u:HO} (h:H a=some o) (h':H b=some u) (d:o≠u):a≠b:=by
 intro e;subst e;rw [h] at h';exact d (Option.some.inj h')
theorem bI {H:Hp} {a b:Addr} {o:HO} (h:H a=some o) (h':H b=none):a≠b:=by
 intro e;subst e;rw [h] at h';cases h'
def jR (h:Heap) (a:Addr) (its:Array Value):Prop:=∃o,h.get? a=some o/\o.cls=.type "tuple"/\∃n,(o.data,o.dict)=(Data.seq its n,none)
theorem jR.tup {h:Heap} {a:Addr} {its:Array Value} (t:jR h a its):IsTup h a its:=let ⟨o,e,c,n,d⟩:=t;⟨o,e,c,n,congrArg (·.1) d⟩
theorem jR.bare {h:Heap} {a:Addr} {its:Array Value} (t:jR h a its):∃o,h.get? a=some o/\o.dict=none:=let ⟨o,e,_,_,d⟩:=t;⟨o,e,congrArg (·.2) d⟩
theorem jR.new (h:Heap) (items:Array Value):jR (h.push {cls:=.type "tuple",data:=.seq items}) h.objs.size items:=⟨_,Heap.get?_push_size _ rfl,rfl,_,rfl⟩
section
variable (P:Program) (w:World)
def fD (H:Hp) (h:Heap) (a:Addr):HO->Prop
 | .lst xs=>xs.length<=sizeLine/\∃(its:List Value) (n:Nat),Vals xs its/\h.get? a=some {cls:=.type "list",data:=.seq its.toArray n}
 | .tup xs=>xs.length<=sizeLine/\∃its:List Value,Vals xs its/\jR h a its.toArray
 | .dK kvs=>kvs.length<=sizeLine/\(a==sysModules)=false/\∃vs,KV kvs vs/\h.DictOf (bT P w) a vs
 | .dT kvs=>kvs.length<=sizeLine/\(a==sysModules)=false/\∃xs:List (List Key×Addr×Value),
   Paired (fun (p:List Key×V) (q:List Key×Addr×Value)=>p.1=q.1/\H q.2.1=some (.tup (p.1.map kV))/\RelV p.2 q.2.2) kvs xs/\
   ∃o es ep,h.get? a=some o/\o.ExactDict/\o.data=.dict es ep/\es.toList=xs.map (entryOfKey (tupleKind (bT P w)))/\(xs.map (·.1)).Nodup
 | .set S n=>h.SetOf (intKind P w) a S n
 | .ins C dx fs=>H dx=some (.own a)/\fs.length<=1000/\dx≠a/\h.get? a=some (PySem.W.instObj C dx)/\
   ∃mA,h.Ns1 dx mA/\(∀f,L_ (fs.lookup f) (mA f))/\PySem.Within mA (fs.map (·.1))
 | .own _=>∃o,h.get? a=some o
 | .xd fs=>∃mA,h.Ns1 a mA/\∀f,L_ (fs.lookup f) (mA f)
 | .rng lo hi=>∃t u v,h.get? a=some {cls:=.type "range",data:=.fields #[.int lo t,.int hi u,.int 1 v]}
 | .frz o u=>h.get? a=some o/\fD H h a u
 | .tbl ps=>h.get? a=some {cls:=.none,data:=.fields ps}
 | .met f x=>h.get? a=some (PySem.W.methodObj (.ref f) (.ref x))
 | .ext φ=>φ h/\(∃o,h.get? a=some o)/\∀h1 h2:Heap,φ h1->(∀o,h1.get? a=some o->h2.get? a=some o)->φ h2
def HOk (H:Hp) (h:Heap):Prop:=∀a o,H a=some o->fD P w H h a o
end
section
variable {P:Program} {w:World} {H H':Hp} {h h':Heap} {a:Addr} {o:HO}
theorem fD.lt (x:fD P w H h a o):a<h.objs.size:=by
 cases o with
 | lst xs=>obtain ⟨_,_,_,_,e⟩:=x;exact Heap.lt_size e
 | tup xs=>obtain ⟨_,_,_,p⟩:=x;exact p.tup.lt
 | dK kvs=>obtain ⟨_,_,_,_,o,_,_,e,_⟩:=x;exact Heap.lt_size e
 | dT kvs=>obtain ⟨_,_,_,_,o,_,_,e,_⟩:=x;exact Heap.lt_size e
 | set S n=>obtain ⟨o,_,_,_,e,_⟩:=x;exact Heap.lt_size e
 | ins C dx fs=>obtain ⟨_,_,_,e,_⟩:=x;exact Heap.lt_size e
 | own y=>obtain ⟨_,e⟩:=x;exact Heap.lt_size e
 | xd fs=>obtain ⟨_,⟨_,_,_,e,_⟩,_⟩:=x;exact Heap.lt_size e
 | rng lo hi=>obtain ⟨_,_,_,e⟩:=x;exact Heap.lt_size e
 | frz ob u=>obtain ⟨e,_⟩:=x;exact Heap.lt_size e
 | tbl ps=>exact Heap.lt_size (show h.get? a=some _ from x)
 | met f y=>exact Heap.lt_size (show h.get? a=some _ from x)
 | ext φ=>obtain ⟨_,⟨_,e⟩,_⟩:=x;exact Heap.lt_size e
theorem Paired.aKg {α β:Type} {F G:α->β->Prop}:∀{l₁:List α} {l₂:List β},Paired F l₁ l₂->(∀a b,F a b->G a b)->Paired G l₁ l₂
 | _,_,.nil,_=>.nil
 | _,_,.cons r t,f=>.cons (f _ _ r) (Paired.aKg t f)
theorem fD.stay (x:fD P w H h a o) (k:∀b u,(b=a\/H b=some (.own a))->h.get? b=some u->h'.get? b=some u)
  (ho:∀b,H b=some (.own a)->H' b=some (.own a)) (ht:∀b xs,H b=some (.tup xs)->H' b=some (.tup xs)):fD P w H' h' a o:=by
 induction o with
 | lst xs=>obtain ⟨z,its,n,r,e⟩:=x;exact ⟨z,its,n,r,k _ _ (.inl rfl) e⟩
 | tup xs=>obtain ⟨z,its,r,ob,e,c⟩:=x;exact ⟨z,its,r,ob,k _ _ (.inl rfl) e,c⟩
 | dK kvs=>obtain ⟨z,y,vs,r,ob,es,ep,e,c⟩:=x;exact ⟨z,y,vs,r,ob,es,ep,k _ _ (.inl rfl) e,c⟩
 | dT kvs=>
  obtain ⟨z,y,xs,r,ob,es,ep,e,c⟩:=x;exact ⟨z,y,xs,Paired.aKg r fun p q z=>⟨z.1,ht _ _ z.2.1,z.2.2⟩,ob,es,ep,k _ _ (.inl rfl) e,c⟩
 | set S n=>obtain ⟨ob,es,ep,t,e,c⟩:=x;exact ⟨ob,es,ep,t,k _ _ (.inl rfl) e,c⟩
 | ins C dx fs=>
  obtain ⟨d,z,ne,e,mA,⟨od,es,ep,e2,c⟩,r⟩:=x;exact ⟨ho _ d,z,ne,k _ _ (.inl rfl) e,mA,⟨od,es,ep,k _ _ (.inr d) e2,c⟩,r⟩
 | own y=>obtain ⟨ob,e⟩:=x;exact ⟨ob,k _ _ (.inl rfl) e⟩
 | xd fs=>obtain ⟨mA,⟨od,es,ep,e,c⟩,r⟩:=x;exact ⟨mA,⟨od,es,ep,k _ _ (.inl rfl) e,c⟩,r⟩
 | rng lo hi=>obtain ⟨t,u,v,e⟩:=x;exact ⟨t,u,v,k _ _ (.inl rfl) e⟩
 | frz ob u ih=>obtain ⟨e,q⟩:=x;exact ⟨k _ _ (.inl rfl) e,ih q⟩
 | tbl ps=>
  have e:h.get? a=some {cls:=.none,data:=.fields ps}:=x;show h'.get? a=some {cls:=.none,data:=.fields ps};exact k a _ (.inl rfl) e
 | met f y=>
  have e:h.get? a=some (PySem.W.methodObj (.ref f) (.ref y)):=x;show h'.get? a=some (PySem.W.methodObj (.ref f) (.ref y));exact k a _ (.inl rfl) e
 | ext φ=>obtain ⟨p,⟨o,e⟩,st⟩:=x;exact ⟨st _ _ p fun o q=>k _ _ (.inl rfl) q,⟨o,k _ _ (.inl rfl) e⟩,st⟩
theorem HOk.lt (x:HOk P w H h) (e:H a=some o):a<h.objs.size:=(x a o e).lt
theorem HOk.fresh (x:HOk P w H h) (e:h.objs.size<=a):H a=none:=by
 cases q:H a with
 | none=>rfl
 | some u=>exact absurd (Nat.lt_of_lt_of_le (x.lt q) e) (Nat.lt_irrefl _)
theorem HOk.kept (x:HOk P w H h) (k:∀b u,h.get? b=some u->h'.get? b=some u):HOk P w H h':=fun a o e=>
 (x a o e).stay (fun b u _ q=>k b u q) (fun _ q=>q) fun _ _ q=>q
theorem HOk.laid (x:HOk P w H h) (k:∀b u,h.get? b=some u->h'.get? b=some u) (hp:h.objs.size<=a) (new:fD P w (upd H a o) h' a o):HOk P w (upd H a o) h':=fun b u e=>by
 have hn:=x.fresh hp;by_cases hb:b=a
 ·subst hb;rw [aG] at e;cases e;exact new
 ·rw [aR hb] at e;exact (x b u e).stay (fun c v _ q=>k c v q) (fun c q=>by rw [aR (bI q hn)];exact q) fun c xs q=>by rw [aR (bI q hn)];exact q
end
def Rd (H:Hp) (a:Addr) (u:HO):Prop:=H a=some u\/∃o,H a=some (.frz o u)
theorem Rd.ok {P:Program} {w:World} {H:Hp} {h:Heap} {a:Addr} {u:HO} (r:Rd H a u) (x:HOk P w H h):fD P w H h a u:=by
 rcases r with r|⟨o,r⟩
 ·exact x a u r
 ·obtain ⟨_,q⟩:=x a _ r;exact q
def Mut:Option HO->Prop
 | some (.lst _)=>True
 | some (.dK _)=>True
 | some (.dT _)=>True
 | some (.set _ _)=>True
 | some (.ins _ _ _)=>True
 | some (.ext _)=>True
 | _=>False
section
variable {P:Program} {w:World} {H:Hp} {h h':Heap} {x e:Addr} {o':HO}
theorem HOk.write (ok:HOk P w H h) (mu:Mut (H x)) (he:e=x\/H e=some (.own x)) (k:∀b u,b≠e->h.get? b=some u->h'.get? b=some u) (heo:∃u,h'.get? e=some u)
  (new:fD P w (upd H x o') h' x o'):HOk P w (upd H x o') h':=fun b u q=>by
 have nown:∀c y,H c=some (.own y)->c≠x:=fun c y r z=>by subst z;rw [r] at mu;exact mu
 have ntup:∀c xs,H c=some (.tup xs)->c≠x:=fun c xs r z=>by subst z;rw [r] at mu;exact mu
 by_cases hb:b=x
 ·subst hb;rw [aG] at q;cases q;exact new
 ·rw [aR hb] at q;by_cases hbe:b=e
  ·have q':H b=some (.own x):=by
    rcases he with z|z
    ·exact absurd (hbe.trans z) hb
    ·rw [hbe];exact z
   rw [q] at q';cases q';obtain ⟨v,hv⟩:=heo;exact ⟨v,by rw [hbe];exact hv⟩
  ·refine (ok b u q).stay (fun c v hc r=>k c v ?_ r) (fun c r=>by rw [aR (nown c b r)];exact r) fun c xs r=>by rw [aR (ntup c xs r)];exact r
   rcases hc with rfl|hc
   ·exact hbe
   ·rintro rfl;rcases he with z|z
    ·exact nown c b hc z
    ·rw [hc] at z;cases z;exact hb rfl
end
structure Un (fs ex:List Addr) (H H':Hp) (h h':Heap):Prop where
 keep:∀b o,h.get? b=some o->H b=none->b∉fs->b∉ex->h'.get? b=some o
 slot:∀b o,h.get? b=some o->H b=none->b∈fs->b∉ex->∃sl,h'.get? b=some {o with slots:=sl}
 free:∀b o,h.get? b=some o->H b=none->b∉ex->H' b=none
 there:∀b o,h.get? b=some o->b∉ex->∃o',h'.get? b=some o'
 tups:∀b xs,H b=some (.tup xs)->H' b=some (.tup xs)
 frzs:∀b o u,H b=some (.frz o u)->H' b=some (.frz o u)
 tbls:∀b ps,H b=some (.tbl ps)->∃more,H' b=some (.tbl (ps++more))
section
variable {fs ex:List Addr} {H H1:Hp} {h h1 h':Heap} {a x e:Addr} {o:HO}
theorem Un.any (u:Un fs ex H H1 h h1) {b:Addr} {ob:Obj} (q:h.get? b=some ob) (n:H b=none) (hx:b∉ex):∃sl,h1.get? b=some {ob with slots:=sl}:=by
 by_cases hb:b∈fs
 ·exact u.slot b ob q n hb hx
 ·exact ⟨ob.slots,u.keep b ob q n hb hx⟩
theorem Un.kept (k:∀b u,h.get? b=some u->h'.get? b=some u):Un fs ex H H h h':=
 ⟨fun b ob q _ _ _=>k b ob q,fun b ob q _ _ _=>⟨ob.slots,k b ob q⟩,fun _ _ _ n _=>n,fun b ob q _=>⟨ob,k b ob q⟩,fun _ _ q=>q,fun _ _ _ q=>q,fun _ ps q=>⟨#[],by rw [q];simp⟩⟩
theorem Un.refl:Un fs ex H H h h:=Un.kept fun _ _ q=>q
theorem Un.laid (k:∀b u,h.get? b=some u->h'.get? b=some u) (hp:h.objs.size<=a) (hn:H a=none):Un fs ex H (upd H a o) h h' where
 keep:=fun b u q _ _ _=>k b u q
 slot:=fun b u q _ _ _=>⟨u.slots,k b u q⟩
 free:=fun b u q n _=>by rw [aR (Nat.ne_of_lt (Nat.lt_of_lt_of_le (Heap.lt_size q) hp))];exact n
 there:=fun b u q _=>⟨u,k b u q⟩
 tups:=fun b xs q=>by rw [aR (bI q hn)];exact q
 frzs:=fun b u xs q=>by rw [aR (bI q hn)];exact q
 tbls:=fun b ps q=>⟨#[],by rw [aR (bI q hn),q];simp⟩
theorem Un.write (mu:Mut (H x)) (he:e=x\/H e=some (.own x)) (k:∀b u,b≠e->h.get? b=some u->h'.get? b=some u) (heo:∃u,h'.get? e=some u):Un fs ex H (upd H x o) h h':=by
 have hx:∀b,H b=none->b≠x:=fun b n z=>by subst z;rw [n] at mu;exact mu
 have hb:∀b,H b=none->b≠e:=fun b n z=>by
  subst z;rcases he with r|r
  ·exact hx b n r
  ·rw [n] at r;cases r
 have hm:∀b u,H b=some u->¬Mut (some u)->b≠x:=fun b u q nm z=>by subst z;rw [q] at mu;exact nm mu
 refine ⟨fun b u q n _ _=>k b u (hb b n) q,fun b u q n _ _=>⟨u.slots,k b u (hb b n) q⟩,fun b u q n _=>by rw [aR (hx b n)];exact n,fun b u q _=>?_,
  fun b xs q=>by rw [aR (hm b _ q fun z=>z)];exact q,fun b u xs q=>by rw [aR (hm b _ q fun z=>z)];exact q,fun b ps q=>⟨#[],by rw [aR (hm b _ q fun z=>z),q];simp⟩⟩
 by_cases hbe:b=e
 ·subst hbe;exact heo
 ·exact ⟨u,k b u hbe q⟩
end
noncomputable def trk (h:Heap) (H:Hp):List Addr:=(List.range h.objs.size).filter fun a=>(H a).isSome
def aAd (h:Heap) (H:Hp):Heap:=PySem.W.hideAll h (trk h H)
theorem WK (h:Heap) (H:Hp):(aAd h H).objs.size=h.objs.size:=PySem.W.hideAll_size _ _
theorem aAe {h:Heap} {H:Hp} {b:Addr} {o:Obj} (e:h.get? b=some o) (n:H b=none):(aAd h H).get? b=some o:=
 PySem.W.hideAll_get _ e fun hm=>by
  have q:(H b).isSome=true:=(List.mem_filter.mp hm).2;rw [n] at q;simp at q
theorem aDt {h:Heap} {H:Hp} {b:Addr} {o:Obj} (e:(aAd h H).get? b=some o):h.get? b=some o/\H b=none:=by
 have e':h.get? b=some o:=PySem.W.of_hideAll (trk h H) e;refine ⟨e',?_⟩;cases q:H b with
 | none=>rfl
 | some x=>
  have hm:b∈trk h H:=List.mem_filter.mpr ⟨List.mem_range.mpr (Heap.lt_size e'),by simp [q]⟩;have z:(aAd h H).get? b=none:=PySem.W.hideAll_none (trk h H) hm;rw [z] at e;cases e
structure Mod (K:PySem.W.Frag) (mg:Str->Option Value) (base:Heap):Prop where
 kin:K.In base
 glob:base.Ns mainGlobals mg
 blt:∃mb,base.Ns builtinsNs mb/\∀x:Str,x ≠ "__name__"->mb x=bootBuiltins x
 nolimit:base.NoLimit
/-- the context: a def's body (or a comprehension's block) running. base: fixed through the whole law; s₀, H₀: the entry; outer: the frames whose slots others may change (a def's callers); stack: all frames that run;
   ex: iterators that were made ahead of the entry and are walked here (a comprehension's); fn: the names whose cells were made at the entry (a def: all; a comprehension's block: its own); calm: not within an except suite; pn: pins that every state bears; xe: what is wanted of an exception that leaves the code -/
structure Cx where
 prog:Program
 w:World
 K:PySem.W.Frag
 mg:Str->Option Value
 base:Heap
 A:Around
 N:List Str
 s₀:Shared
 H₀:Hp
 env:Env
 outer:List Env
 stack:List Env
 ex:List Addr
 fn:Str->Bool
 calm:Bool
 pn:List (Addr×Obj)
 xe:Value->Shared->Prop
noncomputable def frs (l:List Env):List Addr:=l.filterMap (·.frame)
abbrev Cx.fs (X:Cx):List Addr:=frs X.outer
def Vis (sc:Scope) (x:Str):Prop:=sc.names.lookup x=some .local\/sc.names.lookup x=some .cell\/sc.names.lookup x=some .free
def Loc (sc:Scope) (x:Str):Prop:=sc.names.lookup x=some .local\/sc.names.lookup x=some .cell
def Look (env:Env) (h:Heap) (m:Str->Option Value) (x:Str) (u:Value):Prop:=
 (env.kindOf x=some .local/\m x=some u)\/((env.kindOf x=some .cell\/env.kindOf x=some .free)/\∃c,env.cells.lookup x=some c/\h.IsCell c (some u))
structure Cx.Ok (X:Cx):Prop where
 mod:Mod X.K X.mg X.base
 kind:X.env.scope.kind=.function
 glob:X.env.globals=mainGlobals
 blt:X.env.builtins=builtinsNs
 above:X.s₀.heap.objs.size<=X.env.locals
 inj:∀x y c,X.env.cells.lookup x=some c->X.env.cells.lookup y=some c->x=y
 has:∀x,(X.env.kindOf x=some .cell\/X.env.kindOf x=some .free)->∃c,X.env.cells.lookup x=some c
 cab:∀x c,X.fn x=true->X.env.cells.lookup x=some c->X.s₀.heap.objs.size<=c
 hd:X.calm=true->X.A.handled=none
 frames:X.A.frames=some X.stack
 stk:X.stack=X.outer\/(X.stack=X.env::X.outer/\X.env.frame=some X.env.locals)
 exf:∀b∈X.ex,b≠X.env.locals/\∀x c,X.env.cells.lookup x=some c->c≠b
 bs:∀b o,X.base.get? b=some o->X.s₀.heap.get? b=some o/\X.H₀ b=none
 bsz:X.base.objs.size<=X.s₀.heap.objs.size
 noex:∀b o,X.base.get? b=some o->b∉X.ex
 exfs:∀b∈X.ex,b∉X.fs
 T3:X.s₀.heap.FunFrames X.base X.outer
 frf:∀b∈X.fs,X.H₀ b=none
structure Inv (X:Cx) (pins:List (Addr×Obj)) (σ:List (Option V)) (H:Hp) (s:Shared):Prop where
 ok:X.Ok
 os:s.os=X.s₀.os
 bare:AllBare s.gens
 base:Un X.fs X.ex X.H₀ H X.s₀.heap s.heap
 loc:∃m,s.heap.Ns X.env.locals m/\∀(i:Nat) (x:Str) (v:V),X.N[i]?=some x->σ[i]?=some (some v)->Vis X.env.scope x->∃u,RelV v u/\Look X.env s.heap m x u
 cell:∀x c,X.env.cells.lookup x=some c->∃v,s.heap.IsCell c v
 free:H X.env.locals=none
 freeC:∀x c,X.env.cells.lookup x=some c->H c=none
 pin:∀p∈X.pn++pins,s.heap.get? p.1=some p.2/\H p.1=none/\p.1≠X.env.locals/\p.1∉X.fs/\∀v,p.2.data≠.cell v
 hok:HOk X.prog X.w H s.heap
 len:σ.length=X.N.length
section
variable {X:Cx} {pins:List (Addr×Obj)} {σ:List (Option V)} {H H':Hp} {s:Shared} {h':Heap}
theorem Cx.Ok.aMh (ok:X.Ok) {b:Addr} {o:Obj} (e:X.base.get? b=some o):b∉X.fs:=fun hb=>by
 have:=(ok.T3.mem hb).1;rw [e] at this;cases this
theorem Inv.bs (I:Inv X pins σ H s):∀b o,X.base.get? b=some o->s.heap.get? b=some o/\H b=none:=fun b o e=>
 ⟨I.base.keep b o (I.ok.bs b o e).1 (I.ok.bs b o e).2 (I.ok.aMh e) (I.ok.noex b o e),I.base.free b o (I.ok.bs b o e).1 (I.ok.bs b o e).2 (I.ok.noex b o e)⟩
theorem Inv.bk (I:Inv X pins σ H s):∀b o,X.base.get? b=some o->s.heap.get? b=some o:=fun b o e=>(I.bs b o e).1
theorem Inv.mod (I:Inv X pins σ H s):Mod X.K X.mg X.base:=I.ok.mod
theorem Inv.kIn (I:Inv X pins σ H s):X.K.In s.heap:=I.ok.mod.kin.keeps I.bk
theorem Inv.lt (I:Inv X pins σ H s):X.env.locals<s.heap.objs.size:=let ⟨_,hn,_⟩:=I.loc;hn.lt
theorem Inv.sz (I:Inv X pins σ H s):X.s₀.heap.objs.size<=s.heap.objs.size:=Nat.le_trans I.ok.above (Nat.le_of_lt I.lt)
theorem Inv.aM0 (I:Inv X pins σ H s) {a:Addr} (h:s.heap.objs.size<=a):a∉X.fs:=fun hb=>by
 obtain ⟨_,o,ho,_⟩:=I.ok.T3.mem hb;exact absurd (Nat.lt_of_lt_of_le (Heap.lt_size ho) (Nat.le_trans I.sz h)) (Nat.lt_irrefl _)
theorem Inv.cne (I:Inv X pins σ H s):∀x c,X.env.cells.lookup x=some c->c≠X.env.locals:=fun x c e z=>by
 obtain ⟨v,o,ho,hd⟩:=I.cell x c e;obtain ⟨m,⟨o',es,ep,ho',hd',_⟩,_⟩:=I.loc;rw [z,ho'] at ho;cases ho;rw [hd'] at hd;cases hd
theorem Inv.T3 (I:Inv X pins σ H s):s.heap.FunFrames X.base X.outer:=by
 have all:∀(l:List Env),(∀b∈frs l,b∈X.fs)->X.s₀.heap.FunFrames X.base l->s.heap.FunFrames X.base l:=by
  intro l;induction l with
  | nil=>intro _ _;trivial
  | cons env r ih=>
   intro hs hl;obtain ⟨hk,⟨L,o,hf,hn,ho,hd⟩,hr⟩:=hl;have hL:L∈X.fs:=hs L (by unfold frs;rw [List.filterMap_cons,hf];exact List.mem_cons_self);obtain ⟨sl,e⟩:=I.base.slot L o ho (I.ok.frf L hL) hL fun z=>I.ok.exfs L z hL
   exact ⟨hk,⟨L,_,hf,hn,e,hd⟩,ih (fun b hb=>hs b (by unfold frs;rw [List.filterMap_cons,hf];exact List.mem_cons_of_mem _ hb)) hr⟩
 exact all X.outer (fun _ hb=>hb) I.ok.T3
theorem Inv.stack (I:Inv X pins σ H s):s.heap.FunFrames X.base X.stack:=by
 rcases I.ok.stk with e|⟨e,hf⟩
 ·rw [e];exact I.T3
 ·rw [e];obtain ⟨m,hn,_⟩:=I.loc;refine .cons (by rw [I.ok.kind];decide) hf hn ?_ I.T3;exact Heap.get?_none_of_le (Nat.le_trans I.ok.bsz I.ok.above)
theorem Inv.QL (I:Inv X pins σ H s):∀b∈frs X.stack,b∈X.env.locals::X.fs:=fun b hb=>by
 rcases I.ok.stk with e|⟨e,hf⟩
 ·rw [e] at hb;exact List.mem_cons_of_mem _ hb
 ·rw [e] at hb;unfold frs at hb;rw [List.filterMap_cons,hf] at hb;exact hb
theorem Inv.M7 (I:Inv X pins σ H s):∀b∈frs X.stack,H b=none:=fun b hb=>by
 rcases List.mem_cons.mp (I.QL b hb) with e|hb
 ·rw [e];exact I.free
 ·obtain ⟨_,o,ho,_⟩:=I.ok.T3.mem hb;exact I.base.free b o ho (I.ok.frf b hb) fun z=>I.ok.exfs b z hb
theorem Inv.step {g':Array GenState} {t':Nat} {d':Drawn} {ch:List Addr} (I:Inv X pins σ H s)
  (hch:∀b∈ch,(b∈X.ex\/X.s₀.heap.objs.size<=b)/\b≠X.env.locals/\(∀x c,X.env.cells.lookup x=some c->c≠b)/\∀p∈X.pn++pins,p.1≠b)
  (keep:∀b o,b≠X.env.locals->b∉X.fs->b∉ch->s.heap.get? b=some o->H b=none->h'.get? b=some o)
  (slot:∀b o,b≠X.env.locals->b∈X.fs->b∉ch->s.heap.get? b=some o->H b=none->∃sl,h'.get? b=some {o with slots:=sl}) (free:∀b o,b∉ch->s.heap.get? b=some o->H b=none->H' b=none)
  (there:∀b o,b∉ch->s.heap.get? b=some o->∃o',h'.get? b=some o')
  (tups:∀b xs,H b=some (.tup xs)->H' b=some (.tup xs)) (frzs:∀b o u,H b=some (.frz o u)->H' b=some (.frz o u)) (tbls:∀b ps,H b=some (.tbl ps)->∃more,H' b=some (.tbl (ps++more)))
  (ns:∀m,s.heap.Ns X.env.locals m->h'.Ns X.env.locals m) (hok:HOk X.prog X.w H' h') (hg:AllBare g') :
  Inv X pins σ H' {s with heap:=h',gens:=g',drawn:=d',toks:=t'}:=by
 have neL:∀b o,X.s₀.heap.get? b=some o->b≠X.env.locals:=fun b o e=>Nat.ne_of_lt (Nat.lt_of_lt_of_le (Heap.lt_size e) I.ok.above)
 have neC:∀b o,X.s₀.heap.get? b=some o->b∉X.ex->b∉ch:=fun b o e hx hb=>by
  rcases (hch b hb).1 with z|z
  ·exact hx z
  ·exact absurd (Nat.lt_of_lt_of_le (Heap.lt_size e) z) (Nat.lt_irrefl _)
 have cellK:∀x c,X.env.cells.lookup x=some c->∀v,s.heap.IsCell c v->h'.IsCell c v:=fun x c e v ⟨o,ho,hd⟩=>by
  have nch:c∉ch:=fun z=>(hch c z).2.2.1 x c e rfl
  by_cases hc:c∈X.fs
  ·obtain ⟨sl,q⟩:=slot c o (I.cne x c e) hc nch ho (I.freeC x c e);exact ⟨_,q,hd⟩
  ·exact ⟨o,keep c o (I.cne x c e) hc nch ho (I.freeC x c e),hd⟩
 refine ⟨I.ok,I.os,hg,⟨fun b o e n hb hx=>?_,fun b o e n hb hx=>?_,fun b o e n hx=>?_,fun b o e hx=>?_,fun b xs e=>tups b xs (I.base.tups b xs e),fun b o xs e=>frzs b o xs (I.base.frzs b o xs e),fun b ps e=>?_⟩,?_,fun x c e=>?_,?_,fun x c e=>?_,fun p hp=>?_,hok,I.len⟩
 ·exact keep b o (neL b o e) hb (neC b o e hx) (I.base.keep b o e n hb hx) (I.base.free b o e n hx)
 ·obtain ⟨sl,e1⟩:=I.base.slot b o e n hb hx;obtain ⟨sl',e2⟩:=slot b _ (neL b o e) hb (neC b o e hx) e1 (I.base.free b o e n hx);exact ⟨sl',e2⟩
 ·obtain ⟨o',e1⟩:=I.base.there b o e hx;exact free b o' (neC b o e hx) e1 (I.base.free b o e n hx)
 ·obtain ⟨o',e1⟩:=I.base.there b o e hx;exact there b o' (neC b o e hx) e1
 ·obtain ⟨m1,e1⟩:=I.base.tbls b ps e;obtain ⟨m2,e2⟩:=tbls b _ e1;exact ⟨m1++m2,by rw [e2,Array.append_assoc]⟩
 ·obtain ⟨m,hn,hl⟩:=I.loc;refine ⟨m,ns m hn,fun i x v e1 e2 e3=>?_⟩;obtain ⟨u,r,l⟩:=hl i x v e1 e2 e3;refine ⟨u,r,?_⟩;rcases l with l|⟨k,c,e,z⟩
  ·exact .inl l
  ·exact .inr ⟨k,c,e,cellK x c e _ z⟩
 ·obtain ⟨v,z⟩:=I.cell x c e;exact ⟨v,cellK x c e v z⟩
 ·obtain ⟨m,⟨o,_,_,ho,_⟩,_⟩:=I.loc;exact free _ o (fun z=>(hch _ z).2.1 rfl) ho I.free
 ·obtain ⟨v,o,ho,hd⟩:=I.cell x c e;exact free c o (fun z=>(hch c z).2.2.1 x c e rfl) ho (I.freeC x c e)
 ·obtain ⟨e,n,ne,nf,d⟩:=I.pin p hp;have nch:p.1∉ch:=fun z=>(hch p.1 z).2.2.2 p hp rfl
  exact ⟨keep p.1 p.2 ne nf nch e n,free p.1 p.2 nch e n,ne,nf,d⟩
theorem Inv.un {t':Nat} (I:Inv X pins σ H s) (u:Un X.fs [] H H' s.heap h') (hok:HOk X.prog X.w H' h'):Inv X pins σ H' {s with heap:=h',toks:=t'}:=by
 obtain ⟨m,⟨o,es,ep,ho,r⟩,_⟩:=id I.loc;obtain ⟨sl,hL⟩:=u.any ho I.free (by simp);exact I.step (g':=s.gens) (d':=s.drawn) (ch:=[]) (fun _ z=>nomatch z) (fun b o _ hb _ e n=>u.keep b o e n hb (by simp)) (fun b o _ hb _ e n=>u.slot b o e n hb (by simp)) (fun b o _ e n=>u.free b o e n (by simp)) (fun b o _ e=>u.there b o e (by simp)) u.tups u.frzs u.tbls (fun m' hm=>by
  obtain ⟨o',es',ep',ho',r'⟩:=hm;rw [ho] at ho';cases ho';exact ⟨_,es',ep',hL,r'⟩) hok I.bare
theorem Inv.call {g':Array GenState} {t':Nat} {d':Drawn} {ch:List Addr} (I:Inv X pins σ H s) (u:Un (frs X.stack) ch H H' s.heap h') (hok:HOk X.prog X.w H' h') (hg:AllBare g')
  (hch:∀b∈ch,(b∈X.ex\/X.s₀.heap.objs.size<=b)/\b≠X.env.locals/\(∀x c,X.env.cells.lookup x=some c->c≠b)/\∀p∈X.pn++pins,p.1≠b) :
  Inv X pins σ H' {s with heap:=h',gens:=g',drawn:=d',toks:=t'}:=by
 obtain ⟨m,⟨o,es,ep,ho,r⟩,_⟩:=id I.loc;obtain ⟨sl,hL⟩:=u.any ho I.free fun z=>(hch _ z).2.1 rfl
 exact I.step (ch:=ch) hch (fun b o hL hb hc e n=>u.keep b o e n (fun z=>(List.mem_cons.mp (I.QL b z)).elim hL hb) hc) (fun b o _ _ hc e n=>u.any e n hc) (fun b o hc e n=>u.free b o e n hc) (fun b o hc e=>u.there b o e hc) u.tups u.frzs u.tbls (fun m' hm=>by
  obtain ⟨o',es',ep',ho',r'⟩:=hm;rw [ho] at ho';cases ho';exact ⟨_,es',ep',hL,r'⟩) hok hg
theorem Inv.turned {t':Nat} {it:Addr} (I:Inv X pins σ H s) (k:∀b o,b≠it->s.heap.get? b=some o->h'.get? b=some o) (hn:H it=none) (hL:it≠X.env.locals)
  (h1:it∈X.ex\/X.s₀.heap.objs.size<=it) (h2:∀x c,X.env.cells.lookup x=some c->c≠it) (h3:∀p∈X.pn++pins,p.1≠it):Inv X pins σ H {s with heap:=h',toks:=t'}:=by
 have nit:∀b u,H b=some u->b≠it:=fun b u e z=>by rw [z,hn] at e;cases e
 refine I.step (g':=s.gens) (d':=s.drawn) (ch:=[it]) (fun b hb=>?_) (fun b o _ _ hc e _=>k b o (fun z=>hc (by simp [z])) e) (fun b o _ _ hc e _=>⟨o.slots,k b o (fun z=>hc (by simp [z])) e⟩) (fun _ _ _ _ n=>n)
  (fun b o hc e=>⟨o,k b o (fun z=>hc (by simp [z])) e⟩) (fun _ _ e=>e) (fun _ _ _ e=>e) (fun b ps e=>⟨#[],by rw [e];simp⟩) (fun m hm=>?_) (fun b u e=>?_) I.bare
 ·have e:b=it:=by simpa using hb
  subst e;exact ⟨h1,hL,h2,h3⟩
 ·obtain ⟨o,es,ep,ho,r⟩:=hm;exact ⟨o,es,ep,k _ o (Ne.symm hL) ho,r⟩
 ·refine (I.hok b u e).stay (fun c v hc q=>k c v ?_ q) (fun _ q=>q) fun _ _ q=>q
  rcases hc with z|z
  ·rw [z];exact nit b u e
  ·exact nit c _ z
theorem Inv.tok (I:Inv X pins σ H s) (t:Nat):Inv X pins σ H {s with toks:=t}:=I.un (h':=s.heap) (t':=t) Un.refl I.hok
theorem Inv.kept {t':Nat} (I:Inv X pins σ H s) (k:∀b u,s.heap.get? b=some u->h'.get? b=some u):Inv X pins σ H {s with heap:=h',toks:=t'}:=I.un (Un.kept k) (I.hok.kept k)
theorem Inv.laid {a:Addr} {o:HO} {t':Nat} (I:Inv X pins σ H s) (k:∀b u,s.heap.get? b=some u->h'.get? b=some u) (hp:s.heap.objs.size<=a) (new:fD X.prog X.w (upd H a o) h' a o) :
  Inv X pins σ (upd H a o) {s with heap:=h',toks:=t'}:=I.un (Un.laid k hp (I.hok.fresh hp)) (I.hok.laid k hp new)
theorem Inv.write {x e:Addr} {o:HO} {t':Nat} (I:Inv X pins σ H s) (mu:Mut (H x)) (he:e=x\/H e=some (.own x)) (k:∀b u,b≠e->s.heap.get? b=some u->h'.get? b=some u) (heo:∃u,h'.get? e=some u)
  (new:fD X.prog X.w (upd H x o) h' x o):Inv X pins σ (upd H x o) {s with heap:=h',toks:=t'}:=I.un (Un.write mu he k heo) (I.hok.write mu he k heo new)
theorem Inv.weak {σ':List (Option V)} (I:Inv X pins σ H s) (hl:σ'.length=σ.length) (w:∀(i:Nat) v,σ'[i]?=some (some v)->σ[i]?=some (some v)):Inv X pins σ' H s:=
 ⟨I.ok,I.os,I.bare,I.base,let ⟨m,hn,hl'⟩:=I.loc;⟨m,hn,fun i x v e1 e2 e3=>hl' i x v e1 (w i v e2) e3⟩,I.cell,I.free,I.freeC,I.pin,I.hok,hl.trans I.len⟩
theorem Inv.M8 {pins':List (Addr×Obj)} (I:Inv X pins σ H s) (h:∀p∈pins',s.heap.get? p.1=some p.2/\H p.1=none/\p.1≠X.env.locals/\p.1∉X.fs/\∀v,p.2.data≠.cell v):Inv X pins' σ H s:=
 ⟨I.ok,I.os,I.bare,I.base,I.loc,I.cell,I.free,I.freeC,fun p hp=>(List.mem_append.mp hp).elim (fun z=>I.pin p (List.mem_append_left _ z)) (h p),I.hok,I.len⟩
theorem C_ {N:List Str} (hN:N.Nodup) {i j:Nat} {x:Str} (a:N[i]?=some x) (b:N[j]?=some x):i=j:=by
 obtain ⟨h1,e1⟩:=List.getElem?_eq_some_iff.mp a;obtain ⟨h2,e2⟩:=List.getElem?_eq_some_iff.mp b;exact (List.getElem_inj hN).mp (e1.trans e2.symm)
theorem HX {M:Model} {A:Around} {E:Value->Shared->Prop} {i:Nat} {x:Str} {v:V} {u:Value} {Q:Unit->Shared->Prop} (I:Inv X pins σ H s) (hN:X.N.Nodup) (hi:X.N[i]?=some x) (hx:Loc X.env.scope x) (r:RelV v u)
  (h:∀s',Inv X pins (σ.set i (some v)) H s'->(∃a,Heap.SameBut a s.heap s'.heap/\(a=X.env.locals\/X.env.cells.lookup x=some a))->Q () s') (hf:X.fn x=true\/X.env.scope.names.lookup x=some .local:=by first|exact .inl rfl|exact .inr rfl|assumption):wpAny M A (storeName X.env x u) Q E s:=by
 obtain ⟨m,hn,hl⟩:=id I.loc;have hcls:(X.env.scope.kind==.class||(X.env.scope.kind==.module&&X.env.locals != X.env.globals))=false:=by rw [I.ok.kind];rfl
 have hiσ:i<σ.length:=by rw [I.len];exact (List.getElem?_eq_some_iff.mp hi).1
 have cne:=I.cne;have tracked:∀{a:Addr} {h':Heap},(∃o,s.heap.get? a=some o/\H a=none)->Heap.SameBut a s.heap h'->HOk X.prog X.w H h':=fun {a h'} ha hs b ob e=>by
  obtain ⟨_,_,hfree⟩:=ha;refine (I.hok b ob e).stay (fun c w' hc q=>(hs.2 c ?_).trans q) (fun _ q=>q) fun _ _ q=>q
  rintro rfl;rcases hc with rfl|hc
  ·rw [hfree] at e;cases e
  ·rw [hfree] at hc;cases hc
 rcases hx with hk|hk
 ·refine wpAny_storeName_local hk hn (fun h' hn' hs=>?_) hcls;obtain ⟨oL,_,_,hoL,_⟩:=id hn;refine h _ ⟨I.ok,I.os,I.bare,⟨fun b o e n hb hx=>?_,fun b o e n hb hx=>?_,I.base.free,fun b o e hx=>?_,I.base.tups,I.base.frzs,I.base.tbls⟩,⟨_,hn',fun j y v' e1 e2 e3=>?_⟩,fun y c e=>?_,I.free,I.freeC,fun p hp=>?_,tracked ⟨oL,hoL,I.free⟩ hs,by simpa using I.len⟩ ⟨_,hs,.inl rfl⟩
  ·exact (hs.2 b (Nat.ne_of_lt (Nat.lt_of_lt_of_le (Heap.lt_size e) I.ok.above))).trans (I.base.keep b o e n hb hx)
  ·obtain ⟨sl,e1⟩:=I.base.slot b o e n hb hx;exact ⟨sl,(hs.2 b (Nat.ne_of_lt (Nat.lt_of_lt_of_le (Heap.lt_size e) I.ok.above))).trans e1⟩
  ·obtain ⟨o',e1⟩:=I.base.there b o e hx;exact ⟨o',(hs.2 b (Nat.ne_of_lt (Nat.lt_of_lt_of_le (Heap.lt_size e) I.ok.above))).trans e1⟩
  ·by_cases hj:j=i
   ·subst hj;rw [hi] at e1;cases e1;rw [List.getElem?_set_self hiσ] at e2;cases e2;exact ⟨u,r,.inl ⟨hk,by simp⟩⟩
   ·rw [List.getElem?_set_ne (Ne.symm hj)] at e2;obtain ⟨u',r',q⟩:=hl j y v' e1 e2 e3;refine ⟨u',r',?_⟩;rcases q with ⟨k,e⟩|⟨k,c,e,z⟩
    ·refine .inl ⟨k,?_⟩;have:y≠x:=fun e=>hj (C_ hN e1 (e▸hi))
     simp [this,e]
    ·exact .inr ⟨k,c,e,z.sameBut hs (cne y c e)⟩
  ·obtain ⟨w',z⟩:=I.cell y c e;exact ⟨w',z.sameBut hs (cne y c e)⟩
  ·obtain ⟨e,n,ne,nf,d⟩:=I.pin p hp;exact ⟨(hs.2 p.1 ne).trans e,n,ne,nf,d⟩
 ·have hfn:X.fn x=true:=by
   rcases hf with z|z
   ·exact z
   ·rw [z] at hk;cases hk
  obtain ⟨c,hc⟩:=I.ok.has x (.inl hk);obtain ⟨w',z⟩:=I.cell x c hc;refine wpAny_storeName_cell I.ok.kind hk hc z (fun h' hc' hs=>?_);obtain ⟨oc,hoc,hocd⟩:=id z;refine h {s with heap:=h'} ⟨I.ok,I.os,I.bare,⟨fun b o e n hb hx=>?_,fun b o e n hb hx=>?_,I.base.free,fun b o e hx=>?_,I.base.tups,I.base.frzs,I.base.tbls⟩,⟨m,hn.sameBut hs (Ne.symm (cne x c hc)),fun j y v' e1 e2 e3=>?_⟩,fun y c' e=>?_,I.free,I.freeC,fun p hp=>?_,tracked ⟨oc,hoc,I.freeC x c hc⟩ hs,by simpa using I.len⟩ ⟨c,hs,.inr hc⟩
  ·exact (hs.2 b (Nat.ne_of_lt (Nat.lt_of_lt_of_le (Heap.lt_size e) (I.ok.cab x c hfn hc)))).trans (I.base.keep b o e n hb hx)
  ·obtain ⟨sl,e1⟩:=I.base.slot b o e n hb hx;exact ⟨sl,(hs.2 b (Nat.ne_of_lt (Nat.lt_of_lt_of_le (Heap.lt_size e) (I.ok.cab x c hfn hc)))).trans e1⟩
  ·obtain ⟨o',e1⟩:=I.base.there b o e hx;exact ⟨o',(hs.2 b (Nat.ne_of_lt (Nat.lt_of_lt_of_le (Heap.lt_size e) (I.ok.cab x c hfn hc)))).trans e1⟩
  ·by_cases hj:j=i
   ·subst hj;rw [hi] at e1;cases e1;rw [List.getElem?_set_self hiσ] at e2;cases e2;exact ⟨u,r,.inr ⟨.inl hk,c,hc,hc'⟩⟩
   ·rw [List.getElem?_set_ne (Ne.symm hj)] at e2;obtain ⟨u',r',q⟩:=hl j y v' e1 e2 e3;refine ⟨u',r',?_⟩;rcases q with q|⟨k,c',e,z'⟩
    ·exact .inl q
    ·refine .inr ⟨k,c',e,z'.sameBut hs ?_⟩;rintro rfl;exact hj (C_ hN e1 (I.ok.inj _ _ _ e hc▸hi))
  ·by_cases hcc:c'=c
   ·subst hcc;exact ⟨_,hc'⟩
   ·obtain ⟨w2,z2⟩:=I.cell y c' e;exact ⟨w2,z2.sameBut hs hcc⟩
  ·obtain ⟨e,n,ne,nf,d⟩:=I.pin p hp;refine ⟨(hs.2 p.1 ?_).trans e,n,ne,nf,d⟩;intro q;rw [q,hoc] at e;have q':oc=p.2:=Option.some.inj e;exact d w' (by rw [<-q'];exact hocd)
theorem QM {M:Model} {A:Around} {E:Value->Shared->Prop} {i:Nat} {x:Str} {v:V} {u:Value} {Q:Unit->Shared->Prop} (I:Inv X pins σ H s) (hN:X.N.Nodup) (hi:X.N[i]?=some x) (hx:Loc X.env.scope x) (r:RelV v u)
  (h:∀s',Inv X pins (σ.set i (some v)) H s'->Q () s') (hf:X.fn x=true\/X.env.scope.names.lookup x=some .local:=by first|exact .inl rfl|exact .inr rfl|assumption):wpAny M A (storeName X.env x u) Q E s:=
 HX I hN hi hx r (fun s' I' _=>h s' I') hf
theorem Inv.call' {s':Shared} {ch:List Addr} (I:Inv X pins σ H s) (ho:s'.os=s.os) (u:Un (frs X.stack) ch H H' s.heap s'.heap) (hok:HOk X.prog X.w H' s'.heap) (hg:AllBare s'.gens)
  (hch:∀b∈ch,(b∈X.ex\/X.s₀.heap.objs.size<=b)/\b≠X.env.locals/\(∀x c,X.env.cells.lookup x=some c->c≠b)/\∀p∈X.pn++pins,p.1≠b):Inv X pins σ H' s':=by
 obtain ⟨h',g',d',t',o'⟩:=s';have e:o'=s.os:=ho;subst e;exact I.call (g':=g') (t':=t') (d':=d') u hok hg hch
end
abbrev XK:=Value->Option Addr->Hp->Prop
noncomputable abbrev St:=List (Option V)
abbrev VK:=V->Hp->Prop
abbrev TE:=St->Hp->VK->Prop
abbrev TT:=St->Hp->(Bool->Hp->Prop)->Prop
abbrev TA:=St->Hp->(List V->Hp->Prop)->Prop
structure Ends where
 nx:St->Hp->Prop
 rt:VK
 bk:St->Hp->Prop:=fun _ _=>False
 ct:St->Hp->Prop:=fun _ _=>False
abbrev TS:=Ends->St->Hp->Prop
def EP (X:Cx) (pins:List (Addr×Obj)) (σ:St) (Q:VK) (u:Value) (s':Shared):Prop:=∃v H',Inv X pins σ H' s'/\RelV v u/\Q v H'
def TP (X:Cx) (pins:List (Addr×Obj)) (σ:St) (Q:Bool->Hp->Prop) (b:Bool) (s':Shared):Prop:=∃H',Inv X pins σ H' s'/\Q b H'
def AP (X:Cx) (pins:List (Addr×Obj)) (σ:St) (Q:List V->Hp->Prop) (us:List Value) (s':Shared):Prop:=∃vs H',Inv X pins σ H' s'/\Vals vs us/\Q vs H'
def SP (X:Cx) (pins:List (Addr×Obj)) (D:Ends) (f:Flow) (s':Shared):Prop:=
 match f with
 | .next=>∃σ' H',Inv X pins σ' H' s'/\D.nx σ' H'
 | .brk=>∃σ' H',Inv X pins σ' H' s'/\D.bk σ' H'
 | .cont=>∃σ' H',Inv X pins σ' H' s'/\D.ct σ' H'
 | .ret u=>∃v σ' H',Inv X pins σ' H' s'/\RelV v u/\D.rt v H'
def PE (X:Cx) (e:Expr) (t:TE):Prop:=
 ∀(pins:List (Addr×Obj)) (s:Shared) (σ:St) (H:Hp) (Q:VK),Inv X pins σ H s->t σ H Q->wpAny (model X.prog X.w) X.A (eval e X.env) (EP X pins σ Q) X.xe s
def PT (X:Cx) (e:Expr) (t:TT):Prop:=
 ∀(pins:List (Addr×Obj)) (s:Shared) (σ:St) (H:Hp) (Q:Bool->Hp->Prop),Inv X pins σ H s->t σ H Q->wpAny (model X.prog X.w) X.A (isTrue e X.env (eval e X.env)) (TP X pins σ Q) X.xe s
def PW (X:Cx) (e:Expr) (t:TT):Prop:=
 ∀(whole:Sem Value) (pins:List (Addr×Obj)) (s:Shared) (σ:St) (H:Hp) (Q:Bool->Hp->Prop),Inv X pins σ H s->t σ H Q->wpAny (model X.prog X.w) X.A (isTrue e X.env whole) (TP X pins σ Q) X.xe s
theorem PW.pt {X:Cx} {e:Expr} {t:TT} (h:PW X e t):PT X e t:=h _
def PA (X:Cx) (es:List Expr) (t:TA):Prop:=
 ∀(pos:Pos) (pins:List (Addr×Obj)) (s:Shared) (σ:St) (H:Hp) (Q:List V->Hp->Prop),Inv X pins σ H s->t σ H Q->wpAny (model X.prog X.w) X.A (spliced (backTo pos (starEach es X.env))) (AP X pins σ Q) X.xe s
def PS (X:Cx) (st:Stmt) (t:TS):Prop:=
 ∀(pins:List (Addr×Obj)) (s:Shared) (σ:St) (H:Hp) (D:Ends),Inv X pins σ H s->t D σ H->wpAny (model X.prog X.w) X.A (exec st X.env) (SP X pins D) X.xe s
def PSs (X:Cx) (st:List Stmt) (t:TS):Prop:=
 ∀(pins:List (Addr×Obj)) (s:Shared) (σ:St) (H:Hp) (D:Ends),Inv X pins σ H s->t D σ H->wpAny (model X.prog X.w) X.A (execs st X.env) (SP X pins D) X.xe s
theorem thn {α:Type} {t:Sem α} {Q Q':α->Shared->Prop} {M:Model} {A:Around} {E:Value->Shared->Prop} {s:Shared} (h:wpAny M A t Q E s) (hQ:∀a s,Q a s->Q' a s):wpAny M A t Q' E s:=wpAny_mono h hQ fun _ _ x=>x
section
variable {X:Cx}
noncomputable def aAf (i:Nat):TE:=fun σ H Q=>∃v,σ[i]?=some (some v)/\Q v H
noncomputable def tC (v:V):TE:=fun _ H Q=>Q v H
theorem dF {i:Nat} {x:Str} {pos:Pos} (hN:X.N[i]?=some x) (hv:Vis X.env.scope x) (hd:nDb x:=by decide) (hcd:nCd x:=by decide):PE X (.Name x pos) (aAf i):=by
 intro pins s σ H Q I h;obtain ⟨v,e,h⟩:=h;obtain ⟨m,hn,hl⟩:=I.loc;obtain ⟨u,r,l⟩:=hl i x v hN e hv;have fin:EP X pins σ Q u s:=⟨v,H,I,r,h⟩
 rcases l with ⟨hk,hm⟩|⟨hk,c,hc,hcell⟩
 ·exact wpAny_Name (wpAny_loadName_local I.ok.kind hk hn hm fin) hd
 ·rcases hk with hk|hk
  ·exact wpAny_Name (wpAny_loadName_cell I.ok.kind hk hc hcell fin) hd
  ·exact wpAny_Name (wpAny_loadName_free I.ok.kind hk hc hcell fin hcd) hd
theorem aCo {i j pos}:PE X (.Constant (.int i) j pos) (tC (.int i)):=fun _ _ _ H _ I h=>wpAny_Constant_int ⟨.int i,H,I.tok _,⟨_,rfl⟩,h⟩
theorem aKh {b j pos}:PE X (.Constant (.bool b) j pos) (tC (.bl b)):=fun _ _ _ H _ I h=>Constant_bool ⟨.bl b,H,I,rfl,h⟩
theorem aGs {j pos}:PE X (.Constant .none j pos) (tC .non):=fun _ _ _ H _ I h=>Constant_none ⟨.non,H,I,rfl,h⟩
theorem aGt {x j pos}:PE X (.Constant (.str x) j pos) (tC (.str x)):=fun _ _ _ H _ I h=>Calls.Constant_str ⟨.str x,H,I.tok _,⟨_,rfl⟩,h⟩
def Gl (X:Cx) (x:Str):Prop:=X.env.kindOf x=some .globalImplicit
theorem j_ {E:Value->Shared->Prop} {pins:List (Addr×Obj)} {s:Shared} {σ:St} {H:Hp} {x:Str} {u:Value} {pos:Pos} {Q:Value->Shared->Prop} (I:Inv X pins σ H s) (hg:Gl X x) (hm:X.mg x=some u) (h:Q u s)
  (hd:nDb x:=by decide):wpAny (model X.prog X.w) X.A (eval (.Name x pos) X.env) Q E s:=
 Calls.Name_function_global I.ok.kind hg (Calls.loadGlobal_global (by rw [I.ok.glob];exact I.mod.glob.keeps I.bk) hm h) hd
theorem lF {E:Value->Shared->Prop} {pins:List (Addr×Obj)} {s:Shared} {σ:St} {H:Hp} {x:Str} {u:Value} {pos:Pos} {Q:Value->Shared->Prop} (I:Inv X pins σ H s) (hg:Gl X x) (hm:X.mg x=none) (hv:bootBuiltins x=some u) (h:Q u s)
  (hn:x ≠ "__name__":=by decide) (hd:nDb x:=by decide):wpAny (model X.prog X.w) X.A (eval (.Name x pos) X.env) Q E s:=by
 obtain ⟨mb,h1,h2⟩:=I.mod.blt;exact Calls.Name_function_global I.ok.kind hg (Calls.loadGlobal_builtin (by rw [I.ok.glob];exact I.mod.glob.keeps I.bk) hm (by rw [I.ok.blt];exact h1.keeps I.bk) ((h2 x hn).trans hv) h) hd
theorem jG {x:Str} {v:V} {u:Value} {pos:Pos} (hg:Gl X x) (hm:X.mg x=some u) (r:RelV v u) (hd:nDb x:=by decide):PE X (.Name x pos) (tC v):=
 fun _ _ _ H _ I h=>j_ I hg hm ⟨v,H,I,r,h⟩ hd
theorem WL {x:Str} {v:V} {u:Value} {pos:Pos} (hg:Gl X x) (hm:X.mg x=none) (hv:bootBuiltins x=some u) (r:RelV v u) (hn:x ≠ "__name__":=by decide) (hd:nDb x:=by decide):PE X (.Name x pos) (tC v):=
 fun _ _ _ H _ I h=>lF I hg hm hv ⟨v,H,I,r,h⟩ hn hd
variable {a b:Expr} {ta tb:TE} {pos:Pos}
variable {tA tB':TT} {rest:List Expr}
noncomputable def aMi (t u:TT):TT:=fun σ H Q=>t σ H fun c H1=>if c=true then u σ H1 Q else Q false H1
noncomputable def tOr (t u:TT):TT:=fun σ H Q=>t σ H fun c H1=>if c=true then Q true H1 else u σ H1 Q
noncomputable def aMj (t:TT):TT:=fun σ H Q=>t σ H fun c H1=>Q (!c) H1
theorem aDu (ha:PT X a tA):PW X (.BoolOp .And [a] pos) tA:=by
 intro wh pins s σ H Q I h;refine isTrue_and (thn (ha pins s σ H Q I h) fun c s1 e=>?_);cases c with
 | true=>exact isTrue_and_nil e
 | false=>exact e
theorem aGu (ha:PT X a tA):PW X (.BoolOp .Or [a] pos) tA:=by
 intro wh pins s σ H Q I h;refine isTrue_or (thn (ha pins s σ H Q I h) fun c s1 e=>?_);cases c with
 | false=>exact isTrue_or_nil e
 | true=>exact e
theorem aGv (ha:PT X a tA) (hb:PW X (.BoolOp .And (b::rest) pos) tB'):PW X (.BoolOp .And (a::b::rest) pos) (aMi tA tB'):=by
 intro wh pins s σ H Q I h;refine isTrue_and (thn (ha pins s σ H _ I h) fun c s1 ⟨H1,I1,q1⟩=>?_);cases c with
 | true=>exact hb wh pins s1 σ H1 Q I1 q1
 | false=>exact ⟨H1,I1,q1⟩
theorem aKi (ha:PT X a tA) (hb:PW X (.BoolOp .Or (b::rest) pos) tB'):PW X (.BoolOp .Or (a::b::rest) pos) (tOr tA tB'):=by
 intro wh pins s σ H Q I h;refine isTrue_or (thn (ha pins s σ H _ I h) fun c s1 ⟨H1,I1,q1⟩=>?_);cases c with
 | true=>exact ⟨H1,I1,q1⟩
 | false=>exact hb wh pins s1 σ H1 Q I1 q1
theorem aGw (ha:PT X a tA):PT X (.UnaryOp .Not a pos) (aMj tA):=by
 intro pins s σ H Q I h;exact isTrue_not (ha pins s σ H (fun c H1=>Q (!c) H1) I h)
noncomputable def aKj (ta tb:TE):TE:=fun σ H Q=>ta σ H fun x H1=>∃c,x=.bl c/\if c=true then tb σ H1 Q else Q (.bl false) H1
noncomputable def aMk (ta tb:TE):TE:=fun σ H Q=>ta σ H fun x H1=>∃c,x=.bl c/\if c=true then Q (.bl true) H1 else tb σ H1 Q
theorem aGx {op} {t:TE} (h:PE X a t):PE X (.BoolOp op [a] pos) t:=fun pins s σ H Q I hw=>BoolOp_one (h pins s σ H Q I hw)
theorem aGy (ha:PE X a ta) (hb:PE X (.BoolOp .And (b::rest) pos) tb):PE X (.BoolOp .And (a::b::rest) pos) (aKj ta tb):=by
 intro pins s σ H Q I h;refine BoolOp_and (thn (ha pins s σ H _ I h) fun v s1 ⟨x,H1,I1,r1,q1⟩=>?_);obtain ⟨c,rfl,q1⟩:=q1;cases r1;refine wpAny_truthy_bool ?_;cases c with
 | true=>exact hb pins s1 σ H1 Q I1 q1
 | false=>exact ⟨.bl false,H1,I1,rfl,q1⟩
theorem aKk (ha:PE X a ta) (hb:PE X (.BoolOp .Or (b::rest) pos) tb):PE X (.BoolOp .Or (a::b::rest) pos) (aMk ta tb):=by
 intro pins s σ H Q I h;refine BoolOp_or (thn (ha pins s σ H _ I h) fun v s1 ⟨x,H1,I1,r1,q1⟩=>?_);obtain ⟨c,rfl,q1⟩:=q1;cases r1;refine wpAny_truthy_bool ?_;cases c with
 | false=>exact hb pins s1 σ H1 Q I1 q1
 | true=>exact ⟨.bl true,H1,I1,rfl,q1⟩
end
def SqL (K:PySem.W.Frag) (H:Hp) (a:Addr) (xs:List V):Prop:=
 Rd H a (.lst xs)\/
  ∃(o:Obj) (its:Array Value) (n:Nat),K.lookup a=some o/\o.cls=.type "list"/\o.dict=none/\o.data=.seq its n/\its.size<=sizeLine/\Vals xs its.toList
def SqT (K:PySem.W.Frag) (H:Hp) (a:Addr) (xs:List V):Prop:=
 Rd H a (.tup xs)\/
  ∃(o:Obj) (its:Array Value) (n:Nat),K.lookup a=some o/\o.cls=.type "tuple"/\o.data=.seq its n/\its.size<=sizeLine/\Vals xs its.toList
noncomputable def aMl:Value->Option V
 | .none=>some .non
 | .bool b=>some (.bl b)
 | .int i _=>some (.int i)
 | .str x _=>some (.str x)
 | .bytes b _=>some (.byt b)
 | .float b _=>some (.flt b)
 | .ref a=>some (.ref a)
 | .type n=>some (.ty n)
 | _=>none
theorem RelV.abs {x:V} {u:Value} (r:RelV x u):aMl u=some x:=by
 cases x with
 | non=>cases r;rfl
 | bl _=>cases r;rfl
 | int _=>obtain ⟨t,rfl⟩:=r;rfl
 | str _=>obtain ⟨t,rfl⟩:=r;rfl
 | byt _=>obtain ⟨t,rfl⟩:=r;rfl
 | flt _=>obtain ⟨t,rfl⟩:=r;rfl
 | ref _=>cases r;rfl
 | ty _=>cases r;rfl
theorem RelV.inj {x y:V} {u:Value} (r:RelV x u) (q:RelV y u):x=y:=Option.some.inj (r.abs.symm.trans q.abs)
theorem Vals.inj:∀{xs ys:List V} {us:List Value},Vals xs us->Vals ys us->xs=ys
 | _,_,_,.nil,.nil=>rfl
 | _,_,_,.cons r t,.cons r' t'=>by rw [r.inj r',Vals.inj t t']
section
variable {X:Cx} {pins:List (Addr×Obj)} {σ:St} {H:Hp} {s:Shared} {a:Addr} {xs ys:List V}
theorem SqL.of {K:PySem.W.Frag} (h:H a=some (.lst xs)):SqL K H a xs:=.inl (.inl h)
theorem SqT.of {K:PySem.W.Frag} (h:H a=some (.tup xs)):SqT K H a xs:=.inl (.inl h)
theorem Inv.list (I:Inv X pins σ H s) (h:SqL X.K H a xs):∃its:List Value,Vals xs its/\PlainL s.heap a its.toArray/\xs.length<=sizeLine:=by
 rcases h with h|⟨o,its,n,hk,hc,hd,hs,hz,r⟩
 ·obtain ⟨z,its,n,r,e⟩:=h.ok I.hok;exact ⟨its,r,⟨_,n,e,rfl,rfl,rfl⟩,z⟩
 ·refine ⟨its.toList,r,⟨o,n,I.kIn a o hk,hc,hd,by simpa using hs⟩,?_⟩;have e:=r.length;simp only [Array.length_toList] at e;lia
theorem Inv.tuple (I:Inv X pins σ H s) (h:SqT X.K H a xs):∃its:List Value,Vals xs its/\IsTup s.heap a its.toArray/\xs.length<=sizeLine:=by
 rcases h with h|⟨o,its,n,hk,hc,hs,hz,r⟩
 ·obtain ⟨z,its,r,p⟩:=h.ok I.hok;exact ⟨its,r,p.tup,z⟩
 ·refine ⟨its.toList,r,⟨o,I.kIn a o hk,hc,n,by simpa using hs⟩,?_⟩;have e:=r.length;simp only [Array.length_toList] at e;lia
theorem Inv.aAg (I:Inv X pins σ H s) (h:SqL X.K H a xs) (h':SqL X.K H a ys):xs=ys:=by
 obtain ⟨its,r,⟨o,n,e,_,_,d⟩,_⟩:=I.list h;obtain ⟨its',r',⟨o',n',e',_,_,d'⟩,_⟩:=I.list h';rw [e] at e';cases e';rw [d] at d';injection d' with d1 _
 have:its=its':=by simpa using congrArg Array.toList d1
 subst this;exact r.inj r'
theorem Inv.WM (I:Inv X pins σ H s) (h:SqT X.K H a xs) (h':SqT X.K H a ys):xs=ys:=by
 obtain ⟨its,r,⟨o,e,_,n,d⟩,_⟩:=I.tuple h;obtain ⟨its',r',⟨o',e',_,n',d'⟩,_⟩:=I.tuple h';rw [e] at e';cases e';rw [d] at d';injection d' with d1 _
 have:its=its':=by simpa using congrArg Array.toList d1
 subst this;exact r.inj r'
end
noncomputable abbrev Cx.wish (X:Cx) (E:Value->Shared->Prop):Cx:={X with xe:=E}
noncomputable abbrev Cx.nox (X:Cx):Cx:=X.wish fun _ _=>False
theorem Cx.Ok.wish {X:Cx} (ok:X.Ok) (E:Value->Shared->Prop):(X.wish E).Ok:=
 ⟨ok.mod,ok.kind,ok.glob,ok.blt,ok.above,ok.inj,ok.has,ok.cab,ok.hd,ok.frames,ok.stk,ok.exf,ok.bs,ok.bsz,ok.noex,ok.exfs,ok.T3,ok.frf⟩
theorem Cx.Ok.lG {X:Cx} {E:Value->Shared->Prop} (ok:(X.wish E).Ok):X.Ok:=
 ⟨ok.mod,ok.kind,ok.glob,ok.blt,ok.above,ok.inj,ok.has,ok.cab,ok.hd,ok.frames,ok.stk,ok.exf,ok.bs,ok.bsz,ok.noex,ok.exfs,ok.T3,ok.frf⟩
section
variable {X:Cx} {pins:List (Addr×Obj)} {σ:St} {H:Hp} {s:Shared} {E:Value->Shared->Prop}
theorem Inv.wish (I:Inv X pins σ H s) (E:Value->Shared->Prop):Inv (X.wish E) pins σ H s:=⟨I.ok.wish E,I.os,I.bare,I.base,I.loc,I.cell,I.free,I.freeC,I.pin,I.hok,I.len⟩
theorem Inv.lG (I:Inv (X.wish E) pins σ H s):Inv X pins σ H s:=⟨I.ok.lG,I.os,I.bare,I.base,I.loc,I.cell,I.free,I.freeC,I.pin,I.hok,I.len⟩
theorem SP.lG {D:Ends} {f:Flow} {s':Shared} (h:SP (X.wish E) pins D f s'):SP X pins D f s':=by
 cases f with
 | next=>obtain ⟨σ',H',I,q⟩:=h;exact ⟨σ',H',I.lG,q⟩
 | brk=>obtain ⟨σ',H',I,q⟩:=h;exact ⟨σ',H',I.lG,q⟩
 | cont=>obtain ⟨σ',H',I,q⟩:=h;exact ⟨σ',H',I.lG,q⟩
 | ret u=>obtain ⟨v,σ',H',I,r,q⟩:=h;exact ⟨v,σ',H',I.lG,r,q⟩
theorem PSs.nox {st:List Stmt} {t:TS} (h:PSs X.nox st t):PSs X st t:=fun pins s σ H D I hw=>
 wpAny_mono (h pins s σ H D (I.wish _) hw) (fun _ _ q=>q.lG) fun _ _ z=>False.elim z
end
section
variable {X:Cx} {st:Stmt} {rest:List Stmt} {t u:TS} {e:Expr} {te:TE} {pos:Pos}
noncomputable def aGz:TS:=fun D σ H=>D.nx σ H
noncomputable def aH0 (t u:TS):TS:=fun D σ H=>t {D with nx:=u D} σ H
theorem WN:PSs X [] aGz:=fun _ _ σ H _ I h=>wpAny_execs_nil ⟨σ,H,I,h⟩
theorem oG (h1:PS X st t) (h2:PSs X rest u):PSs X (st::rest) (aH0 t u):=by
 intro pins s σ H D I h;refine wpAny_execs_cons (thn (h1 pins s σ H {D with nx:=u D} I h) fun f s1 q=>?_);cases f with
 | next=>
  obtain ⟨σ',H',I',q⟩:=q;exact h2 pins s1 σ' H' D I' q
 | ret v=>exact q
 | brk=>exact q
 | cont=>exact q
theorem lH (h1:PS X st t):PSs X [st] t:=by
 intro pins s σ H D I h;refine wpAny_execs_cons (thn (h1 pins s σ H D I h) fun f s1 q=>?_);cases f with
 | next=>exact wpAny_execs_nil q
 | ret v=>exact q
 | brk=>exact q
 | cont=>exact q
theorem Inv.quiet {pins:List (Addr×Obj)} {σ:St} {H:Hp} {s:Shared} (I:Inv X pins σ H s):interactive X.env=false:=by simp [interactive,I.ok.kind]
noncomputable def aDv (te:TE):TS:=fun D σ H=>te σ H fun _ H1=>D.nx σ H1
theorem lJ (he:PE X e te) (hs:swapsWith e none pos.line X.env=pure false:=by rfl):PS X (.Expr e pos) (aDv te):=by
 intro pins s σ H D I h;exact wpAny_Expr_any (thn (he pins s σ H _ I h) fun v s1 ⟨x,H1,I1,r1,q1⟩=>⟨σ,H1,I1,q1⟩) I.quiet hs
noncomputable def aMm (te:TE):TS:=fun D σ H=>te σ H D.rt
theorem aCp (he:PE X e te):PS X (.Return (some e) pos) (aMm te):=by
 intro pins s σ H D I h;exact wpAny_Return_some (thn (he pins s σ H _ I h) fun v s1 ⟨x,H1,I1,r1,q1⟩=>⟨x,σ,H1,I1,r1,q1⟩)
noncomputable def aMn (c:TT) (t u:TS):TS:=fun D σ H=>c σ H fun b H1=>if b=true then t D σ H1 else u D σ H1
theorem aKl {c:Expr} {a b:List Stmt} {tc:TT} (hc:PT X c tc) (ha:PSs X a t) (hb:PSs X b u):PS X (.If c a b pos) (aMn tc t u):=by
 intro pins s σ H D I h;refine wpAny_If (thn (hc pins s σ H _ I h) fun d s1 ⟨H1,I1,q1⟩=>?_);cases d with
 | true=>exact ha pins s1 σ H1 D I1 q1
 | false=>exact hb pins s1 σ H1 D I1 q1
end
abbrev TG:=V->St->Hp->(St->Hp->Prop)->Prop
abbrev TGs:=List V->St->Hp->(St->Hp->Prop)->Prop
def PG (X:Cx) (target:Expr) (t:TG):Prop:=
 ∀(pins:List (Addr×Obj)) (s:Shared) (σ:St) (H:Hp) (v:V) (u:Value) (Q:St->Hp->Prop),Inv X pins σ H s->RelV v u->t v σ H Q->
  wpAny (model X.prog X.w) X.A (assign target X.env u) (fun _ s'=>∃σ' H',Inv X pins σ' H' s'/\Q σ' H') X.xe s
def PGs (X:Cx) (ts:List Expr) (t:TGs):Prop:=
 ∀(pins:List (Addr×Obj)) (s:Shared) (σ:St) (H:Hp) (vs:List V) (us:List Value) (Q:St->Hp->Prop),Inv X pins σ H s->Vals vs us->t vs σ H Q->
  wpAny (model X.prog X.w) X.A (assignInOrder ((assignEach ts X.env).map (·.2)) us) (fun _ s'=>∃σ' H',Inv X pins σ' H' s'/\Q σ' H') X.xe s
abbrev aMo:=V->V->V->Hp->(Hp->Prop)->Prop
def aMp (X:Cx) (t:aMo):Prop:=
 ∀(pins:List (Addr×Obj)) (s:Shared) (σ:St) (H:Hp) (o i v:V) (ov iv u:Value) (Q:Hp->Prop),Inv X pins σ H s->RelV o ov->RelV i iv->RelV v u->t o i v H Q->
  wpAny (model X.prog X.w) X.A (setItem ov iv u) (fun _ s'=>∃H',Inv X pins σ H' s'/\Q H') X.xe s
section
variable {X:Cx} {pos:Pos}
noncomputable def xM (i:Nat):TG:=fun v σ H Q=>Q (σ.set i (some v)) H
theorem aQ {i:Nat} {x:Str} (hN:X.N.Nodup) (hi:X.N[i]?=some x) (hx:Loc X.env.scope x) (hf:X.fn x=true\/X.env.scope.names.lookup x=some .local:=by first|exact .inl rfl|exact .inr rfl|assumption):PG X (.Name x pos) (xM i):=by
 intro pins s σ H v u Q I r h;exact wpAny_assign_Name (QM I hN hi hx r (fun s' I'=>⟨_,H,I',h⟩) hf)
noncomputable def aM1:TGs:=fun vs σ H Q=>vs=[]/\Q σ H
noncomputable def aH1 (t:TG) (u:TGs):TGs:=fun vs σ H Q=>∃v r,vs=v::r/\t v σ H fun σ' H'=>u r σ' H' Q
theorem fG:PGs X [] aM1:=by
 intro pins s σ H vs us Q I r h;obtain ⟨e,h⟩:=h;subst e;cases r;exact assignInOrder_nil ⟨σ,H,I,h⟩
theorem aV {e:Expr} {es:List Expr} {t:TG} {u:TGs} (h1:PG X e t) (h2:PGs X es u)
  (hs:(assignEach (e::es) X.env).map (·.2)=assign e X.env::(assignEach es X.env).map (·.2):=by rfl):PGs X (e::es) (aH1 t u):=by
 intro pins s σ H vs us Q I r h;obtain ⟨v,vr,e1,h⟩:=h;subst e1;cases r with
 | cons r rr=>
  rw [hs];refine assignInOrder_cons (thn (h1 pins s σ H _ _ _ I r h) fun _ s1 ⟨σ1,H1,I1,q1⟩=>?_);exact h2 pins s1 σ1 H1 _ _ Q I1 rr q1
noncomputable def aKm (K:PySem.W.Frag) (n:Nat) (t:TGs):TG:=fun v σ H Q=>∃a xs,v=.ref a/\SqT K H a xs/\xs.length=n/\t xs σ H Q
theorem iY {es:List Expr} {k:Nat} {t:TGs} {n:Nat} (hc:X.calm=true) (h:PGs X es t)
  (hn:(assignEach es X.env).length=n:=by rfl) (hst:(assignEach es X.env).findIdx? (·.1)=none:=by rfl):PG X (.Tuple es k pos) (aKm X.K n t):=by
 intro pins s σ H v u Q I r hw;obtain ⟨a,xs,e1,hq,hl,hw⟩:=hw;subst e1;cases r;obtain ⟨its,rv,ht,hz⟩:=I.tuple hq;refine assign_Tuple_tuple (I.ok.hd hc) ht (by simp [hn,<-hl,rv.length]) hst fun h' hx=>?_
 have I1:Inv X pins σ H {s with heap:=h'}:=I.kept (t':=s.toks) fun b o e=>hx b o (Nat.ne_of_lt (Heap.lt_size e)) e
 exact h pins _ σ H xs _ Q I1 (by simpa using rv) hw
noncomputable def aGk (te:TE) (g:TG):TS:=fun D σ H=>te σ H fun x H1=>g x σ H1 D.nx
theorem aH2 {tg e:Expr} {te:TE} {g:TG} (he:PE X e te) (hg:PG X tg g) (hs:swapsWithSole [tg] e pos.line X.env=pure false:=by rfl) (hw:swappedStores [tg] e X.env=pure none:=by rfl)
  (h1:(assignEach [tg] X.env).map (·.2)=[assign tg X.env]:=by rfl):PS X (.Assign [tg] e pos) (aGk te g):=by
 intro pins s σ H D I h;refine wpAny_Assign_stores (thn (he pins s σ H _ I h) fun v s1 ⟨x,H1,I1,r1,q1⟩=>?_) hs hw;rw [h1];exact thn (hg pins s1 σ H1 x v _ I1 r1 q1) fun _ s2 q=>q
theorem aCq {i:Nat} {x:Str} {e:Expr} {te:TE} {pos':Pos} (hN:X.N.Nodup) (hi:X.N[i]?=some x) (hx:Loc X.env.scope x) (he:PE X e te) (hs:swapsWith e (some (.Name x pos')) pos.line X.env=pure false:=by rfl) (hf:X.fn x=true\/X.env.scope.names.lookup x=some .local:=by first|exact .inl rfl|exact .inr rfl|assumption) :
  PS X (.Assign [.Name x pos'] e pos) (aGk te (xM i)):=by
 intro pins s σ H D I h;refine wpAny_Assign_Name (thn (he pins s σ H _ I h) fun v s1 ⟨y,H1,I1,r1,q1⟩=>?_) hs;exact QM I1 hN hi hx r1 (fun s2 I2=>⟨_,H1,I2,q1⟩) hf
def aH3 (c:TT) (tb:TS):TS:=fun D σ H=>∃W:Nat->St->Hp->Prop,(∃m,W m σ H)/\∀m σ H,W m σ H->
 c σ H fun b H1=>if b=true then ∃N:St->Hp->Prop,(∀σ' H',N σ' H'->∃m',m'<m/\W m' σ' H')/\tb {D with nx:=N,ct:=N,bk:=D.nx} σ H1 else D.nx σ H1
theorem aAh {c:Expr} {body:List Stmt} {tc:TT} {tb:TS} (hp:PassesOwn (model X.prog X.w) X.A X.env X.xe) (hc:PT X c tc) (hb:PSs X body tb):PS X (.While c body [] pos) (aH3 tc tb):=by
 intro pins s σ H D I h;obtain ⟨W,⟨m0,w0⟩,turn⟩:=h;refine wpAny_While (codeAny_whileLoop (fun n s'=>∃σ' H',Inv X pins σ' H' s'/\W n σ' H') ?_ m0 ⟨σ,H,I,w0⟩);rintro n s1 ⟨σ1,H1,I1,w1⟩;refine wpAny_passesOwn hp (thn (hc pins s1 σ1 H1 _ I1 (turn n σ1 H1 w1)) fun b s2 ⟨H2,I2,q2⟩=>?_);cases b with
 | true=>
  obtain ⟨N,hN,q2⟩:=q2;rw [if_pos rfl];refine wpAny_passesOwn hp (thn (hb pins s2 σ1 H2 _ I2 q2) fun f s3 q3=>?_);cases f with
  | next=>
   obtain ⟨σ3,H3,I3,n3⟩:=q3;obtain ⟨m',hm,w3⟩:=hN σ3 H3 n3;exact ⟨m',hm,σ3,H3,I3,w3⟩
  | cont=>
   obtain ⟨σ3,H3,I3,n3⟩:=q3;obtain ⟨m',hm,w3⟩:=hN σ3 H3 n3;exact ⟨m',hm,σ3,H3,I3,w3⟩
  | brk=>exact q3
  | ret v=>exact q3
 | false=>
  rw [if_neg Bool.false_ne_true];exact wpAny_execs_nil ⟨σ1,H2,I2,q2⟩
end
structure It where
 go:Nat->Hp->Prop
 yld:Nat->Hp->V->Hp->Prop
 stop:Nat->Hp->Prop
def WP (X:Cx) (pins:List (Addr×Obj)) (H:Hp) (b:Addr):Prop:=
 H b=none/\b≠X.env.locals/\b∉X.fs/\(b∈X.ex\/X.s₀.heap.objs.size<=b)/\(∀x c,X.env.cells.lookup x=some c->c≠b)/\∀p∈X.pn++pins,p.1≠b
theorem Inv.aGl {X:Cx} {pins:List (Addr×Obj)} {σ:St} {H H':Hp} {s:Shared} {b:Addr} (I:Inv X pins σ H s) (hb:s.heap.objs.size<=b) (hn:H' b=none):WP X pins H' b:=by
 refine ⟨hn,Nat.ne_of_gt (Nat.lt_of_lt_of_le I.lt hb),I.aM0 hb,.inr (Nat.le_trans I.sz hb),fun x c e z=>?_,fun p hp z=>?_⟩
 ·obtain ⟨v,q⟩:=I.cell x c e;exact absurd (Nat.lt_of_lt_of_le q.lt (by rw [z];exact hb)) (Nat.lt_irrefl _)
 ·exact absurd (Nat.lt_of_lt_of_le (Heap.lt_size (I.pin p hp).1) (by rw [z];exact hb)) (Nat.lt_irrefl _)
structure Turn (P:Program) (w:World) (K:PySem.W.Frag) (tg:Expr) (J:It) (fp:List Addr) (it:Addr) (tn:Nat->Heap->Prop):Prop where
 mem:it∈fp
 obj:∀i h,tn i h->∀b∈fp,∃o,h.get? b=some o/\∀v,o.data≠.cell v
 keep:∀i h h',tn i h->(∀b∈fp,∀o,h.get? b=some o->h'.get? b=some o)->tn i h'
 item:∀(X:Cx),X.prog=P->X.w=w->X.K=K->X.calm=true->∀(i:Nat) (pins:List (Addr×Obj)) (s:Shared) (σ:St) (H:Hp) (E:Value->Shared->Prop),Inv X pins σ H s->(∀b∈fp,WP X pins H b)->tn i s.heap->J.go i H->
  wpAny (model P w) X.A (pyNext (.ref it)) (fun r s1=>∃u,r=some u/\
   wpAny (model P w) X.A (letOwnedTupleGo tg (.ref it) u) (fun _ s2=>∃x H',Inv X pins σ H' s2/\RelV x u/\J.yld i H x H'/\tn (i+1) s2.heap/\∀b∈fp,H' b=none) E s1) E s
 done:∀(X:Cx),X.prog=P->X.w=w->X.K=K->X.calm=true->∀(i:Nat) (pins:List (Addr×Obj)) (s:Shared) (σ:St) (H:Hp) (E:Value->Shared->Prop),Inv X pins σ H s->(∀b∈fp,WP X pins H b)->tn i s.heap->J.stop i H->
  wpAny (model P w) X.A (pyNext (.ref it)) (fun r s1=>r=none/\Inv X pins σ H s1) E s
 self:∀(A:Around) (i:Nat) (s:Shared) (Q:Value->Shared->Prop) (E:Value->Shared->Prop),tn i s.heap->Q (.ref it) s->wpAny (model P w) A (pyIter (.ref it)) Q E s
abbrev TI:=St->Hp->(It->Hp->Prop)->Prop
def PIE (X:Cx) (pins:List (Addr×Obj)) (σ:St) (tg:Expr) (R:It->Hp->Prop) (itv:Value) (s2:Shared):Prop:=
 ∃(it:Addr) (fp:List Addr) (tn:Nat->Heap->Prop) (J:It) (H':Hp),itv=.ref it/\Inv X pins σ H' s2/\Turn X.prog X.w X.K tg J fp it tn/\tn 0 s2.heap/\(∀b∈fp,WP X pins H' b)/\R J H'
def PI (X:Cx) (tg iter:Expr) (wi:TI):Prop:=
 ∀(pins:List (Addr×Obj)) (s:Shared) (σ:St) (H:Hp) (R:It->Hp->Prop),Inv X pins σ H s->wi σ H R->
  wpAny (model X.prog X.w) X.A (eval iter X.env) (fun v s1=>wpAny (model X.prog X.w) X.A (pyIter v) (PIE X pins σ tg R) X.xe s1) X.xe s
theorem WQ {M:Model} {A:Around} {E:Value -> Shared -> Prop} {s:Shared} {tg:Expr} {it:Addr} {u:Value} {o:Obj} {n:String} {vs:Array Value} {Q:Unit -> Shared -> Prop} (ho:s.heap.get? it=some o) (hc:o.cls=.type n) (hd:o.data=.fields vs)
    (hn:["enumerate", "zip", "dict_itemiterator", "dict_reverseitemiterator", "odict_iterator", "itertools.zip_longest", "itertools.pairwise"].contains n=false) (hQ:Q () s):wpAny M A (letOwnedTupleGo tg (.ref it) u) Q E s := by
  unfold letOwnedTupleGo;cases tg <;> first
    | exact wpAny_pure hQ
    | (cases u <;> first
        | exact wpAny_pure hQ
        | (refine wpAny_bind (wpAny_load ho ?_)
           rw [hc, hd];show wpAny M A (if (["enumerate", "zip", "dict_itemiterator", "dict_reverseitemiterator", "odict_iterator", "itertools.zip_longest", "itertools.pairwise"].contains n&&vs[0]?==some (rawInt _))=true then _ else _) Q E s;rw [if_neg (by intro h; rw [hn, Bool.false_and] at h; cases h)];exact wpAny_pure hQ))
noncomputable def Itl (K:PySem.W.Frag) (a:Addr):It:=
 ⟨fun i H=>∃xs x,SqL K H a xs/\xs[i]?=some x,fun i H x H'=>H'=H/\∀xs,SqL K H a xs->xs[i]?=some x,fun i H=>∃xs,SqL K H a xs/\xs.length<=i⟩
noncomputable def Itt (K:PySem.W.Frag) (a:Addr):It:=
 ⟨fun i H=>∃xs x,SqT K H a xs/\xs[i]?=some x,fun i H x H'=>H'=H/\∀xs,SqT K H a xs->xs[i]?=some x,fun i H=>∃xs,SqT K H a xs/\xs.length<=i⟩
noncomputable def Itr (lo:Int) (n:Nat):It:=⟨fun i _=>i<n,fun i H x H'=>H'=H/\x=.int (lo+i),fun i _=>n<=i⟩
theorem WT {P:Program} {w:World} {K:PySem.W.Frag} {tg:Expr} (a it:Addr):Turn P w K tg (Itl K a) [it] it (fun i h=>h.IsListIter it a i) where
 mem:=by simp
 obj:=fun i h st b hb=>by
  have e:b=it:=by simpa using hb
  subst e;obtain ⟨o,e,c,d⟩:=st;exact ⟨o,e,fun v z=>by rw [d] at z;cases z⟩
 keep:=fun i h h' st k=>st.at fun o e=>k it (by simp) o e
 item:=by
  intro X hP hw hK hc i pins s σ H E I hf st hg;subst hP hw hK;obtain ⟨xs,x,hq,hx⟩:=hg;obtain ⟨its,rv,p,hz⟩:=I.list hq;obtain ⟨u,hu,ru⟩:=rv.get hx;obtain ⟨f0,f1,f2,f3,f4,f5⟩:=hf it (by simp);refine wpAny_pyNext_list_item st p.isList (x:=u) (by simpa using hu) fun h' st' sb=>?_
  have I1:Inv X pins σ H {s with heap:=h'}:=I.turned (t':=s.toks) (fun b o hb e=>(sb.2 b hb).trans e) f0 f1 f3 f4 f5;obtain ⟨o,e,c,d⟩:=id st';exact ⟨u,rfl,WQ (s:={s with heap:=h'}) e c d (by decide) ⟨x,H,I1,ru,⟨rfl,fun ys hy=>by rw [I.aAg hy hq];exact hx⟩,st',fun b hb=>(hf b hb).1⟩⟩
 done:=by
  intro X hP hw hK hc i pins s σ H E I hf st hg;subst hP hw hK;obtain ⟨xs,hq,hx⟩:=hg;obtain ⟨its,rv,p,hz⟩:=I.list hq;obtain ⟨f0,f1,f2,f3,f4,f5⟩:=hf it (by simp);have hl:=rv.length;exact wpAny_pyNext_list_end (I.ok.hd hc) st p.isList (by simp;lia) fun h' eb=>⟨rfl,I.turned (t':=s.toks) (fun b o hb e=>eb b o hb e) f0 f1 f3 f4 f5⟩
 self:=fun _ _ _ _ _ st h=>wpAny_pyIter_listiter st h
theorem T4 {P:Program} {w:World} {K:PySem.W.Frag} {tg:Expr} (a it:Addr):Turn P w K tg (Itt K a) [it] it (fun i h=>h.IsTupleIter it a i) where
 mem:=by simp
 obj:=fun i h st b hb=>by
  have e:b=it:=by simpa using hb
  subst e;obtain ⟨o,e,c,d⟩:=st;exact ⟨o,e,fun v z=>by rw [d] at z;cases z⟩
 keep:=fun i h h' st k=>st.at fun o e=>k it (by simp) o e
 item:=by
  intro X hP hw hK hc i pins s σ H E I hf st hg;subst hP hw hK;obtain ⟨xs,x,hq,hx⟩:=hg;obtain ⟨its,rv,p,hz⟩:=I.tuple hq;obtain ⟨u,hu,ru⟩:=rv.get hx;obtain ⟨f0,f1,f2,f3,f4,f5⟩:=hf it (by simp);refine wpAny_pyNext_tuple_item st (show s.heap.IsTuple a its.toArray from p) (x:=u) (by simpa using hu) fun h' st' sb=>?_
  have I1:Inv X pins σ H {s with heap:=h'}:=I.turned (t':=s.toks) (fun b o hb e=>(sb.2 b hb).trans e) f0 f1 f3 f4 f5;obtain ⟨o,e,c,d⟩:=id st';exact ⟨u,rfl,WQ (s:={s with heap:=h'}) e c d (by decide) ⟨x,H,I1,ru,⟨rfl,fun ys hy=>by rw [I.WM hy hq];exact hx⟩,st',fun b hb=>(hf b hb).1⟩⟩
 done:=by
  intro X hP hw hK hc i pins s σ H E I hf st hg;subst hP hw hK;obtain ⟨xs,hq,hx⟩:=hg;obtain ⟨its,rv,p,hz⟩:=I.tuple hq;obtain ⟨f0,f1,f2,f3,f4,f5⟩:=hf it (by simp);have hl:=rv.length;exact wpAny_pyNext_tuple_end (I.ok.hd hc) st (show s.heap.IsTuple a its.toArray from p) (by simp;lia) fun h' eb=>⟨rfl,I.turned (t':=s.toks) (fun b o hb e=>eb b o hb e) f0 f1 f3 f4 f5⟩
 self:=fun _ _ _ _ _ st h=>wpAny_pyIter_tupleiter st h
theorem T5 {P:Program} {w:World} {K:PySem.W.Frag} {tg:Expr} (it:Addr) (lo:Int) (n:Nat):Turn P w K tg (Itr lo n) [it] it (fun i h=>IsRangeIter h it (lo+(i:Nat)*1) ((n:Int)-(i:Nat)) 1) where
 mem:=by simp
 obj:=fun i h st b hb=>by
  have e:b=it:=by simpa using hb
  subst e;exact ⟨_,st,fun v z=>by
   have z':Data.fields _=Data.cell v:=z;cases z'⟩
 keep:=fun i h h' st k=>k it (by simp) _ st
 item:=by
  intro X hP hw hK hc i pins s σ H E I hf st hg;subst hP hw hK;obtain ⟨f0,f1,f2,f3,f4,f5⟩:=hf it (by simp);have W:=Walks.range (prog:=X.prog) (w:=X.w) (I.ok.hd hc) it lo 1 n;refine W.item i s _ _ hg st fun v h' tk hv st' kk=>?_
  obtain ⟨t,rfl⟩:=hv;have I1:Inv X pins σ H {s with heap:=h',toks:=tk}:=I.turned (fun b o hb e=>kk b o (by simpa using hb) e) f0 f1 f3 f4 f5;refine ⟨_,rfl,WQ (s:={s with heap:=h',toks:=tk}) (n := "range_iterator") st' rfl rfl (by decide) ⟨.int (lo+i),H,I1,⟨t,?_⟩,⟨rfl,rfl⟩,st',fun b hb=>(hf b hb).1⟩⟩;rw [Int.mul_one]
 done:=by
  intro X hP hw hK hc i pins s σ H E I hf st hg;subst hP hw hK;obtain ⟨f0,f1,f2,f3,f4,f5⟩:=hf it (by simp);exact wpAny_pyNext_range_end (I.ok.hd hc) st (by have:n<=i:=hg;lia) fun h' eb=>⟨rfl,I.turned (t':=s.toks) (fun b o hb e=>eb b o hb e) f0 f1 f3 f4 f5⟩
 self:=fun _ _ _ _ _ st h=>wpAny_pyIter_rangeiter st h
section
variable {X:Cx} {tg:Expr}
theorem aAi {pins:List (Addr×Obj)} {σ:St} {H:Hp} {s:Shared} {R:It->Hp->Prop} {E:Value->Shared->Prop} {lo hi:Int} {t u v:Tok} {tk:Nat} (I:Inv X pins σ H s) (h1:-(2 ^ 62)<=lo) (h2:lo<2 ^ 62) (h3:-(2 ^ 62)<=hi) (h4:hi<2 ^ 62)
  (q:R (Itr lo (hi-lo).toNat) H):wpAny (model X.prog X.w) X.A (pyIter (.ref s.heap.objs.size)) (PIE X pins σ tg R) E {s with heap:=s.heap.push {cls:=.type "range",data:=.fields #[.int lo t,.int hi u,.int 1 v]},toks:=tk}:=by
 refine wpAny_pyIter_range (IsRange.new ..) (small_one h1 h2 h3 h4) ?_;have I1:Inv X pins σ H {s with heap:=s.heap.push {cls:=.type "range",data:=.fields #[.int lo t,.int hi u,.int 1 v]},toks:=tk}:=I.kept fun b o e=>Heap.get?_push_of_some _ e
 refine ⟨(s.heap.push {cls:=.type "range",data:=.fields #[.int lo t,.int hi u,.int 1 v]}).objs.size,[(s.heap.push {cls:=.type "range",data:=.fields #[.int lo t,.int hi u,.int 1 v]}).objs.size],_,_,H,rfl,
  I1.kept (t':=tk) fun b o e=>Heap.get?_push_of_some _ e,T5 _ lo (hi-lo).toNat,?_,fun b hb=>?_,q⟩
 ·have e1:lo+((0:Nat):Int)*1=lo:=by simp
  have e2:(((hi-lo).toNat:Nat):Int)-((0:Nat):Int)=Builtin.Range.rangeSize lo hi 1:=by rw [rangeSize_one];split <;> lia
  show IsRangeIter _ _ (lo+((0:Nat):Int)*1) ((((hi-lo).toNat:Nat):Int)-((0:Nat):Int)) 1;rw [e1,e2];exact Heap.get?_push_size _ rfl
 ·have e:b=(s.heap.push {cls:=.type "range",data:=.fields #[.int lo t,.int hi u,.int 1 v]}).objs.size:=by simpa using hb
  subst e;exact I1.aGl (Nat.le_refl _) (I1.hok.fresh (Nat.le_refl _))
def aKn (ta:TA):TI:=fun σ H R=>ta σ H fun vs H1=>∃j:Int,vs=[.int j]/\-(2 ^ 62)<=j/\j<2 ^ 62/\R (Itr 0 j.toNat) H1
theorem WX {a:Expr} {ta:TA} {p pos:Pos} (hg:Gl X "range") (hm:X.mg "range" = none) (ha:PA X [a] ta) (hs:starEach [a] X.env=[(false,eval a X.env)]:=by rfl):PI X tg (.Call (.Name "range" p) [a] [] pos) (aKn ta):=by
 intro pins s σ H R I h;refine Call_ (lF I hg hm boot_range (PyProof.Rows.callWith_type1 (thn (ha pos pins s σ H _ I h) fun us s1 ⟨vs,H1,I1,r1,q1⟩=>?_) hs rfl));obtain ⟨j,e,q1,q2,q⟩:=q1;subst e;cases r1 with
 | cons r rr=>
  cases rr;obtain ⟨t,rfl⟩:=r;exact call_range_1 (aAi I1 (by lia) (by lia) q1 q2 (by simpa using q))
def aMq (wi:TI) (g:TG) (tb:TS):TS:=fun D σ H=>wi σ H fun J H1=>∃W:Nat->Nat->St->Hp->Prop,(∃m,W 0 m σ H1)/\∀i m σ H,W i m σ H->
 (J.stop i H/\D.nx σ H)\/(J.go i H/\∃N:St->Hp->Prop,(∀σ' H',N σ' H'->∃m',m'<m/\W (i+1) m' σ' H')/\∀x H',J.yld i H x H'->g x σ H' fun σ2 H2=>tb {D with nx:=N,ct:=N,bk:=D.nx} σ2 H2)
noncomputable def xN (fp:List Addr) (h:Heap):List (Addr×Obj):=fp.filterMap fun b=>(h.get? b).map fun o=>(b,o)
theorem mV {fp:List Addr} {h:Heap} {b:Addr} {o:Obj} (hb:b∈fp) (e:h.get? b=some o):(b,o)∈xN fp h:=List.mem_filterMap.mpr ⟨b,hb,by rw [e];rfl⟩
theorem WY {fp:List Addr} {h:Heap} {p:Addr×Obj} (hp:p∈xN fp h):p.1∈fp/\h.get? p.1=some p.2:=by
 obtain ⟨b,hb,e⟩:=List.mem_filterMap.mp hp;cases q:h.get? b with
 | none=>rw [q] at e;cases e
 | some o=>
  rw [q] at e;have e':(b,o)=p:=Option.some.inj e;subst e';exact ⟨hb,q⟩
theorem Inv.pinned {pins:List (Addr×Obj)} {σ:St} {H:Hp} {s:Shared} {fp:List Addr} (I:Inv X pins σ H s) (hf:∀b∈fp,WP X pins H b) (ho:∀b∈fp,∃o,s.heap.get? b=some o/\∀v,o.data≠.cell v):Inv X (pins++xN fp s.heap) σ H s:=
 I.M8 fun p hp=>(List.mem_append.mp hp).elim (fun z=>I.pin p (List.mem_append_right _ z)) fun z=>by
  obtain ⟨hb,e⟩:=WY z;obtain ⟨f0,f1,f2,_⟩:=hf p.1 hb;obtain ⟨o,e',d⟩:=ho p.1 hb;rw [e] at e';cases e';exact ⟨e,f0,f1,f2,d⟩
theorem Inv.oH {pins pl:List (Addr×Obj)} {σ:St} {H:Hp} {s:Shared} (I:Inv X (pins++pl) σ H s):Inv X pins σ H s:=I.M8 fun p hp=>I.pin p (List.mem_append_right _ (List.mem_append_left _ hp))
theorem aCr {iter:Expr} {body:List Stmt} {wi:TI} {g:TG} {tb:TS} {pos:Pos} (hp:PassesOwn (model X.prog X.w) X.A X.env X.xe) (hc:X.calm=true) (hi:PI X tg iter wi) (hg:PG X tg g) (hb:PSs X body tb)
  (hs:∀x,foldedSetIterable iter X.env x=pure x:=by intro _;rfl):PS X (.For tg iter body [] pos) (aMq wi g tb):=by
 intro pins s σ H D I h;refine wpAny_For (thn (hi pins s σ H _ I h) fun v s1 h1=>thn h1 fun itv s2 h2=>?_) hs;obtain ⟨it,fp,tn,J,H2,e,I2,T,st2,f2,W,⟨m0,w0⟩,turn⟩:=h2;subst e
 -- what stays true of the iterator's objects through the loop
 have stat:∀{H':Hp},(∀b∈fp,H' b=none)->∀b∈fp,WP X pins H' b:=fun hn b hb=>⟨hn b hb,(f2 b hb).2⟩
 refine codeAny_forLoop_any (fun n s'=>∃i σ' H',Inv X pins σ' H' s'/\tn i s'.heap/\(∀b∈fp,H' b=none)/\W i n σ' H') ?_ m0 ⟨0,σ,H2,I2,st2,fun b hb=>(f2 b hb).1,w0⟩;rintro n s3 ⟨i,σ3,H3,I3,st3,fr3,w3⟩;rcases turn i n σ3 H3 w3 with ⟨stop,qn⟩|⟨go,N,hN,step⟩
 ·refine wpAny_passesOwn hp (thn (T.done X rfl rfl rfl hc i pins s3 σ3 H3 X.xe I3 (stat fr3) st3 stop) fun r s4 ⟨hr,I4⟩=>?_);subst hr;exact wpAny_execs_nil ⟨σ3,H3,I4,qn⟩
 ·refine wpAny_passesOwn hp (thn (T.item X rfl rfl rfl hc i pins s3 σ3 H3 X.xe I3 (stat fr3) st3 go) fun r s4 ⟨u,hr,h4⟩=>?_);subst hr;refine wpAny_passesOwn hp (thn h4 fun _ s5 ⟨x,H5,I5,r5,y5,st5,fr5⟩=>?_);have I5':=I5.pinned (stat fr5) (T.obj _ _ st5);refine wpAny_passesOwn hp (thn (hg _ s5 σ3 H5 x u _ I5' r5 (step x H5 y5)) fun _ s6 ⟨σ6,H6,I6,q6⟩=>?_);refine wpAny_passesOwn hp (thn (hb _ s6 σ6 H6 _ I6 q6) fun f s7 q7=>?_);have again:∀{σ7:St} {H7:Hp},Inv X (pins++xN fp s5.heap) σ7 H7 s7->N σ7 H7->∃m,m<n/\∃i σ' H',Inv X pins σ' H' s7/\tn i s7.heap/\(∀b∈fp,H' b=none)/\W i m σ' H':=fun {σ7 H7} I7 n7=>by
   obtain ⟨m',hm,w7⟩:=hN σ7 H7 n7;refine ⟨m',hm,i+1,σ7,H7,I7.oH,T.keep _ _ _ st5 fun b hb o e=>(I7.pin (b,o) (List.mem_append_right _ (List.mem_append_right _ (mV hb e)))).1,fun b hb=>?_,w7⟩;obtain ⟨o,e,d⟩:=T.obj _ _ st5 b hb;exact (I7.pin (b,o) (List.mem_append_right _ (List.mem_append_right _ (mV hb e)))).2.1
  cases f with
  | next=>obtain ⟨σ7,H7,I7,n7⟩:=q7;exact again I7 n7
  | cont=>obtain ⟨σ7,H7,I7,n7⟩:=q7;exact again I7 n7
  | brk=>obtain ⟨σ7,H7,I7,q7⟩:=q7;exact ⟨σ7,H7,I7.oH,q7⟩
  | ret v=>obtain ⟨x7,σ7,H7,I7,r7,q7⟩:=q7;exact ⟨x7,σ7,H7,I7.oH,r7,q7⟩
end
abbrev R2:=V->V->Hp->VK->Prop
def OpR (X:Cx) (f:Value->Value->Sem Value) (r:R2):Prop:=
 ∀(pins:List (Addr×Obj)) (s:Shared) (σ:St) (H:Hp) (x y:V) (v u:Value) (Q:VK),Inv X pins σ H s->RelV x v->RelV y u->r x y H Q->
  wpAny (model X.prog X.w) X.A (f v u) (EP X pins σ Q) X.xe s
def UnR (X:Cx) (f:Value->Sem Value) (r:V->Hp->VK->Prop):Prop:=
 ∀(pins:List (Addr×Obj)) (s:Shared) (σ:St) (H:Hp) (x:V) (v:Value) (Q:VK),Inv X pins σ H s->RelV x v->r x H Q->
  wpAny (model X.prog X.w) X.A (f v) (EP X pins σ Q) X.xe s
def nR (X:Cx) (f:Value) (r:List V->Hp->VK->Prop):Prop:=
 ∀(pins:List (Addr×Obj)) (s:Shared) (σ:St) (H:Hp) (xs:List V) (us:List Value) (Q:VK),Inv X pins σ H s->Vals xs us->r xs H Q->
  wpAny (model X.prog X.w) X.A (call f us) (EP X pins σ Q) X.xe s
def aMr (X:Cx) (r:V->Hp->(Bool->Hp->Prop)->Prop):Prop:=
 ∀(pins:List (Addr×Obj)) (s:Shared) (σ:St) (H:Hp) (x:V) (v:Value) (Q:Bool->Hp->Prop),Inv X pins σ H s->RelV x v->r x H Q->
  wpAny (model X.prog X.w) X.A (truthy v) (TP X pins σ Q) X.xe s
noncomputable def tOp (r:R2) (ta tb:TE):TE:=fun σ H Q=>ta σ H fun x H1=>tb σ H1 fun y H2=>r x y H2 Q
noncomputable def tUn (r:V->Hp->VK->Prop) (ta:TE):TE:=fun σ H Q=>ta σ H fun x H1=>r x H1 Q
noncomputable def rI (C:Int->Int->Prop) (g:Int->Int->V):R2:=fun x y H Q=>∃i j,x=.int i/\y=.int j/\C i j/\Q (g i j) H
noncomputable def rI0 (g:Int->Int->V):R2:=fun x y H Q=>∃i j,x=.int i/\y=.int j/\Q (g i j) H
def rU (g:Int->V):V->Hp->VK->Prop:=fun x H Q=>∃i,x=.int i/\Q (g i) H
section
variable {X:Cx} {a b:Expr} {ta tb:TE} {pos:Pos}
theorem aKo (ha:PE X a ta) (hb:PE X b tb) {pins:List (Addr×Obj)} {s:Shared} {σ:St} {H:Hp} {R:V->V->Hp->Prop} (I:Inv X pins σ H s)
  (h:ta σ H fun x H1=>tb σ H1 fun y H2=>R x y H2) {Q:Value->Shared->Prop} {f:Value->Value->Sem Value}
  (hf:∀v u s2 x y H2,Inv X pins σ H2 s2->RelV x v->RelV y u->R x y H2->wpAny (model X.prog X.w) X.A (f v u) Q X.xe s2) :
  wpAny (model X.prog X.w) X.A (eval a X.env) (fun v s₁=>wpAny (model X.prog X.w) X.A (eval b X.env) (fun u s₂=>wpAny (model X.prog X.w) X.A (f v u) Q X.xe s₂) X.xe s₁) X.xe s:=by
 refine thn (ha pins s σ H _ I h) fun v s1 ⟨x,H1,I1,r1,q1⟩=>?_
 refine thn (hb pins s1 σ H1 _ I1 q1) fun u s2 ⟨y,H2,I2,r2,q2⟩=>?_
 exact hf v u s2 x y H2 I2 r1 r2 q2
theorem aKp {op:Operator} {r:R2} (ho:OpR X (binaryOp op) r) (ha:PE X a ta) (hb:PE X b tb):PE X (.BinOp a op b pos) (tOp r ta tb):=by
 intro pins s σ H Q I h;exact wpAny_BinOp (aKo ha hb I h fun v u s2 x y H2 I2 rx ry q=>ho pins s2 σ H2 x y v u Q I2 rx ry q)
theorem aKq {op:UnaryOp} {r:V->Hp->VK->Prop} (ho:UnR X (unaryOp op) r) (ha:PE X a ta):PE X (.UnaryOp op a pos) (tUn r ta):=by
 intro pins s σ H Q I h;exact UnaryOp_ (thn (ha pins s σ H _ I h) fun v s1 ⟨x,H1,I1,r1,q1⟩=>ho pins s1 σ H1 x v Q I1 r1 q1)
theorem opI {f:Value->Value->Sem Value} {C:Int->Int->Prop} {g:Int->Int->Int}
  (rule:∀(i j:Int) (t u:Tok) (s:Shared) (Q:Value->Shared->Prop) (E:Value->Shared->Prop),C i j->Q (.int (g i j) s.toks) {s with toks:=s.toks+1}->wpAny (model X.prog X.w) X.A (f (.int i t) (.int j u)) Q E s) :
  OpR X f (rI C fun i j=>.int (g i j)):=by
 intro pins s σ H x y v u Q I rx ry h;obtain ⟨i,j,rfl,rfl,hc,q⟩:=h;obtain ⟨t,rfl⟩:=rx;obtain ⟨t',rfl⟩:=ry;exact rule i j t t' s _ _ hc ⟨.int (g i j),H,I.tok _,⟨_,rfl⟩,q⟩
theorem aM2 {f:Value->Value->Sem Value} {g:Int->Int->Int}
  (rule:∀(i j:Int) (t u:Tok) (s:Shared) (Q:Value->Shared->Prop) (E:Value->Shared->Prop),Q (.int (g i j) s.toks) {s with toks:=s.toks+1}->wpAny (model X.prog X.w) X.A (f (.int i t) (.int j u)) Q E s) :
  OpR X f (rI0 fun i j=>.int (g i j)):=by
 intro pins s σ H x y v u Q I rx ry h;obtain ⟨i,j,rfl,rfl,q⟩:=h;obtain ⟨t,rfl⟩:=rx;obtain ⟨t',rfl⟩:=ry;exact rule i j t t' s _ _ ⟨.int (g i j),H,I.tok _,⟨_,rfl⟩,q⟩
def aMs (i j:Int):Prop:=0<j/\j<1073741824
def aKr (i j:Int):Prop:=(-(2 ^ 64)<i/\i<2 ^ 64)\/(-(2 ^ 64)<j/\j<2 ^ 64)
theorem aKr.ok {i j:Int} (h:aKr i j):IntMulOk i j:=by
 rcases h with ⟨h1,h2⟩|⟨h1,h2⟩
 ·exact .of_left (intBits_le_64 h1 h2)
 ·exact .of_right (intBits_le_64 h1 h2)
theorem aH4:OpR X (binaryOp .Add) (rI0 fun i j=>.int (i+j)):=aM2 fun _ _ _ _ _ _ _ q=>add_int q
theorem aH5:OpR X (binaryOp .Sub) (rI0 fun i j=>.int (i-j)):=aM2 fun _ _ _ _ _ _ _ q=>sub_int q
theorem aH6:OpR X (binaryOp .Mult) (rI aKr fun i j=>.int (i*j)):=opI fun _ _ _ _ _ _ _ hc q=>mul_int q hc.ok
theorem aDw:OpR X (binaryOp .FloorDiv) (rI aMs fun i j=>.int (i / j)):=opI fun i j _ _ _ _ _ hc q=>by
 have h1:(0:Int)<j:=hc.1;have h2:j<1073741824:=hc.2;exact floordiv_int (by lia) (by rw [Int.fdiv_eq_ediv_of_nonneg i (by lia)];exact q) (.inl (PyProof.noPylong_small (by lia)))
theorem aH7:OpR X (binaryOp .Mod) (rI (fun _ j=>0<j) fun i j=>.int (i % j)):=opI fun i j _ _ _ _ _ hc q=>by
 have h1:(0:Int)<j:=hc;exact mod_int' (by lia) (by rw [Int.fmod_eq_emod_of_nonneg i (by lia)];exact q)
theorem unI {f:Value->Sem Value} {g:Int->Int}
  (rule:∀(i:Int) (t:Tok) (s:Shared) (Q:Value->Shared->Prop) (E:Value->Shared->Prop),Q (.int (g i) s.toks) {s with toks:=s.toks+1}->wpAny (model X.prog X.w) X.A (f (.int i t)) Q E s) :
  UnR X f (rU fun i=>.int (g i)):=by
 intro pins s σ H x v Q I rx h;obtain ⟨i,rfl,q⟩:=h;obtain ⟨t,rfl⟩:=rx;exact rule i t s _ _ ⟨.int (g i),H,I.tok _,⟨_,rfl⟩,q⟩
theorem aH8:UnR X (unaryOp .USub) (rU fun i=>.int (-i)):=unI fun _ _ _ _ _ q=>neg_int q
end
section
variable {X:Cx} {a b c:Expr} {ta tb:TE} {pos:Pos}
theorem aCs {pins:List (Addr×Obj)} {σ:St} {H:Hp} {s:Shared} {Q:VK} {k k':Bool} (I:Inv X pins σ H s) (q:Q (.bl k) H) (e:k=k'):EP X pins σ Q (.bool k') s:=by
 subst e;exact ⟨.bl k,H,I,rfl,q⟩
theorem aH9:OpR X (compareOp .Is) (fun x y H Q=>y=.non/\Q (.bl (decide (x=.non))) H):=by
 intro pins s σ H x y v u Q I rx ry h;obtain ⟨rfl,q⟩:=h;cases ry;refine is_none_gen (aCs I q ?_);cases x <;> first
  | (cases rx;rfl)
  | (obtain ⟨t,rfl⟩:=rx;rfl)
theorem aDx:OpR X (compareOp .IsNot) (fun x y H Q=>y=.non/\Q (.bl (!decide (x=.non))) H):=by
 intro pins s σ H x y v u Q I rx ry h;obtain ⟨rfl,q⟩:=h;cases ry;refine isnot_none_gen (aCs I q ?_);cases x <;> first
  | (cases rx;rfl)
  | (obtain ⟨t,rfl⟩:=rx;rfl)
theorem cL (b:Expr) {op:CmpOp} (h:op≠.In:=by decide) (h2:op≠.NotIn:=by decide):behindInMarks op b=false:=by
 have e1:(op==CmpOp.In)=false:=by cases op <;> first|rfl|exact absurd rfl h
 have e2:(op==CmpOp.NotIn)=false:=by cases op <;> first|rfl|exact absurd rfl h2
 cases b <;> simp [behindInMarks,e1,e2]
theorem aDy {op:CmpOp} {r:R2} (ho:OpR X (compareOp op) r) (ha:PE X a ta) (hb:PE X b tb) (hm:behindInMarks op b=false):PE X (.Compare a [op] [b] pos) (tOp r ta tb):=by
 intro pins s σ H Q I h;exact wpAny_Compare1 (aKo ha hb I h fun v u s2 x y H2 I2 rx ry q=>ho pins s2 σ H2 x y v u Q I2 rx ry q) hm
noncomputable def aKs (t:TE):TT:=fun σ H Q=>t σ H fun x H'=>∃k,x=.bl k/\Q k H'
theorem aDz {op:CmpOp} {r:R2} (ho:OpR X (compareOp op) r) (ha:PE X a ta) (hb:PE X b tb) (hm:behindInMarks op b=false):PT X (.Compare a [op] [b] pos) (aKs (tOp r ta tb)):=by
 intro pins s σ H Q I h;refine wpAny_isTrue_Compare1 (thn (ha pins s σ H _ I h) fun v s1 ⟨x,H1,I1,r1,q1⟩=>thn (hb pins s1 σ H1 _ I1 q1) fun u s2 ⟨y,H2,I2,r2,q2⟩=>
  thn (ho pins s2 σ H2 x y v u _ I2 r1 r2 q2) fun c s3 ⟨z,H3,I3,r3,k,e,q3⟩=>?_) hm
 subst e;cases r3;exact wpAny_truthy_bool ⟨H3,I3,q3⟩
def aKt (K:PySem.W.Frag) (x:V) (H:Hp) (k:Bool):Prop:=
 match x with
 | .non=>k=false
 | .bl b=>k=b
 | .int i=>k=(i != 0)
 | .str y=>y.length<=sizeLine/\k=((y.length:Int) != 0)
 | .byt y=>y.size<=sizeLine/\k=((y.size:Int) != 0)
 | .ref p=>(∃xs,SqL K H p xs/\k=!xs.isEmpty)\/(∃xs,SqT K H p xs/\k=!xs.isEmpty)\/∃kvs,H p=some (.dK kvs)/\k=!kvs.isEmpty
 | _=>False
theorem T6 {κ:Type} {kvs:List (κ×V)} {vs:List (κ×Value)} (r:KV kvs vs):(!vs.isEmpty)=!kvs.isEmpty:=by
 cases r <;> rfl
theorem BX {xs:List V} {its:List Value} (r:Vals xs its):(!its.toArray.isEmpty)=!xs.isEmpty:=by
 cases r <;> simp
theorem xO:(sizeLine:Nat)<2 ^ 63:=by rw [sizeLine_eq];decide
theorem aHa:aMr X (fun x H Q=>∃k,aKt X.K x H k/\Q k H):=by
 intro pins s σ H x v Q I rx h;obtain ⟨k,e,q⟩:=h;have hl:=xO;have hs:sizeLine=16777216:=sizeLine_eq;cases x with
 | non=>
  cases rx;have e':k=false:=e;subst e';exact truthy_none ⟨H,I,q⟩
 | bl b=>
  cases rx;have e':k=b:=e;subst e';exact wpAny_truthy_bool ⟨H,I,q⟩
 | int i=>
  obtain ⟨t,rfl⟩:=rx;have e':k=(i != 0):=e;subst e';exact PySem.P.truthy_int ⟨H,I,q⟩
 | str y=>
  obtain ⟨t,rfl⟩:=rx;obtain ⟨hy,e'⟩:y.length<=sizeLine/\k=((y.length:Int) != 0):=e;subst e';exact PySem.P.truthy_str (by lia) ⟨H,I.tok _,q⟩
 | byt y=>
  obtain ⟨t,rfl⟩:=rx;obtain ⟨hy,e'⟩:y.size<=sizeLine/\k=((y.size:Int) != 0):=e;subst e';exact PySem.W.truthy_bytes (by lia) ⟨H,I.tok _,q⟩
 | ref p=>
  cases rx;have e':(∃xs,SqL X.K H p xs/\k=!xs.isEmpty)\/(∃xs,SqT X.K H p xs/\k=!xs.isEmpty)\/∃kvs,H p=some (.dK kvs)/\k=!kvs.isEmpty:=e;rcases e' with ⟨xs,hx,e'⟩|⟨xs,hx,e'⟩|⟨kvs,hx,e'⟩
  ·subst e';obtain ⟨its,r,pl,hz⟩:=I.list hx;have hlen:=r.length;exact wpAny_truthy_list pl.isList (by simp only [List.size_toArray];lia) ⟨H,I.tok _,by rw [BX r];exact q⟩
  ·subst e';obtain ⟨its,r,pl,hz⟩:=I.tuple hx;have hlen:=r.length;exact truthy_tuple pl (by simp only [List.size_toArray];lia) ⟨H,I.tok _,by rw [BX r];exact q⟩
  ·subst e';obtain ⟨hz,hS,vs,r,m⟩:kvs.length<=sizeLine/\(p==sysModules)=false/\∃vs,KV kvs vs/\s.heap.DictOf (bT X.prog X.w) p vs:=I.hok p _ hx;have hlen:kvs.length=vs.length:=Paired.length r;exact wpAny_truthy_dict hS m (by lia) ⟨H,I.tok _,by rw [T6 r];exact q⟩
 | _=>exact (show False from e).elim
theorem aAj (ha:PE X a ta) (he:∀whole,isTrue a X.env whole=(do let v <- whole;standAt a.pos;holding [v] (truthy v))) :
  PT X a (fun σ H Q=>ta σ H fun x H'=>∃k,aKt X.K x H' k/\Q k H'):=by
 intro pins s σ H Q I h;exact isTrue_plain (thn (ha pins s σ H _ I h) fun v s1 ⟨x,H1,I1,r1,q1⟩=>aHa pins s1 σ H1 x v Q I1 r1 q1) (he _)
theorem T7:OpR X (binaryOp .Add) (fun x y H Q=>∃i j,x=.str i/\y=.str j/\i.length+j.length<=sizeLine/\Q (.str (i++j)) H):=by
 intro pins s σ H x y v u Q I rx ry h;obtain ⟨i,j,rfl,rfl,hz,q⟩:=h;obtain ⟨t,rfl⟩:=rx;obtain ⟨t',rfl⟩:=ry;exact add_str (fun t' tk=>⟨.str (i++j),H,I.tok _,⟨_,rfl⟩,q⟩) hz
theorem vals1 {x:V} {us:List Value} (r:Vals [x] us):∃u,us=[u]/\RelV x u:=by
 cases r with
 | cons r1 r2=>cases r2;exact ⟨_,rfl,r1⟩
end
structure aE0 (h:Heap) (x dx C:Addr) (mA:Str->Option Value):Prop where
 obj:h.get? x=some (PySem.W.instObj C dx)
 ns:h.Ns1 dx mA
 ne:dx≠x
theorem HY {h:Heap} {dx:Addr} {mA:Str->Option Value} (n:h.Ns1 dx mA):∃od,h.get? dx=some od/\∀name,PySem.W.lookIn name od=some (mA name):=by
 obtain ⟨o,es,ep,ho,hd,hk,_,hm⟩:=n;refine ⟨o,ho,fun name=>?_⟩;have e:=hm name;unfold nsFind findBy at e;rw [<-Array.find?_toList] at e;unfold PySem.W.lookIn;rw [hd];dsimp only;split
 ·rename_i y q;rw [q] at e;exact congrArg some e
 ·rename_i q;rw [q] at e;have a:es.toList.any (·.refKey)=false:=by
   rw [List.any_eq_false];intro y hy;obtain ⟨z,t,hkey⟩:=hk y (Array.mem_toList_iff.mp hy);simp [DictEntry.refKey,hkey]
  have a':¬es.toList.any (·.refKey)=true:=by rw [a];exact Bool.false_ne_true
  rw [if_neg a'];exact congrArg some e
theorem aE0.look {h:Heap} {x dx C:Addr} {mA:Str->Option Value} (I:aE0 h x dx C mA):∃od,PySem.W.InstAt h x (PySem.W.instObj C dx) C (some od)/\∀name,PySem.W.lookIn name od=some (mA name):=
 let ⟨od,ho,hl⟩:=HY I.ns
 ⟨od,⟨I.obj,rfl,rfl,ho⟩,hl⟩
section
variable {prog:Program} {w:World} {A:Around} {E:Value->Shared->Prop} {s:Shared} {K:PySem.W.Frag} {x dx C f:Addr} {mA:Str->Option Value} {name:Str} {v:Value}
theorem aE1 {expr:Bool} {Q:Value->Shared->Prop} (X:K.In s.heap) (I:aE0 s.heap x dx C mA) (hg:PySem.W.plainGet K C name=true) (hh:PySem.W.hasDictIn K C=true)
  (ha:PySem.W.findIn K (.ref C) name=some none) (hv:mA name=some v) (hv':PySem.W.handedIn v=true) (h:Q v {s with toks:=s.toks+1}) :
  wpAny (model prog w) A (getAttr (.ref x) name expr) Q E s:=by
 obtain ⟨od,J,hl⟩:=I.look;exact PySem.W.get_value X J (PySem.W.plainGet_of hg).1 (PySem.W.findObj_own hh ha rfl (by rw [hl,hv])) hv' h
theorem aAk {pl:Sem Bool} {Q:Value×List Value->Shared->Prop} (X:K.In s.heap) (I:aE0 s.heap x dx C mA) (hg:PySem.W.plainGet K C name=true)
  (hf:PySem.W.findIn K (.ref C) name=some (some (.ref f))) (ht:PySem.W.isFn K (.ref f)=true) (hv:mA name=none) (h:Q (.ref f,[.ref x]) s) :
  wpAny (model prog w) A (getMethod (.ref x) name pl) Q E s:=by
 obtain ⟨od,J,hl⟩:=I.look;exact PySem.W.method_fn X J (PySem.W.plainGet_of hg).1 (PySem.W.plainGet_of hg).2 hf (beq_iff_eq.mp ht) (by show (PySem.W.lookIn name od).map (·.isSome)=some false;rw [hl,hv];rfl) h
theorem aE2 {ns:List Str} {Q:Unit->Shared->Prop} (X:K.In s.heap) (I:aE0 s.heap x dx C mA)
  (hs:PySem.W.findIn K (.ref C) "__setattr__" = some (some (.builtin "object.__setattr__"))) (hp:PySem.W.plainOver K C=true) (ht:PySem.W.takerIn K C name=some none) (hh:PySem.W.hasDictIn K C=true)
  (hw:PySem.Within mA ns) (hsz:ns.length<=sizeLine)
  (h:∀h',aE0 h' x dx C (fun y=>if y=name then some v else mA y)->Heap.SameBut dx s.heap h'->Q () {s with heap:=h',toks:=s.toks+2}) :
  wpAny (model prog w) A (setAttr (.ref x) name v) Q E s:=by
 obtain ⟨od,J,hl⟩:=I.look;refine PySem.W.set_plain X J hs (PySem.W.osa_open (s:={s with toks:=s.toks+1}) (r:=none) X J hp ht fun b=>?_);obtain ⟨cd,hc,hd'⟩:=PySem.W.any_some hh;have hx:s.heap.get? x=some ⟨.ref C,some dx,.plain,#[]⟩:=I.obj;refine wpAny_bind (wpAny_pure (wpAny_bind (wpAny_bind (wpAny_loadPart hx (wpAny_bind (PySem.W.Looks.here (s:={s with toks:=s.toks+1}) (PySem.W.looks_clsIn X hc) ?_))))));rw [hd'];refine wpAny_pure (a:=some dx) (wpAny_bind (wpAny_pure (wpAny_bind ?_)));refine wpAny_nsSet1 (s:={s with toks:=s.toks+1}) I.ns fun h' hn2 hs2=>?_
 obtain ⟨oD,esD,epD,hoD,hdD,hcD⟩:=hn2.count (PySem.Within.cons name v hw);refine wpAny_bind (wpAny_lookBehind hoD (by rw [hdD];exact pastItsLine_dict (Nat.le_trans hcD (by rw [List.length_cons];lia))) ?_);exact wpAny_pure (h _ ⟨(hs2.2 _ (Ne.symm I.ne)).trans I.obj,hn2,I.ne⟩ hs2)
theorem aAl {R:Result->Shared->Prop} {vs:List Value} {kw:List (Str×Value)} (X:K.In s.heap) (hm:PySem.W.makesIn K C=true)
  (hi:PySem.W.findIn K (.ref C) "__init__" = some (some (.ref f))) (hf:PySem.W.typeIn K (.ref f)=some (.type "function"))
  (h:codeAny (model prog w) (A.under (.builtin "type.__call__" ⟨.ref C::vs,kw⟩)) (.call (.ref f) ⟨.ref (s.heap.objs.size+1)::vs,kw⟩) (PySem.W.InitBack (s.heap.objs.size+1) R)
   {s with heap:=(s.heap.push PySem.W.emptyDict).push (PySem.W.instObj C s.heap.objs.size)}) :
  codeAny (model prog w) A (.call (.ref C) ⟨vs,kw⟩) R s:=by
 obtain ⟨hh,g,d,t,os⟩:=s;exact PySem.W.make_core (PySem.W.makes_of X hm) (PySem.W.looks_findIn X hi) (fun self=>PySem.W.bind_fn X self hf) (.inl rfl) h
end
noncomputable def BZ (f:Str) (v:V):List (Str×V)->List (Str×V)
 | []=>[(f,v)]
 | (g,x)::r=>if g=f then (g,v)::r else (g,x)::BZ f v r
theorem xP (f g:Str) (v:V):∀fs:List (Str×V),(BZ f v fs).lookup g=if g=f then some v else fs.lookup g
 | []=>by
  show List.lookup g [(f,v)]=_;by_cases h:g=f
  ·have hb:(g==f)=true:=beq_iff_eq.mpr h;simp only [List.lookup,hb,if_pos h]
  ·have hb:(g==f)=false:=beq_eq_false_iff_ne.mpr h;simp only [List.lookup,hb,if_neg h]
 | (k,x)::r=>by
  have ih:=xP f g v r;rw [show BZ f v ((k,x)::r)=(if k=f then (k,v)::r else (k,x)::BZ f v r) from rfl];by_cases hk:k=f
  ·rw [if_pos hk];by_cases h:g=k
   ·have hb:(g==k)=true:=beq_iff_eq.mpr h;simp only [List.lookup,hb,if_pos (h.trans hk)]
   ·have hb:(g==k)=false:=beq_eq_false_iff_ne.mpr h;simp only [List.lookup,hb,if_neg (fun e:g=f=>h (e.trans hk.symm))]
  ·rw [if_neg hk];by_cases h:g=k
   ·have hb:(g==k)=true:=beq_iff_eq.mpr h;simp only [List.lookup,hb,if_neg (fun e:g=f=>hk (h.symm.trans e))]
   ·have hb:(g==k)=false:=beq_eq_false_iff_ne.mpr h;simp only [List.lookup,hb];exact ih
theorem xQ (f:Str) (v:V):∀fs:List (Str×V),f∈(BZ f v fs).map (·.1)/\∀g,g∈fs.map (·.1)->g∈(BZ f v fs).map (·.1)
 | []=>⟨by simp [BZ],fun g h=>by simp at h⟩
 | (k,x)::r=>by
  obtain ⟨i1,i2⟩:=xQ f v r;rw [show BZ f v ((k,x)::r)=(if k=f then (k,v)::r else (k,x)::BZ f v r) from rfl];by_cases hk:k=f
  ·rw [if_pos hk];subst hk;exact ⟨by simp,fun g h=>by simpa using h⟩
  ·rw [if_neg hk];refine ⟨?_,fun g h=>?_⟩
   ·rw [List.map_cons];exact List.mem_cons_of_mem _ i1
   ·rw [List.map_cons] at h ⊢;rcases List.mem_cons.mp h with e|e
    ·exact List.mem_cons.mpr (.inl e)
    ·exact List.mem_cons_of_mem _ (i2 g e)
theorem xR (f:Str) (v:V):∀fs:List (Str×V),(BZ f v fs).length<=fs.length+1
 | []=>by simp [BZ]
 | (k,x)::r=>by
  have ih:=xR f v r;rw [show BZ f v ((k,x)::r)=(if k=f then (k,v)::r else (k,x)::BZ f v r) from rfl];by_cases hk:k=f
  ·rw [if_pos hk,List.length_cons,List.length_cons];lia
  ·rw [if_neg hk,List.length_cons,List.length_cons];lia
theorem L_.some_of {v:V} {o:Option Value} (r:L_ (some v) o):∃u,o=some u/\RelV v u:=by
 cases o with
 | none=>exact (show False from r).elim
 | some u=>exact ⟨u,rfl,r⟩
theorem L_.none_of {o:Option Value} (r:L_ none o):o=none:=by
 cases o with
 | none=>rfl
 | some u=>exact (show False from r).elim
theorem W0 {v:V} {u:Value} (r:RelV v u):PySem.W.handedIn u=true:=by
 cases v with
 | non=>cases (show u=Value.none from r);rfl
 | bl b=>cases (show u=Value.bool b from r);rfl
 | int i=>obtain ⟨t,e⟩:=(show ∃t,u=Value.int i t from r);cases e;rfl
 | str x=>obtain ⟨t,e⟩:=(show ∃t,u=Value.str x t from r);cases e;rfl
 | byt b=>obtain ⟨t,e⟩:=(show ∃t,u=Value.bytes b t from r);cases e;rfl
 | flt b=>obtain ⟨t,e⟩:=(show ∃t,u=Value.float b t from r);cases e;rfl
 | ref a=>cases (show u=Value.ref a from r);rfl
 | ty n=>cases (show u=Value.type n from r);rfl
section
variable {P:Program} {w:World} {H:Hp} {h:Heap} {a C dx:Addr} {fs:List (Str×V)}
theorem DG (hok:HOk P w H h) (e:H a=some (.ins C dx fs)):∃mA,aE0 h a dx C mA/\(∀f,L_ (fs.lookup f) (mA f))/\PySem.Within mA (fs.map (·.1))/\fs.length<=1000/\H dx=some (.own a):=by
 obtain ⟨d,z,ne,ob,mA,n,r,q⟩:=(show fD P w H h a (.ins C dx fs) from hok a _ e)
 exact ⟨mA,⟨ob,n,ne⟩,r,q,z,d⟩
end
structure Cls (K:PySem.W.Frag) (C:Addr):Prop where
 pg:PySem.W.plainGet K C Str.empty=true
 hd:PySem.W.hasDictIn K C=true
 po:PySem.W.plainOver K C=true
 sa:PySem.W.findIn K (.ref C) "__setattr__" = some (some (.builtin "object.__setattr__"))
theorem Cls.get {K:PySem.W.Frag} {C:Addr} (c:Cls K C) (f:Str):PySem.W.plainGet K C f=true:=c.pg
def lL (K:PySem.W.Frag) (C:Addr) (f:Str):Prop:=PySem.W.findIn K (.ref C) f=some none
theorem lL.taker {K:PySem.W.Frag} {C:Addr} {f:Str} (n:lL K C f):PySem.W.takerIn K C f=some none:=by
 unfold PySem.W.takerIn;rw [show PySem.W.findIn K (.ref C) f=some none from n];rfl
structure Meth (K:PySem.W.Frag) (C:Addr) (m:Str) (f:Addr):Prop where
 at_:PySem.W.findIn K (.ref C) m=some (some (.ref f))
 fn:PySem.W.isFn K (.ref f)=true
 kp:PySem.W.keepIn K (.ref f)=true
section
variable {X:Cx} {pins:List (Addr×Obj)} {σ:St} {H:Hp} {s:Shared} {a C dx:Addr} {fs:List (Str×V)} {f:Str} {v:V} {A:Around} {E:Value->Shared->Prop}
theorem T8 {b:Bool} {Q:Value->Shared->Prop} (I:Inv X pins σ H s) (e:H a=some (.ins C dx fs)) (c:Cls X.K C) (n:lL X.K C f) (l:fs.lookup f=some v)
  (h:∀u s',Inv X pins σ H s'->RelV v u->Q u s'):wpAny (model X.prog X.w) A (getAttr (.ref a) f b) Q E s:=by
 obtain ⟨mA,O,r,_,_,_⟩:=DG I.hok e;obtain ⟨u,hu,ru⟩:=L_.some_of (v:=v) (o:=mA f) (by rw [<-l];exact r f);exact aE1 I.kIn O (c.get f) c.hd n hu (W0 ru) (h u _ (I.tok _) ru)
theorem B_ {m:Str} {g:Addr} {pl:Sem Bool} {Q:Value×List Value->Shared->Prop} (I:Inv X pins σ H s) (e:H a=some (.ins C dx fs)) (c:Cls X.K C) (k:Meth X.K C m g) (l:fs.lookup m=none)
  (h:Q (.ref g,[.ref a]) s):wpAny (model X.prog X.w) A (getMethod (.ref a) m pl) Q E s:=by
 obtain ⟨mA,O,r,_,_,_⟩:=DG I.hok e;have hn:mA m=none:=L_.none_of (by rw [<-l];exact r m);exact aAk I.kIn O (c.get m) k.at_ k.fn hn h
theorem T9 {y:V} {u:Value} {Q:Unit->Shared->Prop} (I:Inv X pins σ H s) (e:H a=some (.ins C dx fs)) (c:Cls X.K C) (n:lL X.K C f) (hl:fs.length<1000) (ry:RelV y u)
  (h:∀s',Inv X pins σ (upd H a (.ins C dx (BZ f y fs))) s'->Q () s'):wpAny (model X.prog X.w) A (setAttr (.ref a) f u) Q E s:=by
 obtain ⟨mA,O,r,wi,_,ho⟩:=DG I.hok e;have hz:(fs.map (·.1)).length<=sizeLine:=by rw [List.length_map,sizeLine_eq];lia
 refine aE2 I.kIn O c.sa c.po n.taker c.hd wi hz fun h' O' sb=>h _ ?_
 have hd:∃o,h'.get? dx=some o:=let ⟨o,_,_,e',_⟩:=O'.ns;⟨o,e'⟩
 refine I.write (x:=a) (e:=dx) (by rw [e];exact True.intro) (.inr ho) (fun b q hb z=>(sb.2 b hb).trans z) hd ?_;refine ⟨by rw [aR O.ne];exact ho,?_,O.ne,O'.obj,_,O'.ns,fun g=>?_,fun g hg=>?_⟩
 ·have:=xR f y fs;lia
 ·show L_ ((BZ f y fs).lookup g) (if g=f then some u else mA g);rw [xP];by_cases q:g=f
  ·rw [if_pos q,if_pos q];exact ry
  ·rw [if_neg q,if_neg q];exact r g
 ·by_cases q:g=f
  ·rw [q];exact (xQ f y fs).1
  ·refine (xQ f y fs).2 g (wi g fun z=>hg ?_);show (if g=f then some u else mA g)=none;rw [if_neg q];exact z
theorem Inv.made (I:Inv X pins σ H s):Inv X pins σ (upd (upd H s.heap.objs.size (.own (s.heap.objs.size+1))) (s.heap.objs.size+1) (.ins C s.heap.objs.size []))
  {s with heap:=(s.heap.push PySem.W.emptyDict).push (PySem.W.instObj C s.heap.objs.size)}:=by
 have e1:(s.heap.push PySem.W.emptyDict).get? s.heap.objs.size=some PySem.W.emptyDict:=Heap.get?_push_size s.heap rfl;have e2:((s.heap.push PySem.W.emptyDict).push (PySem.W.instObj C s.heap.objs.size)).get? (s.heap.objs.size+1)=some (PySem.W.instObj C s.heap.objs.size):=by
  have:=Heap.get?_push_size (s.heap.push PySem.W.emptyDict) (o:=PySem.W.instObj C s.heap.objs.size) rfl;rwa [Heap.size_push] at this
 have e3:(s.heap.push PySem.W.emptyDict).Ns s.heap.objs.size (fun _=>none):=⟨PySem.W.emptyDict,#[],_,e1,rfl,(fun e he=>absurd he (by simp)),fun _=>rfl⟩
 have I1:=I.laid (a:=s.heap.objs.size) (o:=.own (s.heap.objs.size+1)) (h':=s.heap.push PySem.W.emptyDict) (t':=s.toks) (fun b u q=>Heap.get?_push_of_some _ q) (Nat.le_refl _) ⟨_,e1⟩;refine I1.laid (a:=s.heap.objs.size+1) (o:=.ins C s.heap.objs.size []) (t':=s.toks) (fun b u q=>Heap.get?_push_of_some _ q) (Nat.le_of_eq (Heap.size_push _ _)) ?_;have ne:s.heap.objs.size≠s.heap.objs.size+1:=Nat.ne_of_lt (Nat.lt_succ_self _);refine ⟨by rw [aR ne,aG],Nat.zero_le _,ne,e2,fun _=>none,(Heap.Ns1.of_empty e3).at fun o q=>Heap.get?_push_of_some _ q,fun _=>True.intro,fun y hy=>absurd rfl hy⟩
theorem W2 {prog:Program} {w:World} {env:Env} {e:Expr} {f:Str} {pos:Pos} {s:Shared} {Q:Value->Shared->Prop} (hb:attributeBase e f env (eval e env)=eval e env)
  (h:wpAny (model prog w) A (eval e env) (fun o s₁=>wpAny (model prog w) A (getAttr o f true) Q E s₁) E s):wpAny (model prog w) A (eval (.Attribute e f pos) env) Q E s:=
 Attribute_any_ h (by rw [arm_eval_Attribute,hb])
end
noncomputable def aMt (K:PySem.W.Frag) (ta:TE) (f:Str):TE:=fun σ H Q=>ta σ H fun x H1=>∃a C dx fs v,x=.ref a/\H1 a=some (.ins C dx fs)/\Cls K C/\lL K C f/\fs.lookup f=some v/\Q v H1
def aM3 (K:PySem.W.Frag) (ta tv:TE) (f:Str):TS:=fun D σ H=>tv σ H fun y H1=>ta σ H1 fun x H2=>∃a C dx fs,x=.ref a/\H2 a=some (.ins C dx fs)/\Cls K C/\lL K C f/\fs.length<1000/\
 D.nx σ (upd H2 a (.ins C dx (BZ f y fs)))
section
variable {X:Cx} {o e value:Expr} {f:Str} {pos pos':Pos} {ta tv:TE}
theorem aHb (he:PE X e ta) (hb:attributeBase e f X.env (eval e X.env)=eval e X.env):PE X (.Attribute e f pos) (aMt X.K ta f):=by
 intro pins s σ H Q I h;refine W2 hb (thn (he pins s σ H _ I h) fun u s1 ⟨x,H1,I1,rx,a,C,dx,fs,v,ex,ea,c,n,l,q⟩=>?_);subst ex;obtain rfl:u=Value.ref a:=rx;exact T8 I1 ea c n l fun u' s2 I2 ru=>⟨v,H1,I2,ru,q⟩
theorem aCt (ha:PE X o ta) (hv:PE X value tv) (hs:swapsWith value (some (.Attribute o f pos')) pos.line X.env=pure false):PS X (.Assign [.Attribute o f pos'] value pos) (aM3 X.K ta tv f):=by
 intro pins s σ H D I h;refine plainObj_wpAny_Assign_Attribute (thn (hv pins s σ H _ I h) fun u s1 ⟨y,H1,I1,ry,q⟩=>thn (ha pins s1 σ H1 _ I1 q) fun ov s2 ⟨x,H2,I2,rx,a,C,dx,fs,ex,ea,c,n,l,q2⟩=>?_) hs;subst ex;obtain rfl:ov=Value.ref a:=rx;exact T9 I2 ea c n l ry fun s3 I3=>⟨σ,_,I3,q2⟩
end
structure iI (k:Nat) (A:Around):Prop where
 hd:A.handled=none
 dp:A.depth+3*k+5<recursionLimit
 un:A.units+16*k+200<cLine
theorem iI.mono {j k:Nat} {A:Around} (r:iI k A) (h:j<=k):iI j A:=⟨r.hd,by have:=r.dp;lia,by have:=r.un;lia⟩
theorem iI.deeper {k:Nat} {A:Around} (r:iI (k+1) A) (env:Env):iI k (A.deeper env):=
 ⟨r.hd,by have:=r.dp;show A.depth+1+3*k+5<_;lia,by have:=r.un;show A.units+3+16*k+200<_;lia⟩
theorem T_ {A:Around} {C:Addr} {us:List Value} {kw:List (Str×Value)}:(A.under (.builtin "type.__call__" ⟨.ref C::us,kw⟩)).depth=A.depth+1:=by
 first|rfl|simp [Around.under,Code.weight,Code.isCreation,Code.isGuard,Code.isCaller,Code.frames,Code.isFrame,guardIds]
theorem UG {A:Around} {C:Addr} {us:List Value} {kw:List (Str×Value)}:(A.under (.builtin "type.__call__" ⟨.ref C::us,kw⟩)).units=A.units+1:=by
 first|rfl|simp [Around.under,Code.cUnits,Code.frames,Code.isFrame]
theorem iI.make {k:Nat} {A:Around} (r:iI (k+1) A) (C:Addr) (us:List Value) (kw:List (Str×Value)):iI k (A.under (.builtin "type.__call__" ⟨.ref C::us,kw⟩)):=
 ⟨r.hd,by have:=r.dp;rw [T_];lia,by have:=r.un;rw [UG];lia⟩
theorem iI.depth {k:Nat} {A:Around} (r:iI k A):A.depth<recursionLimit:=by have:=r.dp;lia
theorem iI.units {k:Nat} {A:Around} (r:iI k A):A.units+64<cLine:=by have:=r.un;lia
noncomputable def aHc:TA:=fun _ H Q=>Q [] H
noncomputable def UJ (ta:TE) (tr:TA):TA:=fun σ H Q=>ta σ H fun x H1=>tr σ H1 fun xs H2=>Q (x::xs) H2
section
variable {X:Cx} {e:Expr} {es:List Expr} {te:TE} {t:TA} {pos:Pos}
theorem lD:PA X [] aHc:=fun _ _ _ _ H Q I h=>Calls.spliced_nil ⟨[],H,I,.nil,h⟩
theorem cA (ha:PE X e te) (hr:PA X es t) (hs:starEach (e::es) X.env=(false,eval e X.env)::starEach es X.env:=by rfl):PA X (e::es) (UJ te t):=by
 intro pos pins s σ H Q I h;rw [hs];show wpAny _ _ (spliced ((false,eval e X.env)::backTo pos (starEach es X.env))) _ _ s;refine Calls.spliced_cons (thn (ha pins s σ H _ I h) fun u s1 ⟨x,H1,I1,r1,q1⟩=>?_);exact thn (hr pos pins s1 σ H1 _ I1 q1) fun us s2 ⟨xs,H2,I2,r2,q2⟩=>⟨x::xs,H2,I2,.cons r1 r2,q2⟩
def aMu (t:TA):TE:=fun σ H Q=>t σ H fun xs H1=>xs.length<=sizeLine/\∀p,H1 p=none->Q (.ref p) (upd H1 p (.tup xs))
def aMv (t:TA):TE:=fun σ H Q=>t σ H fun xs H1=>xs.length<=sizeLine/\∀p,H1 p=none->Q (.ref p) (upd H1 p (.lst xs))
theorem aHd {x1} (h:PA X es t):PE X (.Tuple es x1 pos) (aMu t):=by
 intro pins s σ H Q I hq;refine wpAny_Tuple_spliced (thn (h pos pins s σ H _ I hq) fun us s1 ⟨xs,H1,I1,r,z,q⟩=>⟨by rw [<-r.length];exact z,?_⟩);have hf:H1 s1.heap.objs.size=none:=I1.hok.fresh (Nat.le_refl _);refine ⟨.ref s1.heap.objs.size,upd H1 s1.heap.objs.size (.tup xs),I1.laid (t':=s1.toks) (fun b u e=>Heap.get?_push_of_some _ e) (Nat.le_refl _) ?_,rfl,q _ hf⟩;exact ⟨z,us,r,⟨_,Heap.get?_push_size _ rfl,rfl,_,rfl⟩⟩
theorem aHe (h:PA X es t):PE X (.List es pos) (aMv t):=by
 intro pins s σ H Q I hq;refine wpAny_List_spliced (thn (h pos pins s σ H _ I hq) fun us s1 ⟨xs,H1,I1,r,z,q⟩=>⟨by rw [<-r.length];exact z,?_⟩);have hf:H1 s1.heap.objs.size=none:=I1.hok.fresh (Nat.le_refl _);refine ⟨.ref s1.heap.objs.size,upd H1 s1.heap.objs.size (.lst xs),I1.laid (t':=s1.toks) (fun b u e=>Heap.get?_push_of_some _ e) (Nat.le_refl _) ?_,rfl,q _ hf⟩;exact ⟨z,us,0,r,Heap.get?_push_size _ rfl⟩
end
abbrev Sp:=List V->Hp->VK->XK->Prop
abbrev CXT:=List Env->Hp->Shared->XK->Value->Shared->Prop
structure aE3 (P:Program) (w:World) (K:PySem.W.Frag) (mg:Str->Option Value) (base:Heap) (A:Around) (outer:List Env) (s:Shared) (H:Hp):Prop where
 frames:A.frames=some outer
 mod:Mod K mg base
 bs:∀b o,base.get? b=some o->s.heap.get? b=some o/\H b=none
 bsz:base.objs.size<=s.heap.objs.size
 T3:s.heap.FunFrames base outer
 frf:∀b∈frs outer,H b=none
 hok:HOk P w H s.heap
 bare:AllBare s.gens
def CE (outer:List Env) (P:Program) (w:World) (H:Hp) (s:Shared) (Q:VK) (u:Value) (s':Shared):Prop:=
 ∃v H',s'.os=s.os/\AllBare s'.gens/\Un (frs outer) [] H H' s.heap s'.heap/\HOk P w H' s'.heap/\RelV v u/\Q v H'
def CR (CX:CXT) (outer:List Env) (P:Program) (w:World) (H:Hp) (s:Shared) (Q:VK) (E:XK) (r:Result) (s':Shared):Prop:=
 match r with
 | .ok (.ret u)=>CE outer P w H s Q u s'
 | .ok _=>False
 | .error e=>CX outer H s E e s'
structure jQ (P:Program) (w:World) (K:PySem.W.Frag) (mg:Str->Option Value) (base:Heap) (CX:CXT) (k:Nat) (f:Addr) (fd:FuncData) (ps:List Str) (sp:Sp):Prop where
 len:∀vs H Q E,sp vs H Q E->vs.length=ps.length
 run:∀(A:Around) (outer:List Env) (s:Shared) (H:Hp) (args:Args) (us:List Value) (vs:List V) (Q:VK) (E:XK),iI k A->aE3 P w K mg base A outer s H->BindsTo s fd args (ps.zip us)->Vals vs us->sp vs H Q E->
  codeAny (model P w) A (.call (.ref f) args) (CR CX outer P w H s Q E) s
theorem aE3.make {P:Program} {w:World} {K:PySem.W.Frag} {mg:Str->Option Value} {base:Heap} {A:Around} {outer:List Env} {s:Shared} {H:Hp} (e:aE3 P w K mg base A outer s H) (C:Addr) (us:List Value) (kw:List (Str×Value)) :
  aE3 P w K mg base (A.under (.builtin "type.__call__" ⟨.ref C::us,kw⟩)) outer s H:=⟨by first|exact e.frames|(simpa [Around.under,Code.envs,Code.isFrame,pushEnvs] using e.frames),e.mod,e.bs,e.bsz,e.T3,e.frf,e.hok,e.bare⟩
section
variable {X:Cx} {pins:List (Addr×Obj)} {σ:St} {H:Hp} {s s':Shared}
theorem Inv.env0 (I:Inv X pins σ H s):aE3 X.prog X.w X.K X.mg X.base X.A X.stack s H:=
 ⟨I.ok.frames,I.ok.mod,I.bs,Nat.le_trans I.ok.bsz I.sz,I.stack,I.M7,I.hok,I.bare⟩
theorem Inv.after {Q:VK} {u:Value} (I:Inv X pins σ H s) (h:CE X.stack X.prog X.w H s Q u s'):EP X pins σ Q u s':=by
 obtain ⟨v,H',os,bare,un,hok,r,q⟩:=h;obtain ⟨hh,g,d,t,os'⟩:=s';obtain rfl:os'=s.os:=os;exact ⟨v,H',I.call (h':=hh) (g':=g) (d':=d) (t':=t) (ch:=[]) un hok bare (fun b z=>absurd z (by simp)),r,q⟩
end
noncomputable def aE4 (sp:Sp) (dvs:List V) (E:XK) (t:TA):TE:=fun σ H Q=>t σ H fun vs H1=>sp (vs++dvs) H1 Q E
noncomputable def aHf (C:Addr) (m:Str) (sp:Sp) (dvs:List V) (E:XK) (ta:TE) (t:TA):TE:=fun σ H Q=>ta σ H fun x H1=>∃a dx fs,x=.ref a/\H1 a=some (.ins C dx fs)/\fs.lookup m=none/\
 t σ H1 fun vs H2=>sp (x::(vs++dvs)) H2 Q E
def aHg (C:Addr) (sp:Sp) (dvs:List V) (E:XK) (t:TA):TE:=fun σ H Q=>t σ H fun vs H1=>∀x dx,H1 x=none->H1 dx=none->dx≠x->
 sp (.ref x::(vs++dvs)) (upd (upd H1 dx (.own x)) x (.ins C dx [])) (fun v H2=>v=.non/\Q (.ref x) H2) E
def Binds (K:PySem.W.Frag) (fd:FuncData) (ps:List Str) (ds:List Value):Prop:=
 ∀(s:Shared) (us:List Value),K.In s.heap->(us++ds).length=ps.length->BindsTo s fd ⟨us,[]⟩ (ps.zip (us++ds))
theorem Binds.all {K:PySem.W.Frag} {fd:FuncData} {ps:List Str} (h:∀us:List Value,us.length=ps.length->bindArgs fd ⟨us,[]⟩=pure (ps.zip us)):Binds K fd ps []:=fun s us _ hl=>by
 rw [List.append_nil] at hl ⊢;exact .of_eq (h us hl)
def oJ (CX:CXT) (X:Cx) (E:XK):Prop:=∀(pins:List (Addr×Obj)) (σ:St) (H:Hp) (s:Shared) (e:Value) (s':Shared),Inv X pins σ H s->CX X.stack H s E e s'->X.xe e s'
section
variable {X:Cx} {CX:CXT} {k:Nat} {f C:Addr} {fd:FuncData} {ps:List Str} {sp:Sp} {dvs:List V} {ds:List Value} {E:XK} {x m:Str} {p pos apos:Pos} {e o:Expr} {es:List Expr} {ta:TE} {t:TA}
theorem QR {pins:List (Addr×Obj)} {σ:St} {H:Hp} {s:Shared} {Q:VK} {us:List Value} {vs:List V} (F:jQ X.prog X.w X.K X.mg X.base CX k f fd ps sp) (hr:iI k X.A) (hb:Binds X.K fd ps ds) (hd:Vals dvs ds) (hx:oJ CX X E)
  (I:Inv X pins σ H s) (r:Vals vs us) (h:sp (vs++dvs) H Q E):wpAny (model X.prog X.w) X.A (call (.ref f) us) (EP X pins σ Q) X.xe s:=by
 have r2:Vals (vs++dvs) (us++ds):=r.append hd;have hl:(us++ds).length=ps.length:=by rw [<-r2.length];exact F.len _ _ _ _ h
 refine wpAny_call (codeAny_mono (F.run X.A X.stack s H ⟨us,[]⟩ (us++ds) (vs++dvs) Q E hr I.env0 (hb s us I.kIn hl) r2 h) fun r s' hq=>?_);cases r with
 | error e=>exact hx pins σ H s e s' I hq
 | ok fl=>
  cases fl with
  | ret u=>exact I.after hq
  | next=>exact False.elim hq
  | brk=>exact False.elim hq
  | cont=>exact False.elim hq
theorem aE5 (F:jQ X.prog X.w X.K X.mg X.base CX k f fd ps sp) (hr:iI k X.A) (hg:Gl X x) (hm:X.mg x=some (.ref f)) (hk:PySem.W.keepIn X.K (.ref f)=true) (hb:Binds X.K fd ps ds) (hd:Vals dvs ds) (hx:oJ CX X E)
  (ha:PA X (e::es) t) (hdb:nDb x:=by decide) (he:starEach (e::es) X.env=(false,eval e X.env)::starEach es X.env:=by rfl) (hpl:(backTo pos (starEach es X.env)).any (·.1)=false:=by rfl) :
  PE X (.Call (.Name x p) (e::es) [] pos) (aE4 sp dvs E t):=by
 intro pins s σ H Q I h;refine wpAny_Call_Name_kw (j_ I hg hm ?_ hdb);refine PySem.W.callWith_K (h₀:=X.base) I.ok.mod.kin hk (thn (ha pos pins s σ H _ I h) fun us s1 ⟨vs,H1,I1,r,q⟩=>⟨I1.kIn,?_⟩) he hpl;exact QR F hr hb hd hx I1 r q
theorem aE6 {pl:Sem Bool} (he:PE X o ta) (c:Cls X.K C) (hm:Meth X.K C m f) (F:jQ X.prog X.w X.K X.mg X.base CX k f fd ps sp) (hr:iI k X.A) (hb:Binds X.K fd ps ds) (hd:Vals dvs ds) (hx:oJ CX X E) (ha:PA X (e::es) t)
  (hst:starEach (e::es) X.env=(false,eval e X.env)::starEach es X.env:=by rfl) (hpl:(backTo pos (starEach es X.env)).any (·.1)=false:=by rfl)
  (ht:eval (.Call (.Attribute o m apos) (e::es) [] pos) X.env=(do
   let ov <- eval o X.env
   standAt apos.atName
   let (f,first) <- holding [ov] (getMethod ov m pl)
   callWith pos f first (backTo pos (starEach (e::es) X.env)) (backToKw pos (keywordEach [] X.env))):=by rfl) :
  PE X (.Call (.Attribute o m apos) (e::es) [] pos) (aHf C m sp dvs E ta t):=by
 intro pins s σ H Q I h;refine PySem.W.methodCall_KW (pl:=pl) (thn (he pins s σ H _ I h) fun u s1 ⟨x,H1,I1,rx,a,dx,fs,ex,ea,l,q⟩=>?_) ht;subst ex;obtain rfl:u=Value.ref a:=rx;refine B_ I1 ea c hm l ?_;refine PySem.W.callWith_K (first:=[.ref a]) (h₀:=X.base) I.ok.mod.kin hm.kp (thn (ha pos pins s1 σ H1 _ I1 q) fun us s2 ⟨vs,H2,I2,r,q2⟩=>⟨I2.kIn,?_⟩) hst hpl;exact QR (us:=.ref a::us) (vs:=.ref a::vs) F hr hb hd hx I2 (.cons rfl r) q2
theorem aAm {pl:Sem Bool} (he:PE X o ta) (c:Cls X.K C) (hm:Meth X.K C m f) (F:jQ X.prog X.w X.K X.mg X.base CX k f fd ps sp) (hr:iI k X.A) (hb:Binds X.K fd ps ds) (hd:Vals dvs ds) (hx:oJ CX X E)
  (ht:eval (.Call (.Attribute o m apos) [] [] pos) X.env=(do
   let ov <- eval o X.env
   standAt apos.atName
   let (f,first) <- holding [ov] (getMethod ov m pl)
   callWith pos f first (backTo pos (starEach [] X.env)) (backToKw pos (keywordEach [] X.env))):=by rfl) :
  PE X (.Call (.Attribute o m apos) [] [] pos) (aHf C m sp dvs E ta aHc):=by
 intro pins s σ H Q I h;refine PySem.W.methodCall_KW (pl:=pl) (thn (he pins s σ H _ I h) fun u s1 ⟨x,H1,I1,rx,a,dx,fs,ex,ea,l,q⟩=>?_) ht;subst ex;obtain rfl:u=Value.ref a:=rx;refine B_ I1 ea c hm l ?_;exact PySem.W.callWith_K0 (first:=[.ref a]) I1.kIn hm.kp (QR (us:=[.ref a]) (vs:=[.ref a]) F hr hb hd hx I1 (.cons rfl .nil) q)
structure Mk (K:PySem.W.Frag) (C f:Addr):Prop where
 makes:PySem.W.makesIn K C=true
 init:PySem.W.findIn K (.ref C) "__init__" = some (some (.ref f))
 fn:PySem.W.isFn K (.ref f)=true
 kp:PySem.W.keepIn K (.ref C)=true
theorem QS {pins:List (Addr×Obj)} {σ:St} {H:Hp} {s:Shared} {Q:VK} {us:List Value} {vs:List V} (M:Mk X.K C f) (F:jQ X.prog X.w X.K X.mg X.base CX k f fd ps sp) (hr:iI (k+1) X.A) (hb:Binds X.K fd ps ds) (hd:Vals dvs ds)
  (hx:oJ CX X E) (I:Inv X pins σ H s) (r:Vals vs us)
  (h:∀x dx,H x=none->H dx=none->dx≠x->sp (.ref x::(vs++dvs)) (upd (upd H dx (.own x)) x (.ins C dx [])) (fun v H2=>v=.non/\Q (.ref x) H2) E) :
  wpAny (model X.prog X.w) X.A (call (.ref C) us) (EP X pins σ Q) X.xe s:=by
 have hq:=h (s.heap.objs.size+1) s.heap.objs.size (I.hok.fresh (Nat.le_succ _)) (I.hok.fresh (Nat.le_refl _)) (Nat.ne_of_lt (Nat.lt_succ_self _));have I2:=Inv.made (C:=C) I;have r2:Vals (V.ref (s.heap.objs.size+1)::(vs++dvs)) (Value.ref (s.heap.objs.size+1)::(us++ds)):=.cons rfl (r.append hd);have hl:(Value.ref (s.heap.objs.size+1)::us++ds).length=ps.length:=by
  have e:=r2.length;rw [F.len _ _ _ _ hq] at e;exact e.symm
 refine wpAny_call (aAl (f:=f) I.kIn M.makes M.init (beq_iff_eq.mp M.fn) (codeAny_mono (F.run _ X.stack _ _ ⟨Value.ref (s.heap.objs.size+1)::us,[]⟩ (Value.ref (s.heap.objs.size+1)::(us++ds)) _ _ E (hr.make C us [])
  (I2.env0.make C us []) (hb _ (Value.ref (s.heap.objs.size+1)::us) I2.kIn hl) r2 hq) fun r s' hq'=>?_))
 cases r with
 | error e=>exact hx pins σ _ _ e s' I2 hq'
 | ok fl=>
  cases fl with
  | ret u=>
   obtain ⟨v,H',I3,rv,ev,q3⟩:=I2.after hq';subst ev;exact ⟨rv,⟨V.ref (s.heap.objs.size+1),H',I3,rfl,q3⟩⟩
  | next=>exact False.elim hq'
  | brk=>exact False.elim hq'
  | cont=>exact False.elim hq'
theorem aE7 (M:Mk X.K C f) (F:jQ X.prog X.w X.K X.mg X.base CX k f fd ps sp) (hr:iI (k+1) X.A) (hg:Gl X x) (hm:X.mg x=some (.ref C)) (hb:Binds X.K fd ps ds) (hd:Vals dvs ds) (hx:oJ CX X E)
  (ha:PA X (e::es) t) (hdb:nDb x:=by decide) (he:starEach (e::es) X.env=(false,eval e X.env)::starEach es X.env:=by rfl) (hpl:(backTo pos (starEach es X.env)).any (·.1)=false:=by rfl) :
  PE X (.Call (.Name x p) (e::es) [] pos) (aHg C sp dvs E t):=by
 intro pins s σ H Q I h;refine wpAny_Call_Name_kw (j_ I hg hm ?_ hdb);refine PySem.W.callWith_K (h₀:=X.base) I.ok.mod.kin M.kp (thn (ha pos pins s σ H _ I h) fun us s1 ⟨vs,H1,I1,r,q⟩=>⟨I1.kIn,?_⟩) he hpl;exact QS M F hr hb hd hx I1 r q
theorem aAn (M:Mk X.K C f) (F:jQ X.prog X.w X.K X.mg X.base CX k f fd ps sp) (hr:iI (k+1) X.A) (hg:Gl X x) (hm:X.mg x=some (.ref C)) (hb:Binds X.K fd ps ds) (hd:Vals dvs ds) (hx:oJ CX X E)
  (hdb:nDb x:=by decide):PE X (.Call (.Name x p) [] [] pos) (aHg C sp dvs E aHc):=by
 intro pins s σ H Q I h;refine wpAny_Call_Name_kw (j_ I hg hm ?_ hdb);exact PySem.W.callWith_K0 I.kIn M.kp (QS (us:=[]) M F hr hb hd hx I .nil h)
end
structure bL (N P:List Str) (sc:Scope):Prop where
 kind:sc.kind=.function
 co:sc.isCoroutine=false
 gen:sc.isGenerator=false
 nd:N.Nodup
 pre:N.take P.length=P
 par:∀x∈P,sc.names.lookup x=some .local\/sc.names.lookup x=some .cell
 nofree:∀y∈sc.names,y.2≠.free
theorem H_ {kindOf:Str->Option NameKind} {x:Str}:∀{binds:List (Str×Value)} {m:Str->Option Value},(∀v,(x,v)∉binds)->bindL kindOf binds m x=m x
 | [],_,_=>rfl
 | (n,v)::r,m,h=>by
  unfold bindL;rw [H_ fun w hw=>h w (List.mem_cons_of_mem _ hw)];split
  ·have:x≠n:=by rintro rfl;exact h v List.mem_cons_self
   simp [this]
  ·rfl
theorem IK {kindOf:Str->Option NameKind} {x:Str}:∀{binds:List (Str×Value)} {m:Str->Option Value},(∀v,(x,v)∉binds)->bindC kindOf binds m x=m x
 | [],_,_=>rfl
 | (n,v)::r,m,h=>by
  unfold bindC;rw [IK fun w hw=>h w (List.mem_cons_of_mem _ hw)];split
  ·rfl
  ·have:x≠n:=by rintro rfl;exact h v List.mem_cons_self
   simp [this]
theorem IV {kindOf:Str->Option NameKind} {x:Str} {v:Value}:∀{P:List Str} {vs:List Value} {i:Nat} {m:Str->Option Value},P.Nodup->P[i]?=some x->vs[i]?=some v->kindOf x=some .local->
  bindL kindOf (P.zip vs) m x=some v
 | [],_,_,_,_,h,_,_=>by simp at h
 | _::_,[],_,_,_,_,h,_=>by simp at h
 | p::P,w::vs,0,m,nd,h1,h2,hk=>by
  simp at h1 h2;subst h1;subst h2;show bindL kindOf ((p,w)::P.zip vs) m p=_;unfold bindL;rw [H_ fun v hv=>(List.nodup_cons.mp nd).1 (List.of_mem_zip hv).1,if_pos hk];simp
 | p::P,w::vs,i+1,m,nd,h1,h2,hk=>by
  show bindL kindOf ((p,w)::P.zip vs) m x=_;unfold bindL;exact IV (i:=i) (List.nodup_cons.mp nd).2 (by simpa using h1) (by simpa using h2) hk
theorem IW {kindOf:Str->Option NameKind} {x:Str} {v:Value}:∀{P:List Str} {vs:List Value} {i:Nat} {m:Str->Option Value},P.Nodup->P[i]?=some x->vs[i]?=some v->kindOf x≠some .local->
  bindC kindOf (P.zip vs) m x=some v
 | [],_,_,_,_,h,_,_=>by simp at h
 | _::_,[],_,_,_,_,h,_=>by simp at h
 | p::P,w::vs,0,m,nd,h1,h2,hk=>by
  simp at h1 h2;subst h1;subst h2;show bindC kindOf ((p,w)::P.zip vs) m p=_;unfold bindC;rw [IK fun v hv=>(List.nodup_cons.mp nd).1 (List.of_mem_zip hv).1,if_neg hk];simp
 | p::P,w::vs,i+1,m,nd,h1,h2,hk=>by
  show bindC kindOf ((p,w)::P.zip vs) m x=_;unfold bindC;exact IW (i:=i) (List.nodup_cons.mp nd).2 (by simpa using h1) (by simpa using h2) hk
noncomputable def start (N:List Str) (vs:List V):St:=vs.map some++List.replicate (N.length-vs.length) none
noncomputable def CG (CX:CXT) (P:Program) (w:World) (K:PySem.W.Frag) (mg:Str->Option Value) (base:Heap) (N:List Str) (qual:Str) (scope:Scope) (f:Addr) (cd:Value) (A:Around) (outer:List Env) (s:Shared) (H:Hp) (E:XK):Cx where
 prog:=P
 w:=w
 K:=K
 mg:=mg
 base:=base
 A:=A.deeper (envOfC qual scope s.heap.objs.size f cd)
 N:=N
 s₀:=s
 H₀:=H
 env:=envOfC qual scope s.heap.objs.size f cd
 outer:=outer
 stack:=envOfC qual scope s.heap.objs.size f cd::outer
 ex:=[]
 calm:=true
 fn:=fun _=>true
 pn:=[]
 xe:=fun e s'=>wpAny (model P w) (A.deeper (envOfC qual scope s.heap.objs.size f cd)) (leaving (envOfC qual scope s.heap.objs.size f cd) e) (fun _ s''=>CX outer H s E e s'') (fun e' s''=>CX outer H s E e' s'') s'
theorem QT {sc:Scope} {n:Nat} {x:Str} (h:sc.names.lookup x=some .cell):∃c,(cellsFrom n sc.names []).lookup x=some c:=by
 have q:=PySem.W.cellsFrom_some sc.names n [] (.inl h);exact Option.isSome_iff_exists.mp q
theorem W3 {CX:CXT} {P:Program} {w:World} {K:PySem.W.Frag} {mg:Str->Option Value} {base:Heap} {N ps:List Str} {qual:Str} {scope:Scope} {f:Addr} {cd:Value} {A:Around} {outer:List Env} {s s1:Shared} {H:Hp} {E:XK} {us:List Value} {vs:List V}
  (S:bL N ps scope) (hd:A.handled=none) (e0:aE3 P w K mg base A outer s H) (hl:vs.length=ps.length) (r:Vals vs us)
  (x:InCallC s s.heap.objs.size (bindL (envOfC qual scope s.heap.objs.size f cd).kindOf (ps.zip us) fun _=>none) (cellsFrom (s.heap.objs.size+1) scope.names []) (bindC (envOfC qual scope s.heap.objs.size f cd).kindOf (ps.zip us) fun _=>none) s1) :
  Inv (CG CX P w K mg base N qual scope f cd A outer s H E) [] (start N vs) H s1:=by
 have hpl:ps.length<=N.length:=by have:=congrArg List.length S.pre;rw [List.length_take] at this;lia
 obtain ⟨h1,tk,rfl,hk⟩:=x.done;have noA:∀b:Addr,b∉(CG CX P w K mg base N qual scope f cd A outer s H E).ex:=fun b z=>absurd (show b∈([]:List Addr) from z) (by simp)
 refine ⟨⟨e0.mod,S.kind,rfl,rfl,Nat.le_refl _,fun y z c h1 h2=>?_,fun y hy=>?_,fun y c _ h=>?_,fun _=>hd,Around.frames_deeper e0.frames,.inr ⟨rfl,rfl⟩,fun b z=>absurd z (noA b),e0.bs,e0.bsz,fun b _ _=>noA b,fun b z=>absurd z (noA b),e0.T3,e0.frf⟩,
  rfl,e0.bare,Un.kept hk,⟨_,x.toInCall.ns,fun i y v h1 h2 h3=>?_⟩,fun y c h=>⟨_,x.cell y c h⟩,e0.hok.fresh (Nat.le_refl _),fun y c h=>?_,fun p hp=>absurd (show p∈([]:List (Addr×Obj)) from hp) (by simp),e0.hok.kept hk,?_⟩
 ·exact name_of_addr x.apart (PySem.mem_of_lookup h1) (PySem.mem_of_lookup h2)
 ·have hy:scope.names.lookup y=some .cell\/scope.names.lookup y=some .free:=hy;rcases hy with hy|hy
  ·exact QT hy
  ·exact absurd rfl (S.nofree _ (PySem.mem_of_lookup hy))
 ·exact Nat.le_of_lt (x.above y c (PySem.mem_of_lookup h))
 ·have hi:i<vs.length:=by
   unfold start at h2;by_cases hi:i<vs.length
   ·exact hi
   ·rw [List.getElem?_append_right (by simpa using hi)] at h2;rw [List.getElem?_replicate] at h2;split at h2 <;> cases h2
  have ha:vs[i]?=some v:=by
   unfold start at h2;rw [List.getElem?_append_left (by simpa using hi),List.getElem?_map] at h2;cases e:vs[i]? with
   | none=>rw [e] at h2;cases h2
   | some a=>rw [e] at h2;cases h2;rfl
  obtain ⟨u,hu,rv⟩:=r.get ha;have hp:ps[i]?=some y:=by
   rw [<-S.pre,List.getElem?_take_of_lt (by lia)];exact h1
  have ndP:ps.Nodup:=by rw [<-S.pre];exact S.nd.sublist (List.take_sublist _ _)
  refine ⟨u,rv,?_⟩;rcases S.par y (List.mem_of_getElem? hp) with k|k
  ·exact .inl ⟨k,IV ndP hp hu k⟩
  ·obtain ⟨c,e⟩:=QT (n:=s.heap.objs.size+1) k;refine .inr ⟨.inl k,c,e,?_⟩;have q:=x.cell y c e;rw [IW ndP hp hu (by show scope.names.lookup y≠_;rw [k];decide)] at q;exact q
 ·exact e0.hok.fresh (Nat.le_of_lt (x.above y c (PySem.mem_of_lookup h)))
 ·unfold start;show _=N.length;rw [List.length_append,List.length_map,List.length_replicate];lia
theorem aHh {CX:CXT} {P:Program} {w:World} {K:PySem.W.Frag} {mg:Str->Option Value} {base:Heap} {k:Nat} {f:Addr} {name qual:Str} {params:Arguments} {body:List Stmt} {scope:Scope} {dV kV doc pm cdv ct oc:Value} {an od:Option Addr}
  {osl:Array (Option Value)} {N ps:List Str} {sp:Sp} (lk:K.lookup f=some ⟨oc,od,.func (PySem.W.fnOf name qual params body scope dV kV doc pm an cdv ct),osl⟩) (hcd:PySem.W.codeIn K cdv qual=true) (S:bL N ps scope)
  (len:∀vs H Q E,sp vs H Q E->vs.length=ps.length)
  (hbody:∀(A:Around) (outer:List Env) (s:Shared) (H:Hp) (vs:List V) (Q:VK) (E:XK),iI k (A.deeper (envOfC qual scope s.heap.objs.size f cdv))->sp vs H Q E->
   ∃t,PSs (CG CX P w K mg base N qual scope f cdv A outer s H E) body t/\t {nx:=fun _ H'=>Q .non H',rt:=Q} (start N vs) H) :
  jQ P w K mg base CX (k+1) f (PySem.W.fnOf name qual params body scope dV kV doc pm an cdv ct) ps sp:=by
 refine ⟨len,fun A outer s H args us vs Q E hr e0 hb r hsp=>?_⟩;have hl:=len _ _ _ _ hsp;have KX:K.In s.heap:=e0.mod.kin.keeps fun b o e=>(e0.bs b o e).1
 have lim:s.heap.NoLimit:=e0.mod.nolimit.keeps fun b o e=>(e0.bs b o e).1
 have hkind:∀y∈ps.zip us,scope.names.lookup y.1=some .local\/(scope.names.lookup y.1=some .cell/\((cellsFrom (s.heap.objs.size+1) scope.names []).lookup y.1).isSome=true):=fun ⟨n,v⟩ hy=>by
  rcases S.par n (List.of_mem_zip hy).1 with q|q
  ·exact .inl q
  ·exact .inr ⟨q,PySem.W.cellsFrom_some _ _ _ (.inl q)⟩
 refine codeAny_call_function hr.depth (KX _ _ lk) rfl S.co S.gen rfl (PySem.W.codeRec_of KX hcd) (hb _ _ _ _ ?_);refine wpAny_newFunctionEnv_cells S.kind hkind fun env he s1 x=>?_
 subst he;refine ⟨lim.keeps x.toInCall.keep,codeAny_func ?_⟩;obtain ⟨t,ht,hq⟩:=hbody A outer s H vs Q E (hr.deeper _) hsp;have I:Inv (CG CX P w K mg base N qual scope f cdv A outer s H E) [] (start N vs) H s1:=W3 S hr.hd e0 hl r x;refine wpAny_mono (ht [] s1 (start N vs) H _ I hq) (fun fl s' hs=>?_) fun e s' hs=>hs
 have fin:∀{σ':St} {H':Hp} {v:V} {u:Value},Inv (CG CX P w K mg base N qual scope f cdv A outer s H E) [] σ' H' s'->RelV v u->Q v H'->CE outer P w H s Q u s':=
  fun {σ' H' v u} J rv q=>⟨v,H',J.os,J.bare,J.base,J.hok,rv,q⟩
 cases fl with
 | ret u=>
  obtain ⟨v,σ',H',J,rv,q⟩:=hs;exact fin J rv q
 | next=>
  obtain ⟨σ',H',J,q⟩:=hs;exact fin (v:=V.non) (u:=Value.none) J rfl q
 | brk=>
  obtain ⟨_,_,_,q⟩:=hs;exact False.elim q
 | cont=>
  obtain ⟨_,_,_,q⟩:=hs;exact False.elim q
section
variable {X:Cx} {x:Str} {p pos:Pos} {e:Expr} {es:List Expr} {t:TA} {id T:String} {r:List V->Hp->VK->Prop}
noncomputable def tCB (r:List V->Hp->VK->Prop) (t:TA):TE:=fun σ H Q=>t σ H fun vs H1=>r vs H1 Q
theorem wW (hc:nR X (.builtin id) r) (hg:Gl X x) (hm:X.mg x=none) (hv:bootBuiltins x=some (.builtin id)) (ha:PA X (e::es) t) (hn:x ≠ "__name__":=by decide) (hdb:nDb x:=by decide)
  (he:starEach (e::es) X.env=(false,eval e X.env)::starEach es X.env:=by rfl) (hpl:(backTo pos (starEach es X.env)).any (·.1)=false:=by rfl):PE X (.Call (.Name x p) (e::es) [] pos) (tCB r t):=by
 intro pins s σ H Q I h;refine wpAny_Call_Name_kw (lF I hg hm hv ?_ hn hdb);exact PyProof.Rows.callWith_builtin1 (thn (ha pos pins s σ H _ I h) fun us s1 ⟨vs,H1,I1,r1,q1⟩=>hc pins s1 σ H1 vs us Q I1 r1 q1) he hpl
theorem W4 (hc:nR X (.type T) r) (hg:Gl X x) (hm:X.mg x=none) (hv:bootBuiltins x=some (.type T)) (ha:PA X (e::es) t) (hn:x ≠ "__name__":=by decide) (hdb:nDb x:=by decide)
  (he:starEach (e::es) X.env=(false,eval e X.env)::starEach es X.env:=by rfl) (hpl:(backTo pos (starEach es X.env)).any (·.1)=false:=by rfl):PE X (.Call (.Name x p) (e::es) [] pos) (tCB r t):=by
 intro pins s σ H Q I h;refine wpAny_Call_Name_kw (lF I hg hm hv ?_ hn hdb);exact PyProof.Rows.callWith_type1 (thn (ha pos pins s σ H _ I h) fun us s1 ⟨vs,H1,I1,r1,q1⟩=>hc pins s1 σ H1 vs us Q I1 r1 q1) he hpl
end
end L2
namespace HT
open PySem PyProof.Rows
section
variable {prog:Program} {w:World} {A:Around} {E:Value->Shared->Prop} {s:Shared}
theorem aE8 {t b:Addr} {vs ws:List Value} {Q:Value->Shared->Prop} (ht:IsTup s.heap t vs.toArray) (hb:IsTup s.heap b ws.toArray) (hv:vs≠[])
  (h1:ws=[]->Q (.ref t) s) (h2:ws≠[]->Q (.ref s.heap.objs.size) {s with heap:=s.heap.push {cls:=.type "tuple",data:=.seq (vs++ws).toArray}})
  (hsz:vs.length+ws.length<=sizeLine):wpAny (model prog w) A (binaryOp .Add (.ref t) (.ref b)) Q E s:=by
 obtain ⟨⟨cls,dd,data,sl⟩,ho,hc,n,hd⟩:=id ht;obtain ⟨⟨cls2,dd2,data2,sl2⟩,ho2,hc2,n2,hd2⟩:=id hb;simp only at hc hd hc2 hd2;subst hc hd hc2 hd2;have e:vs.toArray++ws.toArray=(vs++ws).toArray:=by simp
 by_cases hw:ws=[]
 ·exact concat_meets ⟨_,ho,rfl⟩ ⟨_,ho2,rfl⟩ noFill_tuple_add seq_tuple_add PySem.F.slot_tuple_add PySem.F.entry_tuple_add (PySem.F.args_tuple_add_2 _ _)
   (tuple_addW1 t b vs.toArray ws.toArray n n2 dd dd2 sl sl2 (by simpa using hv) (by simp [hw])) ⟨ho,ho2,h1 hw⟩
 ·refine concat_meets ⟨_,ho,rfl⟩ ⟨_,ho2,rfl⟩ noFill_tuple_add seq_tuple_add PySem.F.slot_tuple_add PySem.F.entry_tuple_add (PySem.F.args_tuple_add_2 _ _)
   (tuple_addW2 t b vs.toArray ws.toArray n n2 dd dd2 sl sl2 (by simpa using hv) (by simpa using hw) (by rw [List.size_toArray,List.size_toArray];exact hsz)) ⟨ho,ho2,?_⟩
  rw [e];exact h2 hw
noncomputable def sIx (n d:Nat):Option Int->Nat
 | none=>d
 | some v=>if v<0 then (v+(n:Int)).toNat else min v.toNat n
theorem aHi (n d:Nat) (hd:d<=n) (o:Option Int):sIx n d o<=n:=by
 cases o with
 | none=>exact hd
 | some v=>
  show (if v<0 then (v+(n:Int)).toNat else min v.toNat n)<=n;by_cases hv:v<0
  ·rw [if_pos hv];lia
  ·rw [if_neg hv];exact Nat.min_le_right _ _
theorem W5 (v:Int) (n d:Nat):(if v<0 then max (v+(n:Int)) 0 else min v (n:Int))=((sIx n d (some v):Nat):Int):=by
 show (if v<0 then max (v+(n:Int)) 0 else min v (n:Int))=(((if v<0 then (v+(n:Int)).toNat else min v.toNat n):Nat):Int);by_cases hv:v<0
 ·simp only [if_pos hv];lia
 ·simp only [if_neg hv];lia
theorem UL (lo hi:Option Int) (n:Nat):Builtin.Slice.sliceAdjust lo hi 1 (n:Int)=(((sIx n 0 lo:Nat):Int),((sIx n n hi:Nat):Int)):=by
 have h1:¬((1:Int)<0):=by lia
 unfold Builtin.Slice.sliceAdjust;simp only [h1,if_false];refine Prod.ext ?_ ?_
 ·cases lo with
  | none=>rfl
  | some v=>exact W5 v n 0
 ·cases hi with
  | none=>rfl
  | some v=>exact W5 v n n
theorem UT (i j:Nat):Builtin.Slice.slicePlaces (i:Int) (j:Int) 1=j-i:=by
 unfold Builtin.Slice.slicePlaces;have h1:(1:Int) > 0:=by lia
 simp only [h1,if_true,Int.ediv_one];split <;> lia
theorem CJ {v:Value} {o:Option Int} {Q:Option Int->Shared->Prop} (p:IsPart v o) (h:Q o s):wpAny (model prog w) A (Builtin.Slice.slicePartIndex v) Q E s:=by
 cases p with
 | none=>exact slicePart_none h
 | int i t=>exact slicePart_int h
theorem wL {sl:Addr} {vl vu:Value} {lo hi:Option Int} {n:Nat} {Q:Int×Int×Nat->Shared->Prop} (hs:s.heap.IsSliceOf sl vl vu .none) (pl:IsPart vl lo) (pu:IsPart vu hi)
  (h:Q (((sIx n 0 lo:Nat):Int),1,sIx n n hi-sIx n 0 lo) s):wpAny (model prog w) A (Builtin.Slice.sliceApplied (.ref sl) (pure (n:Int))) Q E s:=by
 obtain ⟨os,hos,hcs,hds⟩:=id hs;unfold Builtin.Slice.sliceApplied Builtin.Slice.sliceFields;refine wpAny_bind (wpAny_bind (wpAny_field hos hds (x:=vl) rfl (wpAny_bind (wpAny_field hos hds (x:=vu) rfl (wpAny_bind (wpAny_field hos hds (x:=.none) rfl (wpAny_pure ?_)))))));refine wpAny_bind (slicePart_none ?_);show wpAny _ _ (if ((1:Int)==0)=true then _ else _) _ _ s;rw [if_neg (by decide)];refine wpAny_bind (CJ pl (wpAny_bind (CJ pu (wpAny_bind (wpAny_pure ?_)))));show wpAny _ _ (match Builtin.Slice.sliceAdjust lo hi 1 (n:Int) with|(lo,hi)=>pure (lo,(1:Int),Builtin.Slice.slicePlaces lo hi 1)) _ _ s;rw [UL lo hi n];show wpAny _ _ (pure (((sIx n 0 lo:Nat):Int),(1:Int),Builtin.Slice.slicePlaces ((sIx n 0 lo:Nat):Int) ((sIx n n hi:Nat):Int) 1)) _ _ s;rw [UT];exact wpAny_pure h
theorem aAo (xs:Array Value) (i k:Nat):((List.range k).filterMap fun (m:Nat)=>xs[((i:Int)+(m:Int)*1).toNat]?).toArray=((xs.toList.drop i).take k).toArray:=by
 have e:(fun (m:Nat)=>xs[((i:Int)+(m:Int)*1).toNat]?)=fun m=>xs[i+m]?:=by
  funext m
  have:((i:Int)+(m:Int)*1).toNat=i+m:=by lia
  rw [this]
 rw [e];have:=pick_run xs i k;rw [List.filterMap_map] at this;have e2:((fun x=>xs[x]?) ∘ fun x=>i+x)=fun m=>xs[i+m]?:=rfl
 rw [e2] at this;rw [this]
theorem o9 {t sl:Addr} {items:Array Value} {vl vu:Value} {lo hi:Option Int} {Q:Value->Shared->Prop} (ht:IsTup s.heap t items) (hs:s.heap.IsSliceOf sl vl vu .none) (pl:IsPart vl lo) (pu:IsPart vu hi)
  (hw:¬(sIx items.size 0 lo=0/\sIx items.size items.size hi=items.size))
  (h:Q (.ref s.heap.objs.size) {s with heap:=s.heap.push {cls:=.type "tuple",data:=.seq ((items.toList.drop (sIx items.size 0 lo)).take (sIx items.size items.size hi-sIx items.size 0 lo)).toArray}})
  (hsz:items.size<=sizeLine):wpAny (model prog w) A (getItem (.ref t) (.ref sl)) Q E s:=by
 have htake:sizeOk (.seq ((items.toList.drop (sIx items.size 0 lo)).take (sIx items.size items.size hi-sIx items.size 0 lo)).toArray):=by
  show ((items.toList.drop (sIx items.size 0 lo)).take (sIx items.size items.size hi-sIx items.size 0 lo)).toArray.size<=sizeLine;rw [List.size_toArray,List.length_take,List.length_drop,Array.length_toList];lia
 have hj:sIx items.size items.size hi<=items.size:=aHi _ _ (Nat.le_refl _) hi;obtain ⟨os,hos,hcs,hds⟩:=id hs;have hTs:s.TypeIs (.ref sl) "slice":=⟨os,hos,hcs⟩
 unfold getItem
 try with_reducible refine wpAny_holding ?_
 first|refine wpAny_bind (wpAny_pure ?_)|skip
 refine wpAny_bind (wpAny_sequenceKey ht.typeIs (by decide) ?_);refine wpAny_bind (wpAny_callSpecial?_slot (name:=Str.ofString "__getitem__") ht.typeIs PyProof.Rows.slot_tuple_getitem
  (wpAny_call_entry PyProof.Rows.slot_tuple_getitem ht.typeIs entry_tuple_getitem ?_ (args_tuple_getitem _ _)))
 show wpAny _ _ (Builtin.Tuple.tupleItemsOf (.ref t) >>= _) _ _ s;refine wpAny_bind (tupleItemsOf_ ht ?_);refine wpAny_bind (wpAny_typeOf hTs ?_);rw [if_pos (by decide)];refine wpAny_bind (wL hs pl pu ?_);have hno:¬((((sIx items.size 0 lo:Nat):Int)==0&&(1:Int)==1&&(sIx items.size items.size hi-sIx items.size 0 lo)==items.size)=true):=by
  intro q;rw [Bool.and_eq_true,Bool.and_eq_true] at q;have q1:((sIx items.size 0 lo:Nat):Int)=0:=eq_of_beq q.1.1;have q2:sIx items.size items.size hi-sIx items.size 0 lo=items.size:=eq_of_beq q.2;exact hw ⟨by lia,by lia⟩
 show wpAny _ _ (if (((sIx items.size 0 lo:Nat):Int)==0&&(1:Int)==1&&(sIx items.size items.size hi-sIx items.size 0 lo)==items.size)=true then _ else _) _ _ s;rw [if_neg hno,aAo]
 first
  | exact wpAny_bind (m:=Builtin.Tuple.tupleExact _) (wpAny_newObj_type (wpAny_pure ⟨_,rfl,wpAny_pure h⟩) htake)
  | exact wpAny_bind (m:=Builtin.Tuple.tupleExact _) (wpAny_newObj_type (wpAny_bind (wpAny_pure (wpAny_pure ⟨_,rfl,wpAny_pure h⟩))) htake)
  | exact wpAny_bind (wpAny_bind (m:=Builtin.Tuple.tupleExact _) (wpAny_newObj_type (wpAny_pure (wpAny_pure ⟨_,rfl,wpAny_pure h⟩)) htake))
  | exact wpAny_bind (wpAny_bind (m:=Builtin.Tuple.tupleExact _) (wpAny_newObj_type (wpAny_pure ⟨_,rfl,wpAny_pure h⟩) htake))
end
end HT
namespace L2
open PySem PySem.Spec PyProof.Rows
abbrev TO:=St->Hp->(Option Int->Hp->Prop)->Prop
def PO (X:Cx) (e:Option Expr) (t:TO):Prop:=
 ∀(pins:List (Addr×Obj)) (s:Shared) (σ:St) (H:Hp) (Q:Option Int->Hp->Prop),Inv X pins σ H s->t σ H Q->
  wpAny (model X.prog X.w) X.A (evalPart e X.env) (fun u s'=>∃o H',Inv X pins σ H' s'/\IsPart u o/\Q o H') X.xe s
noncomputable def aE9:TO:=fun _ H Q=>Q none H
noncomputable def aKu (t:TE):TO:=fun σ H Q=>t σ H fun x H1=>∃i,x=.int i/\Q (some i) H1
section
variable {X:Cx} {e:Expr} {te:TE} {lo hi:Option Expr} {tl th:TO} {pos p2:Pos}
theorem aEa:PO X none aE9:=by
 intro pins s σ H Q I h;rw [evalPart_none];exact wpAny_pure ⟨none,H,I,.none,h⟩
theorem aEb (h:PE X e te):PO X (some e) (aKu te):=by
 intro pins s σ H Q I hw;rw [evalPart_some];refine thn (h pins s σ H _ I hw) fun u s1 ⟨x,H1,I1,r1,q1⟩=>?_
 obtain ⟨i,rfl,q⟩:=q1;obtain ⟨t,rfl⟩:=r1;exact ⟨some i,H1,I1,.int i t,q⟩
def SlR (X:Cx) (r:V->Option Int->Option Int->Hp->VK->Prop):Prop:=
 ∀(pins:List (Addr×Obj)) (s:Shared) (σ:St) (H:Hp) (x:V) (v vl vu:Value) (lo hi:Option Int) (sl:Addr) (Q:VK),Inv X pins σ H s->RelV x v->s.heap.IsSliceOf sl vl vu .none->IsPart vl lo->IsPart vu hi->r x lo hi H Q->
  ∃T id,typeLookup (.type T) "__getitem__" = pure (some (.builtin id))/\s.TypeIs v T/\wpAny (model X.prog X.w) X.A (getItem v (.ref sl)) (EP X pins σ Q) X.xe s
noncomputable def tSl (r:V->Option Int->Option Int->Hp->VK->Prop) (te:TE) (tl th:TO):TE:=fun σ H Q=>te σ H fun x H1=>tl σ H1 fun l H2=>th σ H2 fun u H3=>r x l u H3 Q
theorem aAp {r:V->Option Int->Option Int->Hp->VK->Prop} (hr:SlR X r) (he:PE X e te) (hl:PO X lo tl) (hu:PO X hi th):PE X (.Subscript e (.Slice lo hi none p2) pos) (tSl r te tl th):=by
 intro pins s σ H Q I h;refine Subscript_ (thn (he pins s σ H _ I h) fun v s1 ⟨x,H1,I1,r1,q1⟩=>?_);refine wpAny_Slice (thn (hl pins s1 σ H1 _ I1 q1) fun vl s2 ⟨l,H2,I2,pl,q2⟩=>thn (hu pins s2 σ H2 _ I2 q2) fun vu s3 ⟨u,H3,I3,pu,q3⟩=>?_);rw [evalPart_none];refine wpAny_pure ?_;have I4:Inv X pins σ H3 {s3 with heap:=s3.heap.push {cls:=.type "slice",data:=.fields #[vl,vu,.none]}}:=I3.kept (t':=s3.toks) fun b ob q=>Heap.get?_push_of_some _ q
 obtain ⟨T,id,hT,ht,hg⟩:=hr pins {s3 with heap:=s3.heap.push {cls:=.type "slice",data:=.fields #[vl,vu,.none]}} σ H3 x v vl vu l u s3.heap.objs.size Q I4 r1 (Heap.IsSliceOf.new ..) pl pu q3;show wpAny (model X.prog X.w) X.A (subscriptTail e (.Slice lo hi none p2) v (.ref s3.heap.objs.size)) (EP X pins σ Q) X.xe {s3 with heap:=s3.heap.push {cls:=.type "slice",data:=.fields #[vl,vu,.none]}};exact tail_any (ops:=[.ref s3.heap.objs.size,v]) ht hT hg (by with_unfolding_all rfl)
noncomputable def W6 (xs:List V) (lo hi:Option Int):List V:=(xs.drop (HT.sIx xs.length 0 lo)).take (HT.sIx xs.length xs.length hi-HT.sIx xs.length 0 lo)
theorem xT (xs:List V) (lo hi:Option Int):(W6 xs lo hi).length<=xs.length:=by
 unfold W6;rw [List.length_take,List.length_drop];lia
def aMw (K:PySem.W.Frag):V->Option Int->Option Int->Hp->VK->Prop:=fun x lo hi H Q=>∃a xs,x=.ref a/\SqT K H a xs/\
 ¬(HT.sIx xs.length 0 lo=0/\HT.sIx xs.length xs.length hi=xs.length)/\∀p,H p=none->Q (.ref p) (upd H p (.tup (W6 xs lo hi)))
theorem aHj:SlR X (aMw X.K):=by
 intro pins s σ H x v vl vu lo hi sl Q I rx hs pl pu h;obtain ⟨a,xs,rfl,hx,hw,q⟩:=h;cases rx;obtain ⟨its,r,ht,hz⟩:=I.tuple hx;have hlen:its.toArray.size=xs.length:=by rw [List.size_toArray];exact r.length.symm
 refine ⟨"tuple",_,PyProof.Rows.slot_tuple_getitem.lookup,ht.typeIs,?_⟩;refine HT.o9 ht hs pl pu (by rw [hlen];exact hw) ?_ (by rw [hlen];exact hz);rw [hlen];refine ⟨.ref s.heap.objs.size,_,I.laid (t':=s.toks) (o:=.tup (W6 xs lo hi)) (fun b ob q=>Heap.get?_push_of_some _ q) (Nat.le_refl _) ?_,rfl,q _ (I.hok.fresh (Nat.le_refl _))⟩;exact ⟨Nat.le_trans (xT xs lo hi) hz,_,(r.drop (HT.sIx xs.length 0 lo)).take (HT.sIx xs.length xs.length hi-HT.sIx xs.length 0 lo),jR.new _ _⟩
def aKv (K:PySem.W.Frag):R2:=fun x y H Q=>∃a b xs ys,x=.ref a/\y=.ref b/\SqT K H a xs/\SqT K H b ys/\xs≠[]/\xs.length+ys.length<=sizeLine/\
 (ys=[]->Q (.ref a) H)/\(ys≠[]->∀p,H p=none->Q (.ref p) (upd H p (.tup (xs++ys))))
theorem Vals.xU {xs:List V} {us:List Value} (r:Vals xs us):us=[]↔xs=[]:=by
 cases r with
 | nil=>simp
 | cons _ _=>simp
theorem aEc:OpR X (binaryOp .Add) (aKv X.K):=by
 intro pins s σ H x y v u Q I rx ry h;obtain ⟨a,b,xs,ys,rfl,rfl,ha,hb,hx,hz,q1,q2⟩:=h;cases rx;cases ry;obtain ⟨its,r1,p1,_⟩:=I.tuple ha;obtain ⟨its2,r2,p2,_⟩:=I.tuple hb;refine HT.aE8 p1 p2 (fun z=>hx (r1.xU.mp z)) (fun z=>⟨.ref a,H,I,rfl,q1 (r2.xU.mp z)⟩) (fun z=>?_) (by rw [<-r1.length,<-r2.length];exact hz);refine ⟨.ref s.heap.objs.size,_,I.laid (t':=s.toks) (o:=.tup (xs++ys)) (fun b ob q=>Heap.get?_push_of_some _ q) (Nat.le_refl _) ?_,rfl,q2 (fun w=>z (r2.xU.mpr w)) _ (I.hok.fresh (Nat.le_refl _))⟩;exact ⟨by rw [List.length_append];exact hz,_,r1.append r2,jR.new _ _⟩
end
noncomputable def ixN (n:Nat) (i:Int):Option Nat:=if 0<=i then (if i<n then some i.toNat else none) else if -(n:Int)<=i then some (i+n).toNat else none
def atI {α:Type} (xs:List α) (i:Int):Option α:=(ixN xs.length i).bind fun j=>xs[j]?
theorem W7 {n:Nat} {i:Int} {j:Nat} (h:ixN n i=some j):seqIndex? i n=some j/\j<n/\-(n:Int)<=i/\i<n:=by
 unfold ixN at h;by_cases h0:0<=i
 ·rw [if_pos h0] at h;by_cases h1:i<n
  ·rw [if_pos h1] at h;have e:i.toNat=j:=Option.some.inj h;exact ⟨by rw [seqIndex_of h0 h1,e],by lia,by lia,h1⟩
  ·rw [if_neg h1] at h;cases h
 ·rw [if_neg h0] at h;by_cases h1:-(n:Int)<=i
  ·rw [if_pos h1] at h;have e:(i+n).toNat=j:=Option.some.inj h;exact ⟨by rw [seqIndex_neg (by lia) h1,e],by lia,h1,by lia⟩
  ·rw [if_neg h1] at h;cases h
theorem M9 {α:Type} {xs:List α} {i:Int} {v:α} (h:atI xs i=some v):∃j,seqIndex? i xs.length=some j/\xs[j]?=some v/\j<xs.length/\-(xs.length:Int)<=i/\i<xs.length:=by
 unfold atI at h;cases e:ixN xs.length i with
 | none=>rw [e] at h;cases h
 | some j=>
  rw [e] at h;obtain ⟨h1,h2,h3,h4⟩:=W7 e;exact ⟨j,h1,h,h2,h3,h4⟩
def M_ (b:Expr):Prop:=∀o i,subscripted b false o i=operate [o,i] (getItem o i)
def IxR (X:Cx) (r:R2):Prop:=
 ∀(value slice:Expr) (pins:List (Addr×Obj)) (s:Shared) (σ:St) (H:Hp) (x y:V) (v u:Value) (Q:VK),Inv X pins σ H s->RelV x v->RelV y u->r x y H Q->
  subscripted slice false v u=operate [v,u] (getItem v u)->wpAny (model X.prog X.w) X.A (subscriptTail value slice v u) (EP X pins σ Q) X.xe s
def MtR (X:Cx) (id:String) (r:V->List V->Hp->VK->Prop):Prop:=
 ∀(pins:List (Addr×Obj)) (s:Shared) (σ:St) (H:Hp) (x:V) (xs:List V) (v:Value) (us:List Value) (Q:VK),Inv X pins σ H s->RelV x v->Vals xs us->r x xs H Q->
  wpAny (model X.prog X.w) X.A (call (.builtin id) (v::us)) (EP X pins σ Q) X.xe s
section
variable {X:Cx} {a b:Expr} {ta tb:TE} {pos:Pos}
theorem aKw {r:R2} (hr:IxR X r) (ha:PE X a ta) (hb:PE X b tb) (hs:M_ b):PE X (.Subscript a b pos) (tOp r ta tb):=by
 intro pins s σ H Q I h;exact Subscript_ (aKo ha hb I h fun v u s2 x y H2 I2 rx ry q=>hr a b pins s2 σ H2 x y v u Q I2 rx ry q (hs _ _))
def aMx (K:PySem.W.Frag):R2:=fun x y H Q=>∃p xs i v,x=.ref p/\y=.int i/\SqL K H p xs/\atI xs i=some v/\Q v H
def aMy (K:PySem.W.Frag):R2:=fun x y H Q=>∃p xs i v,x=.ref p/\y=.int i/\SqT K H p xs/\atI xs i=some v/\Q v H
def aMz:R2:=fun x y H Q=>∃z i c,x=.str z/\y=.int i/\z.length<=sizeLine/\atI z.cps.toList i=some c/\Q (.str ⟨#[c]⟩) H
theorem NB:IxR X (aMx X.K):=by
 intro value slice pins s σ H x y v u Q I rx ry h hs;obtain ⟨p,xs,i,z,rfl,rfl,hq,he,q⟩:=h;cases rx;obtain ⟨t,rfl⟩:=ry;obtain ⟨its,r,pl,hz⟩:=I.list hq;obtain ⟨j,h1,h2,h3,h4,h5⟩:=M9 he;obtain ⟨w,ew,rw'⟩:=r.get h2;have hl:=r.length;have hn:=xO;have fin:EP X pins σ Q w s:=⟨z,H,I,rw',q⟩
 by_cases h0:0<=i
 ·have hj:i.toNat=j:=by
   rw [seqIndex_of h0 h5] at h1;exact Option.some.inj h1
  exact item_listR pl.isList h0 (by lia) (by rw [hj];simpa using ew) fin hs
 ·have hj:(i+(its.toArray.size:Int)).toNat=j:=by
   rw [seqIndex_neg (by lia) h4] at h1;rw [List.size_toArray,<-hl];exact Option.some.inj h1
  exact subscriptTail_builtinR (x:=w) pl.isList.typeIs slot_list_getitem.lookup
   (wpAny_getItem_list_neg (Q:=fun r s'=>r=w/\EP X pins σ Q r s') pl.isList (by lia) (by rw [List.size_toArray] <;> lia) (by lia) (by rw [hj];simpa using ew) ⟨rfl,fin⟩) hs
theorem aHk:IxR X (aMy X.K):=by
 intro value slice pins s σ H x y v u Q I rx ry h hs;obtain ⟨p,xs,i,z,rfl,rfl,hq,he,q⟩:=h;cases rx;obtain ⟨t,rfl⟩:=ry;obtain ⟨its,r,pl,hz⟩:=I.tuple hq;obtain ⟨j,h1,h2,h3,h4,h5⟩:=M9 he;obtain ⟨w,ew,rw'⟩:=r.get h2;have hl:=r.length;have hn:=xO;have fin:EP X pins σ Q w s:=⟨z,H,I,rw',q⟩
 exact subscriptTail_builtinR (x:=w) pl.typeIs slot_tuple_getitem.lookup
  (getItem_tuple (j:=j) (Q:=fun r s'=>r=w/\EP X pins σ Q r s') pl (by lia) (by lia) (by rw [List.size_toArray,<-hl];exact h1) (by simpa using ew) ⟨rfl,fin⟩) hs
theorem aHl:IxR X aMz:=by
 intro value slice pins s σ H x y v u Q I rx ry h hs;obtain ⟨z,i,c,rfl,rfl,hz,he,q⟩:=h;obtain ⟨t,rfl⟩:=rx;obtain ⟨t',rfl⟩:=ry;obtain ⟨j,h1,h2,h3,h4,h5⟩:=M9 he;have hl:z.cps.toList.length=z.length:=by simp [Str.length]
 rw [hl] at h1 h4 h5;have hn:=xO;exact tail_any (typeIs_str s z t) slot_str_getitem.lookup (getItem_str (c:=c) (by
  have e1:decide (i < -(2 ^ 63:Int))=false:=decide_eq_false (by lia);have e2:decide (i >= 2 ^ 63)=false:=decide_eq_false (by lia);rw [e1,e2,Bool.or_false]) (by rw [h1];simpa using h2) ⟨.str ⟨#[c]⟩,H,I.tok _,⟨_,rfl⟩,q⟩) hs
theorem UV (its:List Value) (n j:Nat) (u:Value):Obj.mapSeq (·.setIfInBounds j u) {cls:=.type "list",data:=.seq its.toArray n}={cls:=.type "list",data:=.seq (its.set j u).toArray n}:=by
 simp [Obj.mapSeq]
theorem Inv.lst {pins:List (Addr×Obj)} {σ:St} {H:Hp} {s:Shared} {p:Addr} {xs:List V} (I:Inv X pins σ H s) (h:H p=some (.lst xs)) :
  ∃(its:List Value) (n:Nat),Vals xs its/\s.heap.get? p=some {cls:=.type "list",data:=.seq its.toArray n}/\xs.length<=sizeLine:=by
 obtain ⟨z,its,n,r,e⟩:=I.hok p _ h;exact ⟨its,n,r,e,z⟩
theorem Inv.aHm {pins:List (Addr×Obj)} {σ:St} {H:Hp} {s:Shared} {p:Addr} {xs ys:List V} {its its':List Value} {n n':Nat} {f:Obj->Obj} (I:Inv X pins σ H s) (h:H p=some (.lst xs))
  (ho:s.heap.get? p=some {cls:=.type "list",data:=.seq its.toArray n}) (hf:f {cls:=.type "list",data:=.seq its.toArray n}={cls:=.type "list",data:=.seq its'.toArray n'}) (r:Vals ys its') (hz:ys.length<=sizeLine) (t:Nat) :
  Inv X pins σ (upd H p (.lst ys)) {s with heap:=s.heap.update p f,toks:=t}:=by
 have e:(s.heap.update p f).get? p=some {cls:=.type "list",data:=.seq its'.toArray n'}:=by
  rw [Heap.get?_update_self f ho (by rw [hf] <;> rfl),hf]
 refine I.write (x:=p) (e:=p) (by rw [h];trivial) (.inl rfl) (fun b u hb q=>(Heap.get?_update_other _ _ (Ne.symm hb)).trans q) ⟨_,e⟩ ?_;exact ⟨hz,its',n',r,e⟩
def aKx:V->V->V->Hp->(Hp->Prop)->Prop:=fun o i v H Q=>∃p xs k j,o=.ref p/\i=.int k/\H p=some (.lst xs)/\ixN xs.length k=some j/\Q (upd H p (.lst (xs.set j v)))
theorem set_list:aMp X aKx:=by
 intro pins s σ H o i v ov iv u Q I ro ri rv h;obtain ⟨p,xs,k,j,rfl,rfl,hp,hj,q⟩:=h;cases ro;obtain ⟨t,rfl⟩:=ri;obtain ⟨its,n,r,ho,hz⟩:=I.lst hp;obtain ⟨h1,h2,h3,h4⟩:=W7 hj;have hl:=r.length;have hn:=xO;have I':Inv X pins σ (upd H p (.lst (xs.set j v))) {s with heap:=s.heap.update p (Obj.mapSeq (·.setIfInBounds j u))}:=
  I.aHm hp ho (UV its n j u) (r.set rv j) (by rw [List.length_set];exact hz) s.toks
 by_cases h0:0<=k
 ·have hk:k.toNat=j:=by
   rw [seqIndex_of h0 h4] at h1;exact Option.some.inj h1
  exact PySem.W.ki_setAt ho h0 (by lia) (by rw [List.size_toArray,<-hl];exact h4) (by rw [hk];exact ⟨_,I',q⟩)
 ·have hk:(k+(its.toArray.size:Int)).toNat=j:=by
   rw [seqIndex_neg (by lia) h3] at h1;rw [List.size_toArray,<-hl];exact Option.some.inj h1
  exact PySem.W.ki_setBack ho (by lia) (by rw [List.size_toArray,<-hl];exact h3) (by lia) (by rw [hk];exact ⟨_,I',q⟩)
theorem I_ (lo hi:Option Int) (n:Nat):(sliceBounds lo hi none n).1=((HT.sIx n 0 lo:Nat):Int)/\(sliceBounds lo hi none n).2.1=((HT.sIx n n hi:Nat):Int)/\(sliceBounds lo hi none n).2.2=1:=by
 refine ⟨?_,?_,rfl⟩
 ·cases lo with
  | none=>simp [sliceBounds,HT.sIx]
  | some i=>
   simp only [sliceBounds,HT.sIx,Option.getD_none,show (1:Int) > 0 by decide,if_true];by_cases h:i<0
   ·simp only [h,if_true] <;> lia
   ·simp only [h,if_false] <;> lia
 ·cases hi with
  | none=>simp [sliceBounds,HT.sIx]
  | some i=>
   simp only [sliceBounds,HT.sIx,Option.getD_none,show (1:Int) > 0 by decide,if_true];by_cases h:i<0
   ·simp only [h,if_true] <;> lia
   ·simp only [h,if_false] <;> lia
theorem DK (its:List Value) (lo hi:Option Int):slicePick its.toArray lo hi none=((its.drop (HT.sIx its.length 0 lo)).take (HT.sIx its.length its.length hi-HT.sIx its.length 0 lo)).toArray:=by
 obtain ⟨h1,h2,h3⟩:=I_ lo hi its.toArray.size;unfold slicePick;rw [h1,h2,h3];simp only [sliceRange_one,pick_run,List.size_toArray] <;> rfl
def aN0 (K:PySem.W.Frag):V->Option Int->Option Int->Hp->VK->Prop:=fun x lo hi H Q=>∃a xs,x=.ref a/\SqL K H a xs/\∀p,H p=none->Q (.ref p) (upd H p (.lst (W6 xs lo hi)))
theorem W8:SlR X (aN0 X.K):=by
 intro pins s σ H x v vl vu lo hi sl Q I rx hs pl pu h;obtain ⟨a,xs,rfl,hx,q⟩:=h;cases rx;obtain ⟨its,r,ht,hz⟩:=I.list hx;have hlen:=r.length;refine ⟨"list",_,slot_list_getitem.lookup,ht.isList.typeIs,?_⟩;refine wpAny_getItem_list_slice ht.isList hs pl pu .none (by simp) ?_ (by rw [List.size_toArray] <;> lia);rw [DK,<-hlen];refine ⟨.ref s.heap.objs.size,_,I.laid (t':=s.toks) (o:=.lst (W6 xs lo hi)) (fun b ob q=>Heap.get?_push_of_some _ q) (Nat.le_refl _) ?_,rfl,q _ (I.hok.fresh (Nat.le_refl _))⟩;exact ⟨Nat.le_trans (xT xs lo hi) hz,_,0,(r.drop (HT.sIx xs.length 0 lo)).take (HT.sIx xs.length xs.length hi-HT.sIx xs.length 0 lo),Heap.get?_push_size _ rfl⟩
theorem iZ:nR X (.builtin "len") (fun xs H Q=>∃p ys,xs=[.ref p]/\(SqL X.K H p ys\/SqT X.K H p ys)/\Q (.int ys.length) H):=by
 intro pins s σ H xs us Q I r h;obtain ⟨p,ys,rfl,hq,q⟩:=h;obtain ⟨u,rfl,rx⟩:=vals1 r;cases rx;have hn:=xO;rcases hq with hq|hq
 ·obtain ⟨its,r',pl,hz⟩:=I.list hq;have hlen:=r'.length;exact Calls.call_len_list pl.isList (by simp only [List.size_toArray] <;> lia) ⟨.int ys.length,H,I.tok _,⟨s.toks+1,by rw [List.size_toArray,hlen]⟩,q⟩
 ·obtain ⟨its,r',pl,hz⟩:=I.tuple hq;have hlen:=r'.length;exact len_tuple pl (by simp only [List.size_toArray] <;> lia) ⟨.int ys.length,H,I.tok _,⟨s.toks+1,by rw [List.size_toArray,hlen]⟩,q⟩
theorem JB:nR X (.builtin "len") (fun xs H Q=>∃z,xs=[.str z]/\z.length<=sizeLine/\Q (.int z.length) H):=by
 intro pins s σ H xs us Q I r h;obtain ⟨z,rfl,hz,q⟩:=h;obtain ⟨u,rfl,t,rfl⟩:=vals1 r;have hn:=xO;exact len_str (by lia) ⟨.int z.length,H,I.tok _,⟨_,rfl⟩,q⟩
theorem wA:nR X (.type "list") (fun xs H Q=>∃p ys,xs=[.ref p]/\(SqL X.K H p ys\/SqT X.K H p ys)/\∀l,H l=none->Q (.ref l) (upd H l (.lst ys))):=by
 intro pins s σ H xs us Q I r h;obtain ⟨p,ys,rfl,hq,q⟩:=h;obtain ⟨u,rfl,rx⟩:=vals1 r;cases rx;have fin:∀(its:List Value),Vals ys its->ys.length<=sizeLine->∀(h':Heap) (c':Nat),(∀b o',s.heap.get? b=some o'->h'.get? b=some o')->
   h'.get? s.heap.objs.size=some {cls:=.type "list",dict:=none,data:=.seq its.toArray c',slots:=#[]}->EP X pins σ Q (.ref s.heap.objs.size) {s with heap:=h'}:=fun its r' hz h' c' kp e=>
  ⟨.ref s.heap.objs.size,_,I.laid (t':=s.toks) kp (Nat.le_refl _) (show fD X.prog X.w _ h' _ (.lst ys) from ⟨hz,its,c',r',e⟩),rfl,q _ (I.hok.fresh (Nat.le_refl _))⟩
 rcases hq with hq|hq
 ·obtain ⟨its,r',pl,hz⟩:=I.list hq;have hlen:=r'.length;obtain ⟨o,ho,hc,n,hd⟩:=pl.isList;exact call_list_seq p (.inl rfl) ho hc hd (fun h' c' kp e=>fin its r' hz h' c' kp e) (by simp only [List.size_toArray] <;> lia)
 ·obtain ⟨its,r',pl,hz⟩:=I.tuple hq;have hlen:=r'.length;obtain ⟨o,ho,hc,n,hd⟩:=pl;exact call_list_seq p (.inr rfl) ho hc hd (fun h' c' kp e=>fin its r' hz h' c' kp e) (by simp only [List.size_toArray] <;> lia)
theorem oK:nR X (.type "tuple") (fun xs H Q=>∃p ys,xs=[.ref p]/\((SqL X.K H p ys/\∀l,H l=none->Q (.ref l) (upd H l (.tup ys)))\/(SqT X.K H p ys/\Q (.ref p) H))):=by
 intro pins s σ H xs us Q I r h;obtain ⟨p,ys,rfl,h⟩:=h;obtain ⟨u,rfl,rx⟩:=vals1 r;cases rx;rcases h with ⟨hq,q⟩|⟨hq,q⟩
 ·obtain ⟨its,r',pl,hz⟩:=I.list hq;have hlen:=r'.length;refine call_tuple_list pl.isList (fun h' kp=>?_) (by simp only [List.size_toArray] <;> lia);have I1:Inv X pins σ H {s with heap:=h'}:=I.kept (t':=s.toks) kp;have I2:Inv X pins σ (upd H h'.objs.size (.tup ys)) {s with heap:=h'.push {cls:=.type "tuple",data:=.seq its.toArray}}:=
   I1.laid (t':=s.toks) (fun b o e=>Heap.get?_push_of_some _ e) (Nat.le_refl _) (show fD X.prog X.w _ _ _ (.tup ys) from ⟨hz,its,r',jR.new _ _⟩)
  exact ⟨.ref h'.objs.size,_,I2,rfl,q _ (I1.hok.fresh (Nat.le_refl _))⟩
 ·obtain ⟨its,r',pl,hz⟩:=I.tuple hq;exact call_tuple_same pl ⟨.ref p,H,I,rfl,q⟩
def tyV (K:PySem.W.Frag) (T:String) (x:V) (H:Hp):Prop:=match x with
 | .str _=>T = "str"
 | .int _=>T = "int"
 | .ref p=>(T = "list"/\∃xs,SqL K H p xs)\/(T = "tuple"/\((∃o,K.lookup p=some o/\o.cls=.type "tuple"/\o.dict=none)\/∃xs,H p=some (.tup xs)))\/
   (T = "dict"/\((∃kvs,H p=some (.dK kvs))\/∃kvs,H p=some (.dT kvs)))\/(T = "set"/\∃S n,H p=some (.set S n))
 | _=>False
theorem aCu {pins:List (Addr×Obj)} {σ:St} {H:Hp} {s:Shared} {T:String} {x:V} {v:Value} (I:Inv X pins σ H s) (r:RelV x v) (ty:tyV X.K T x H) :
  s.TypeIs v T/\∀a,v=.ref a->∃ob,s.heap.get? a=some ob/\ob.dict=none:=by
 cases x with
 | str z=>
  obtain ⟨t,rfl⟩:=r;cases (show T = "str" from ty);exact ⟨typeIs_str s z t,fun _ e=>nomatch e⟩
 | int i=>
  obtain ⟨t,rfl⟩:=r;cases (show T = "int" from ty);exact ⟨typeIs_int s i t,fun _ e=>nomatch e⟩
 | ref p=>
  cases r;rcases ty with ⟨rfl,xs,hq⟩|⟨rfl,⟨o,hk,hc,hd⟩|⟨xs,hk⟩⟩|⟨rfl,hk⟩|⟨rfl,S,n,hk⟩
  ·obtain ⟨its,_,pl,_⟩:=I.list hq;refine ⟨pl.isList.typeIs,fun a e=>?_⟩;cases e;obtain ⟨o,n,e,c,hd,_⟩:=pl;exact ⟨o,e,hd⟩
  ·refine ⟨⟨o,I.kIn p o hk,hc⟩,fun a e=>?_⟩;cases e;exact ⟨o,I.kIn _ o hk,hd⟩
  ·obtain ⟨_,its,_,pl⟩:=I.hok p _ hk;refine ⟨(jR.tup pl).typeIs,fun a e=>?_⟩;cases e;exact jR.bare pl
  ·have z:∃o,s.heap.get? p=some o/\o.ExactDict:=by
    rcases hk with ⟨kvs,hk⟩|⟨kvs,hk⟩
    ·obtain ⟨_,_,_,_,o,_,_,e,ex,_⟩:=I.hok p _ hk;exact ⟨o,e,ex⟩
    ·obtain ⟨_,_,_,_,o,_,_,e,ex,_⟩:=I.hok p _ hk;exact ⟨o,e,ex⟩
   obtain ⟨o,e,ex⟩:=z;refine ⟨⟨o,e,ex.1⟩,fun a e2=>?_⟩;cases e2;exact ⟨o,e,ex.2.1⟩
  ·obtain ⟨o,_,_,_,e,ex,_⟩:=I.hok p _ hk;refine ⟨⟨o,e,ex.1⟩,fun a e2=>?_⟩;cases e2;exact ⟨o,e,ex.2.1⟩
 | _=>exact False.elim ty
noncomputable def aN1 (K:PySem.W.Frag) (T:String) (r:V->List V->Hp->VK->Prop) (to:TE):TE:=fun σ H Q=>to σ H fun x H1=>tyV K T x H1/\r x [] H1 Q
noncomputable def tBM (K:PySem.W.Frag) (T:String) (r:V->List V->Hp->VK->Prop) (to:TE) (t:TA):TE:=fun σ H Q=>to σ H fun x H1=>tyV K T x H1/\t σ H1 fun xs H2=>r x xs H2 Q
variable {o e:Expr} {es:List Expr} {to:TE} {t:TA} {name:Str} {apos cpos:Pos} {T id:String} {r:V->List V->Hp->VK->Prop}
theorem aHn (pa:PlainAttrs T) (slot:Slot T name id) (hty:typeOf (.builtin id)=pure (.type "method_descriptor")) (hm:MtR X id r) (ho:PE X o to)
  (hbase:attributeBase o name X.env (eval o X.env)=eval o X.env:=by rfl) (hline:(apos.endLine==cpos.line)=true:=by rfl):PE X (.Call (.Attribute o name apos) [] [] cpos) (aN1 X.K T r to):=by
 intro pins s σ H Q I h;refine wpAny_Call_method0_late hbase hline (thn (ho pins s σ H _ I h) fun v s1 ⟨x,H1,I1,r1,ty,q1⟩=>?_);obtain ⟨h1,h2⟩:=aCu I1 r1 ty;exact ⟨T,id,pa,slot,hty,h1,h2,Calls.callWith_builtin rfl (PySem.evalArgs_none (hm pins s1 σ H1 x [] v [] Q I1 r1 .nil q1))⟩
theorem aHo (pa:PlainAttrs T) (slot:Slot T name id) (hty:typeOf (.builtin id)=pure (.type "method_descriptor")) (hm:MtR X id r) (ho:PE X o to) (ha:PA X (e::es) t)
  (hbase:attributeBase o name X.env (eval o X.env)=eval o X.env:=by rfl)
  (hfew:((backTo cpos (starEach (e::es) X.env)).all (fun x=>!x.1)&&(backToKw cpos (keywordEach [] X.env)).all (fun x=>x.1.isSome)
   && decide ((e::es).length+([]:List Keyword).length+(if ([]:List Keyword).isEmpty then 0 else 1)<30))=true:=by rfl)
  (hline:(apos.endLine==cpos.line)=true:=by rfl) (hs:starEach (e::es) X.env=(false,eval e X.env)::starEach es X.env:=by rfl) (hplain:(backTo cpos (starEach es X.env)).any (·.1)=false:=by rfl) :
  PE X (.Call (.Attribute o name apos) (e::es) [] cpos) (tBM X.K T r to t):=by
 intro pins s σ H Q I h;refine wpAny_Call_method_late hbase hfew hline rfl (thn (ho pins s σ H _ I h) fun v s1 ⟨x,H1,I1,r1,ty,q1⟩=>?_);obtain ⟨h1,h2⟩:=aCu I1 r1 ty;refine ⟨T,id,pa,slot,hty,h1,h2,?_⟩;have hA:=ha cpos pins s1 σ H1 _ I1 q1;rw [hs] at hA ⊢;refine Calls.callWith_builtin (by show (false||(backTo cpos (starEach es X.env)).any (·.1))=false;rw [hplain] <;> rfl) (Calls.evalArgs_plain ?_);exact thn hA fun us s2 ⟨vs,H2,I2,r2,q2⟩=>hm pins s2 σ H2 x vs v us Q I2 r1 r2 q2
end
def MtM (X:Cx) (id:String) (r:V->List V->Hp->VK->Prop):Prop:=
 ∀(pins:List (Addr×Obj)) (s:Shared) (σ:St) (H:Hp) (x:V) (xs:List V) (v:Value) (us:List Value) (Q:VK),Inv X pins σ H s->RelV x v->Vals xs us->r x xs H Q->
  wpAny (model X.prog X.w) X.A (call (.builtin id) (v::us)) (EP X pins σ Q) X.xe s
theorem Vals.one:∀{x:V} {us:List Value},Vals [x] us->∃u,us=[u]/\RelV x u
 | _,_,.cons r .nil=>⟨_,rfl,r⟩
theorem Vals.zero:∀{us:List Value},Vals [] us->us=[]
 | _,.nil=>rfl
section
variable {X:Cx} {pins:List (Addr×Obj)} {σ:St} {H:Hp} {s:Shared} {l:Addr} {xs ys:List V}
theorem Inv.aM4 {its its':List Value} {n:Nat} {f:Array Value->Array Value} {t':Nat} (I:Inv X pins σ H s) (hH:H l=some (.lst xs))
  (e:s.heap.get? l=some {cls:=.type "list",data:=.seq its.toArray n}) (hf:f its.toArray=its'.toArray) (hv:Vals ys its') (hz:ys.length<=sizeLine) :
  Inv X pins σ (upd H l (.lst ys)) {s with heap:=s.heap.update l (Obj.mapSeq f),toks:=t'}:=by
 have q:=PySem.IsL.update e f;rw [hf] at q;refine I.write (x:=l) (e:=l) (by rw [hH];exact trivial) (.inl rfl) (fun b' u hb hu=>(Heap.get?_update_other s.heap (Obj.mapSeq f) (Ne.symm hb)).trans hu) ⟨_,q⟩ ?_;exact ⟨hz,its',_,hv,q⟩
theorem Inv.aN2 {its:List Value} {t':Nat} (I:Inv X pins σ H s) (hv:Vals ys its) (hz:ys.length<=sizeLine) :
  Inv X pins σ (upd H s.heap.objs.size (.lst ys)) {s with heap:=s.heap.push {cls:=.type "list",data:=.seq its.toArray},toks:=t'}:=
 I.laid (fun _ _ q=>Heap.get?_push_of_some _ q) (Nat.le_refl _) ⟨hz,its,0,hv,Heap.get?_push_size _ rfl⟩
theorem Inv.fresh (I:Inv X pins σ H s):H s.heap.objs.size=none:=I.hok.fresh (Nat.le_refl _)
theorem Inv.aM5 (I:Inv X pins σ H s) (hH:H l=some (.lst xs)):xs.length<=sizeLine/\∃(its:List Value) (n:Nat),Vals xs its/\xs.length=its.length/\s.heap.get? l=some {cls:=.type "list",data:=.seq its.toArray n}:=by
 obtain ⟨z,its,n,r,e⟩:=I.hok l _ hH;exact ⟨z,its,n,r,r.length,e⟩
end
section
variable {X:Cx}
def aEd:V->List V->Hp->VK->Prop:=fun x vs H Q=>∃l xs y,x=.ref l/\vs=[y]/\H l=some (.lst xs)/\xs.length<sizeLine/\Q .non (upd H l (.lst (xs++[y])))
theorem xV:MtM X "list.append" aEd:=by
 intro pins s σ H x vs v us Q I rx rv h;obtain ⟨l,xs,y,rfl,rfl,hH,hz,q⟩:=h;cases rx;obtain ⟨u,rfl,ru⟩:=rv.one;obtain ⟨z,its,n,r,hl,e⟩:=I.aM5 hH;refine call_meets F.slot_list_append ⟨_,e,rfl⟩ F.entry_list_append (F.args_list_append_2 _ _) (PySem.list_append l its.toArray n u (by rw [List.size_toArray];lia)) ⟨e,?_⟩;refine ⟨.non,_,I.aM4 (its':=its++[u]) hH e (by simp) (r.append (.cons ru .nil)) ?_,rfl,q⟩;rw [List.length_append,List.length_singleton];lia
end
section
variable {κ:Type} [DecidableEq κ]
noncomputable def zQ (kvs:List (κ×V)) (k:κ):Option V:=(kvs.find? fun kv=>decide (kv.1=k)).map (·.2)
noncomputable def putK (kvs:List (κ×V)) (k:κ) (v:V):List (κ×V):=
 if (kvs.any fun kv=>decide (kv.1=k))=true then kvs.map (fun kv=>if kv.1=k then (kv.1,v) else kv) else kvs++[(k,v)]
theorem oM {p:κ×V} {r:List (κ×V)} {k:κ} (e:p.1=k):zQ (p::r) k=some p.2:=by simp [zQ,List.find?_cons,e]
theorem oN {p:κ×V} {r:List (κ×V)} {k:κ} (e:¬p.1=k):zQ (p::r) k=zQ r k:=by simp [zQ,List.find?_cons,e]
theorem oO (k:κ):∀kvs:List (κ×V),(kvs.any fun kv=>decide (kv.1=k))=(zQ kvs k).isSome
 | []=>rfl
 | p::r=>by
  rw [List.any_cons];by_cases e:p.1=k
  ·simp only [oM e,decide_eq_true e,Bool.true_or,Option.isSome_some]
  ·rw [oN e,decide_eq_false e,Bool.false_or];exact oO k r
theorem nT (kvs:List (κ×V)) (k:κ) (v:V):(putK kvs k v).length<=kvs.length+1:=by
 unfold putK;split
 ·rw [List.length_map];lia
 ·rw [List.length_append,List.length_cons,List.length_nil];lia
theorem aAq {kvs:List (κ×V)} {k:κ} (v:V) (h:zQ kvs k=none):putK kvs k v=kvs++[(k,v)]:=by
 unfold putK;rw [oO,h];exact if_neg (by decide)
theorem L_.xW {o:Option V} {u:Option Value} (r:L_ o u):o.isSome=u.isSome:=by
 cases o with
 | none=>cases u with
  | none=>rfl
  | some _=>exact (show False from r).elim
 | some _=>cases u with
  | none=>exact (show False from r).elim
  | some _=>rfl
theorem KV.val {kvs:List (κ×V)} {vs:List (κ×Value)} (r:KV kvs vs) (k:κ):L_ (zQ kvs k) (valueAt vs k):=by
 unfold KV at r;induction r with
 | nil=>exact True.intro
 | @cons p q ps qs h t ih=>
  obtain ⟨h1,h2⟩:=h;by_cases e:p.1=k
  ·have e':q.1=k:=h1.symm.trans e;have b:valueAt (q::qs) k=some q.2:=by simp [valueAt,List.find?_cons,e']
   rw [oM e,b];exact h2
  ·have e':¬q.1=k:=fun z=>e (h1.trans z)
   have b:valueAt (q::qs) k=valueAt qs k:=by simp [valueAt,List.find?_cons,e']
   rw [oN e,b];exact ih
theorem KV.any {kvs:List (κ×V)} {vs:List (κ×Value)} (r:KV kvs vs) (k:κ):(kvs.any fun kv=>decide (kv.1=k))=vs.any fun kv=>decide (kv.1=k):=by
 unfold KV at r;induction r with
 | nil=>rfl
 | cons h t ih=>rw [List.any_cons,List.any_cons,ih,h.1]
theorem KV.repl {kvs:List (κ×V)} {vs:List (κ×Value)} (r:KV kvs vs) (k:κ) {y:V} {u:Value} (ry:RelV y u) :
  KV (kvs.map fun kv=>if kv.1=k then (kv.1,y) else kv) (vs.map fun kv=>if kv.1=k then (kv.1,u) else kv):=by
 unfold KV at r ⊢;induction r with
 | nil=>exact .nil
 | @cons p q ps qs h t ih=>
  rw [List.map_cons,List.map_cons];refine .cons ?_ ih;obtain ⟨h1,h2⟩:=h;by_cases e:p.1=k
  ·rw [if_pos e,if_pos (h1.symm.trans e)];exact ⟨h1,ry⟩
  ·rw [if_neg e,if_neg (fun z=>e (h1.trans z))];exact ⟨h1,h2⟩
theorem KV.put {kvs:List (κ×V)} {vs:List (κ×Value)} (r:KV kvs vs) (k:κ) {y:V} {u:Value} (ry:RelV y u):KV (putK kvs k y) (stored vs k u):=by
 unfold putK stored;rw [r.any k];by_cases e:(vs.any fun kv=>decide (kv.1=k))=true
 ·rw [if_pos e,if_pos e];exact r.repl k ry
 ·rw [if_neg e,if_neg e];exact Paired.snoc r ⟨rfl,ry⟩
theorem KV.length {kvs:List (κ×V)} {vs:List (κ×Value)} (r:KV kvs vs):kvs.length=vs.length:=Paired.length r
end
theorem JC {P:Program} {w:World} {k:Key} {u:Value} (r:RelV (kV k) u):(bT P w).is k u=true:=by
 cases k with
 | inl i=>obtain ⟨t,e⟩:=(show ∃t,u=Value.int i t from r);subst e;exact M3 P w i t
 | inr x=>obtain ⟨t,e⟩:=(show ∃t,u=Value.str x t from r);subst e;exact M4 P w x t
theorem JD {P:Program} {w:World}:∀{ks:List Key} {us:List Value},Vals (ks.map kV) us->ItemsAre (bT P w) ks us
 | [],_,r=>by rw [List.map_nil] at r;cases r;exact .nil
 | k::ks,_,r=>by
  rw [List.map_cons] at r;cases r with
  | cons h t=>exact .cons (JC h) (JD t)
abbrev KT (H:Hp):List (List Key×V)->List (List Key×Addr×Value)->Prop:=Paired fun p q=>p.1=q.1/\H q.2.1=some (.tup (p.1.map kV))/\RelV p.2 q.2.2
theorem KT.val {H:Hp} {kvs:List (List Key×V)} {xs:List (List Key×Addr×Value)} (r:KT H kvs xs) (k:List Key):L_ (zQ kvs k) ((atKey xs k).map (·.2)):=by
 induction r with
 | nil=>exact True.intro
 | @cons p q ps qs h t ih=>
  obtain ⟨h1,_,h2⟩:=h;by_cases e:p.1=k
  ·have e':q.1=k:=h1.symm.trans e;have b:atKey (q::qs) k=some q.2:=by simp [atKey,List.find?_cons,e']
   rw [oM e,b];exact h2
  ·have e':¬q.1=k:=fun z=>e (h1.trans z)
   have b:atKey (q::qs) k=atKey qs k:=by simp [atKey,List.find?_cons,e']
   rw [oN e,b];exact ih
theorem KT.repl {H:Hp} {kvs:List (List Key×V)} {xs:List (List Key×Addr×Value)} (r:KT H kvs xs) (k:List Key) {y:V} {u:Value} (ry:RelV y u) :
  KT H (kvs.map fun kv=>if kv.1=k then (kv.1,y) else kv) (xs.map (putAt k u)):=by
 induction r with
 | nil=>exact .nil
 | @cons p q ps qs h t ih=>
  rw [List.map_cons,List.map_cons];refine .cons ?_ ih;obtain ⟨h1,h2,h3⟩:=h;unfold putAt;by_cases e:p.1=k
  ·rw [if_pos e,if_pos (h1.symm.trans e)];exact ⟨h1,h2,ry⟩
  ·rw [if_neg e,if_neg (fun z=>e (h1.trans z))];exact ⟨h1,h2,h3⟩
theorem KT.put {H:Hp} {kvs:List (List Key×V)} {xs:List (List Key×Addr×Value)} (r:KT H kvs xs) (k:List Key) {b:Addr} {y:V} {u:Value} (hb:H b=some (.tup (k.map kV))) (ry:RelV y u) :
  KT H (putK kvs k y) (storedH xs k b u):=by
 have e:(kvs.any fun kv=>decide (kv.1=k))=(atKey xs k).isSome:=by
  rw [oO,(r.val k).xW,Option.isSome_map]
 unfold putK storedH;rw [e];by_cases q:(atKey xs k).isSome=true
 ·rw [if_pos q,if_pos q];exact r.repl k ry
 ·rw [if_neg q,if_neg q];exact Paired.snoc r ⟨rfl,hb,ry⟩
theorem KT.keeps {H H':Hp} {kvs:List (List Key×V)} {xs:List (List Key×Addr×Value)} (r:KT H kvs xs) (ht:∀b ys,H b=some (.tup ys)->H' b=some (.tup ys)):KT H' kvs xs:=
 Paired.aKg r fun _ _ z=>⟨z.1,ht _ _ z.2.1,z.2.2⟩
section
variable {P:Program} {w:World} {H:Hp} {h:Heap} {a:Addr}
theorem aHp {u:HO} (ok:HOk P w H h) (e:Rd H a u):fD P w H h a u:=e.ok ok
theorem UW {kvs:List (Key×V)} (ok:HOk P w H h) (e:Rd H a (.dK kvs)):kvs.length<=sizeLine/\(a==sysModules)=false/\∃vs,KV kvs vs/\h.DictOf (bT P w) a vs:=
 show fD P w H h a (.dK kvs) from aHp ok e
theorem U0 {kvs:List (Key×V)} (ok:HOk P w H h) (e:H a=some (.dK kvs)):kvs.length<=sizeLine/\(a==sysModules)=false/\∃vs,KV kvs vs/\h.DictOf (bT P w) a vs:=UW ok (.inl e)
theorem QV {ks:List Key} (ok:HOk P w H h) (e:H a=some (.tup (ks.map kV))):(tupleKind (bT P w)).is h ks a:=by
 obtain ⟨_,its,r,o,h1,h2,n,h3⟩:=(show fD P w H h a (.tup (ks.map kV)) from ok a _ e)
 exact ⟨o,its.toArray,n,h1,h2,congrArg (·.1) h3,by simpa using JD r⟩
theorem aAr {kvs:List (List Key×V)} (ok:HOk P w H h) (e:Rd H a (.dT kvs)):kvs.length<=sizeLine/\(a==sysModules)=false/\
  ∃xs,KT H kvs xs/\h.DictOfH (tupleKind (bT P w)) a xs:=by
 obtain ⟨z,y,xs,r,o,es,ep,h1,h2,h3,h4,h5⟩:=(show fD P w H h a (.dT kvs) from aHp ok e)
 refine ⟨z,y,xs,r,o,es,ep,h1,h2,h3,h4,fun x hx=>?_,h5⟩;have all:∀{l:List (List Key×V)} {m:List (List Key×Addr×Value)},KT H l m->∀x∈m,(tupleKind (bT P w)).is h x.1 x.2.1:=by
  intro l m q;induction q with
  | nil=>intro x hx;exact nomatch hx
  | @cons p q ps qs hq t ih=>
   intro x hx;rcases List.mem_cons.mp hx with e|hx
   ·subst e;exact QV ok (by rw [<-hq.1];exact hq.2.1)
   ·exact ih x hx
 exact all r x hx
theorem aEe {kvs:List (List Key×V)} (ok:HOk P w H h) (e:H a=some (.dT kvs)):kvs.length<=sizeLine/\(a==sysModules)=false/\
  ∃xs,KT H kvs xs/\h.DictOfH (tupleKind (bT P w)) a xs:=aAr ok (.inl e)
end
def aA8 (H:Hp) (a:Addr) (y:V) (r:Option V):Prop:=
 (∃kvs k,Rd H a (.dK kvs)/\y=kV k/\r=zQ kvs k)\/∃kvs k b,Rd H a (.dT kvs)/\y=.ref b/\H b=some (.tup (k.map kV))/\r=zQ kvs k
def aCv (H:Hp) (a:Addr) (y v:V) (H':Hp):Prop:=
 (∃kvs k,H a=some (.dK kvs)/\y=kV k/\kvs.length<sizeLine/\H'=upd H a (.dK (putK kvs k v)))\/
 ∃kvs k b,H a=some (.dT kvs)/\y=.ref b/\H b=some (.tup (k.map kV))/\kvs.length<sizeLine/\H'=upd H a (.dT (putK kvs k v))
theorem aA8.k {H:Hp} {a:Addr} {kvs:List (Key×V)} {k:Key} (e:H a=some (.dK kvs)):aA8 H a (kV k) (zQ kvs k):=.inl ⟨kvs,k,.inl e,rfl,rfl⟩
theorem aA8.t {H:Hp} {a b:Addr} {kvs:List (List Key×V)} {k:List Key} (e:H a=some (.dT kvs)) (eb:H b=some (.tup (k.map kV))):aA8 H a (.ref b) (zQ kvs k):=.inr ⟨kvs,k,b,.inl e,rfl,eb,rfl⟩
theorem aCv.k {H:Hp} {a:Addr} {kvs:List (Key×V)} {k:Key} {v:V} (e:H a=some (.dK kvs)) (hl:kvs.length<sizeLine):aCv H a (kV k) v (upd H a (.dK (putK kvs k v))):=.inl ⟨kvs,k,e,rfl,hl,rfl⟩
theorem aCv.t {H:Hp} {a b:Addr} {kvs:List (List Key×V)} {k:List Key} {v:V} (e:H a=some (.dT kvs)) (eb:H b=some (.tup (k.map kV))) (hl:kvs.length<sizeLine) :
  aCv H a (.ref b) v (upd H a (.dT (putK kvs k v))):=.inr ⟨kvs,k,b,e,rfl,eb,hl,rfl⟩
section
variable {X:Cx} {pins:List (Addr×Obj)} {σ:St} {H:Hp} {s:Shared} {a:Addr} {y v:V} {u r:Value} {o:Option V} {A:Around} {E:Value->Shared->Prop}
theorem Inv.big (I:Inv X pins σ H s):sysModules<s.heap.objs.size:=by
 have h:mainGlobals<s.heap.objs.size:=(I.mod.glob.keeps I.bk).lt;exact Nat.lt_trans (by decide) h
theorem W9 {Q:Value->Shared->Prop} (hu:A.units+1<cLine) (I:Inv X pins σ H s) (g:aA8 H a y (some v)) (ry:RelV y u) (h:∀w' s',Inv X pins σ H s'->RelV v w'->Q w' s') :
  wpAny (model X.prog X.w) A (getItem (.ref a) u) Q E s:=by
 rcases g with ⟨kvs,k,e,ey,l⟩|⟨kvs,k,b,e,ey,eb,l⟩
 ·subst ey;obtain ⟨z,hd,vs,rel,dd⟩:=UW I.hok e;obtain ⟨w',hw,rw'⟩:=L_.some_of (v:=v) (o:=valueAt vs k) (by rw [l];exact rel.val k);exact wpAny_getItem_of (JC ry) dd.mapOf hw (h w' _ (I.tok _) rw')
 ·subst ey;cases (show u=Value.ref b from ry);obtain ⟨z,hd,xs,rel,dd⟩:=aAr I.hok e;obtain ⟨w',hw,rw'⟩:=L_.some_of (v:=v) (o:=(atKey xs k).map (·.2)) (by rw [l];exact rel.val k);obtain ⟨p,hp,hp2⟩:=Option.map_eq_some_iff.mp hw;refine wpAny_getItem_heap (tupleKind_room_in1 hu) (QV I.hok eb) dd hp ?_;rw [hp2];exact h w' _ (I.tok _) rw'
theorem aEf {Q:Value->Shared->Prop} (hu:A.units+1<cLine) (I:Inv X pins σ H s) (g:aA8 H a y o) (ry:RelV y u) (h:∀s',Inv X pins σ H s'->Q (.bool (!o.isSome)) s') :
  wpAny (model X.prog X.w) A (compareOp .NotIn u (.ref a)) Q E s:=by
 rcases g with ⟨kvs,k,e,ey,l⟩|⟨kvs,k,b,e,ey,eb,l⟩
 ·subst ey;obtain ⟨z,hd,vs,rel,dd⟩:=UW I.hok e;refine wpAny_notIn_of (JC ry) hd dd.mapOf ?_;rw [<-(rel.val k).xW,<-l];exact h _ (I.tok _)
 ·subst ey;cases (show u=Value.ref b from ry);obtain ⟨z,hd,xs,rel,dd⟩:=aAr I.hok e;refine wpAny_notIn_heap (tupleKind_room_in1 hu) (QV I.hok eb) hd dd ?_;have q:=(rel.val k).xW;rw [Option.isSome_map] at q;rw [<-q,<-l];exact h _ (I.tok _)
theorem W_ {h':Heap} {t':Nat} {ob:HO} (I:Inv X pins σ H s) (mu:Mut (H a)) (hs:Heap.SameBut a s.heap h') (he:∃q,h'.get? a=some q) (new:fD X.prog X.w (upd H a ob) h' a ob) :
  Inv X pins σ (upd H a ob) {s with heap:=h',toks:=t'}:=
 I.write (x:=a) (e:=a) mu (.inl rfl) (fun b q hb z=>(hs.2 b hb).trans z) he new
theorem XF {P:Program} {w:World} {H':Hp} {h':Heap} {kvs:List (Key×V)} {vs:List (Key×Value)} (z:kvs.length<=sizeLine) (hd:(a==sysModules)=false) (rel:KV kvs vs) (dd:h'.DictOf (bT P w) a vs) :
  fD P w H' h' a (.dK kvs):=⟨z,hd,vs,rel,dd⟩
theorem XH {H':Hp} {Q:Unit->Shared->Prop} (hu:A.units+1<cLine) (I:Inv X pins σ H s) (g:aCv H a y v H') (ry:RelV y u) (rv:RelV v r) (h:∀s',Inv X pins σ H' s'->Q () s') :
  wpAny (model X.prog X.w) A (setItem (.ref a) u r) Q E s:=by
 rcases g with ⟨kvs,k,e,ey,l,eH⟩|⟨kvs,k,b,e,ey,eb,l,eH⟩
 ·subst ey eH;obtain ⟨z,hd,vs,rel,dd⟩:=U0 I.hok e;have hz:vs.length<=sizeLine:=by rw [<-rel.length];exact z
  have hl:(putK kvs k v).length<=sizeLine:=by have:=nT kvs k v;lia
  refine wpAny_setItem_pairs (hsz:=hz) (JC ry) dd fun h' dd' hs=>h _ ?_
  have he:∃q,h'.get? a=some q:=let ⟨q,_,_,hq,_⟩:=dd';⟨q,hq⟩
  exact W_ I (by rw [e];exact True.intro) hs he (XF hl hd (rel.put k rv) dd')
 ·subst ey eH;cases (show u=Value.ref b from ry);obtain ⟨z,hd,xs,rel,dd⟩:=aEe I.hok e;have hz:xs.length<=sizeLine:=by rw [<-Paired.length rel];exact z
  have hl:(putK kvs k v).length<=sizeLine:=by have:=nT kvs k v;lia
  refine wpAny_setItem_heap (hsz:=hz) (tupleKind_room_in1 hu) (QV I.hok eb) dd fun h' dd' hs=>h _ ?_
  obtain ⟨q,es,ep,hq,h2,h3,h4,_,h5⟩:=dd';refine W_ I (by rw [e];exact True.intro) hs ⟨q,hq⟩ ⟨hl,hd,_,(rel.put k eb rv).keeps fun c ys ec=>?_,q,es,ep,hq,h2,h3,h4,h5⟩;rw [aR (M6 ec e (fun z=>nomatch z))];exact ec
end
theorem NK {X:Cx} {pins:List (Addr×Obj)} {σ:St} {H:Hp} {s:Shared} {a:Addr} {y:V} {o:Option V} (I:Inv X pins σ H s) (g:aA8 H a y o):s.TypeIs (.ref a) "dict":=by
 rcases g with ⟨kvs,k,e,_,_⟩|⟨kvs,k,b,e,_,_,_⟩
 ·obtain ⟨_,_,vs,_,dd⟩:=UW I.hok e;exact dd.typeIs
 ·obtain ⟨_,_,xs,_,dd⟩:=aAr I.hok e;exact dd.typeIs
theorem aAs {P:Program} {w:World} {H:Hp} (h:Heap) (hb:sysModules<h.objs.size):fD P w H (h.push {cls:=.type "dict",data:=.dict #[]}) h.objs.size (.dK []):=
 ⟨Nat.zero_le _,beq_eq_false_iff_ne.mpr (Ne.symm (Nat.ne_of_lt hb)),[],.nil,Heap.DictOf.new h⟩
def aHq:TE:=fun _ H Q=>∀p,H p=none->Q (.ref p) (upd H p (.dK []))
section
variable {X:Cx} {pos:Pos}
theorem aAt:PE X (.Dict [] [] pos) aHq:=fun pins s σ H Q I h=>
 wpAny_Dict_empty ⟨.ref s.heap.objs.size,_,I.laid (a:=s.heap.objs.size) (o:=.dK []) (t':=s.toks) (fun _ _ q=>Heap.get?_push_of_some _ q) (Nat.le_refl _) (aAs s.heap I.big),rfl,h _ (I.hok.fresh (Nat.le_refl _))⟩
end
def fH (kvs more:List (Key×V)):List (Key×V):=more.foldl (fun acc kv=>putK acc kv.1 kv.2) kvs
theorem KV.merge:∀{more:List (Key×V)} {rs:List (Key×Value)} {kvs:List (Key×V)} {vs:List (Key×Value)},KV more rs->KV kvs vs->KV (fH kvs more) (merged vs rs):=by
 intro more rs kvs vs r;unfold KV at r;induction r generalizing kvs vs with
 | nil=>intro q;exact q
 | @cons p q ps qs h t ih=>
  intro r0;have e:KV (putK kvs p.1 p.2) (stored vs q.1 q.2):=by
   have:=r0.put p.1 h.2;rw [<-h.1];exact this
  exact ih e
theorem kE:∀(more kvs:List (Key×V)),(fH kvs more).length<=kvs.length+more.length
 | [],kvs=>by show kvs.length<=kvs.length+0;lia
 | p::r,kvs=>by
  have h1:=kE r (putK kvs p.1 p.2);have h2:=nT kvs p.1 p.2;show (fH (putK kvs p.1 p.2) r).length<=_;rw [List.length_cons];lia
end L2
namespace Att
open PySem PySem.W PySem.Calls PyProof.Rows
theorem xX {P:Params} {h:Heap}:∀(ns:List Int) (vs:List Value),WellAll P h vs (ns.map WData.int)->IntsAre vs ns:=by
 intro ns;induction ns with
 | nil=>
  intro vs w;rw [List.map_nil] at w;cases w;exact .nil
 | cons n ns ih=>
  intro vs w;rw [List.map_cons] at w;cases w with
  | cons a b=>
   cases a;exact .cons _ _ (ih _ b)
theorem XJ {l:OpenLaw} {n:Nat} (hn:l.most=some n) {P:Params} {h:Heap} {args:List WData} {vals:List Value}
  (hpre:l.row.toRowW.claim.pre args=true) (hwl:WellAll P h vals args) :
  ∃a vs ns,vals=[Value.ref a]/\args=[WData.list (ns.map WData.int)]/\h.get? a=some {cls:=.type "list",data:=.seq vs.toArray}/\IntsAre vs ns/\ns.length<=n:=by
 have hsh:WShape.hasAll [] args [.list .int]=true:=(pre_splitW hpre).1;have hc:l.pre.holds [] {args:=args}=true:=(pre_splitW hpre).2;obtain ⟨d,r,rfl,h1,h2⟩:=hasAllW_cons hsh;obtain rfl:=hasAllW_nil h2;obtain ⟨xs,rfl,h3⟩:=hasW_list h1;obtain ⟨ns,rfl⟩:=items_int h3;have hlen:ns.length<=n:=by
  unfold OpenLaw.pre at hc;have h4:(WTm.not (.lt (.lit (.int (n:Int))) (.len (.arg 0)))).holds [] {args:=[.list (ns.map .int)]}=true:=by
   have h4:=(holds_andW hc).1;rw [hn] at h4;exact h4
  have h5:=condW_of h4 (w_not (w_lt w_lit (w_len_list (w_arg rfl))));rw [List.length_map] at h5;refine Nat.le_of_not_lt fun q=>?_
  have q':(n:Int)<((ns.length:Nat):Int):=by lia
  first
   | (rw [decide_eq_true q'] at h5;exact absurd h5 (by decide))
   | (simp at h5;lia)
 cases hwl with
 | cons w1 w2=>
  cases w2;cases w1 with
  | list ho hall=>exact ⟨_,_,ns,rfl,rfl,ho,xX ns _ hall,hlen⟩
theorem XM (l:OpenLaw) (args:List WData):l.row.toRowW.claim.post args (.bool true) args=true:=
 postW_of (r:=l.row.toRowW) (X:=(true==true))
  (show WShape.has [] (.bool true) .bool=true by first|rfl|decide|simp [WShape.has,WShape.arms,WShape.armsAll])
  (show (WTm.eq .res (.lit (.bool true))).value [] {args:=args,res:=some (.bool true),after:=args}=some (.bool (true==true)) from w_eq_bool (w_res rfl) w_lit) rfl
theorem NP {l:OpenLaw} {n:Nat} {q:Program} {loose:List Str} {XP:(Str->Option Value)->Heap->Prop} {YP:World->Heap->Prop} {d:DefRec}
  (hn:l.most=some n) (hdf:d.params.defaults=[])
  (call:∀(w:World) (s₀ s₁:Shared) (mg mb:Str->Option Value) (fa:Addr) (o:Obj) (pm cd doc:Value) (a:Addr) (vs:List Value) (ns:List Int),
   Ground q loose [] XP w s₀ mg mb s₁.heap->YP w s₁.heap->
   s₁.heap.get? fa=some o->o.data=.func (docDef d.name d.params d.body d.scope pm cd doc)->s₁.heap.CodeRec cd d.name->mg d.name=some (.ref fa)->
   s₁.heap.get? a=some {cls:=.type "list",data:=.seq vs.toArray}->IntsAre vs ns->ns.length<=n->s₁.gens=#[]->
   codeAny (model l.prog w) callerA (.call (.ref fa) ⟨[.ref a],[]⟩) (fun r s'=>r=.ok (.ret (.bool true))/\OldK s₁.heap s'.heap/\s'.os=s₁.os/\AllBare s'.gens) s₁) :
  WalkO q loose XP YP l.row.toRowW d [] (fun f vs=>PySem.call f vs):=by
 intro w s₀ s₁ mg mb G Y fa o pm cd doc dV kV ho hd hcd hD hmg hg args vals as hpre hlay hrd hwl hlo;obtain rfl:dV=.none:=Dflts.none hD hdf;obtain rfl:kV=.none:=Dflts.noKw hD;obtain ⟨a,vs,ns,rfl,rfl,hobj,hints,hlen⟩:=XJ hn hpre hwl;refine enter_call (codeAny_mono (call w s₀ s₁ mg mb fa o pm cd doc a vs ns G Y ho (fd_plain hd) hcd hmg hobj hints hlen hg) fun r s' hq=>?_);obtain ⟨rfl,h2,h3,h4⟩:=hq;exact ⟨.inl ⟨.bool true,.bool true,[],rfl,fun _=>rfl,.bool true,XM l _,fun _=>⟨List.Pairwise.nil,fun _ hm=>(nomatch hm)⟩⟩,h2,h3,h4⟩
end Att
namespace L2
open PySem PySem.Spec PyProof.Rows
theorem JF:∀{vs:List Value} {ns:List Int},IntsAre vs ns->Vals (ns.map V.int) vs
 | _,_,.nil=>.nil
 | _,_,.cons n t h=>.cons ⟨t,rfl⟩ (JF h)
def Only (H:Hp):Prop:=∀b,H b=none\/∃o xs,H b=some (.frz o (.lst xs))
theorem aAu {P:Program} {w:World} {K:PySem.W.Frag} {mg mb:Str->Option Value} {CX:CXT} {k:Nat} {fa a:Addr} {fd:FuncData} {x:Str} {sp:Sp} {s₁:Shared} {vs:List Value} {ns:List Int}
  (KX:K.In s₁.heap) (hns:s₁.heap.Ns mainGlobals mg) (hb:s₁.heap.Ns builtinsNs mb) (hbb:∀x:Str,x ≠ "__name__"->mb x=bootBuiltins x) (hlim:s₁.heap.NoLimit) (hg:s₁.gens=#[])
  (ha:s₁.heap.get? a=some {cls:=.type "list",data:=.seq vs.toArray}) (hi:IntsAre vs ns) (hl:ns.length<=sizeLine) (hr:iI k callerA)
  (F:∀base:Heap,K.In base->base.Ns mainGlobals mg->jQ P w K mg base CX k fa fd [x] sp) (hbind:∀(s:Shared) (u:Value),BindsTo s fd ⟨[u],[]⟩ [(x,u)])
  (hsp:∀H:Hp,Only H->SqL K H a (ns.map V.int)->sp [.ref a] H (fun v _=>v=.bl true) fun _ _ _=>False)
  (hCX:∀H e s',CX [] H s₁ (fun _ _ _=>False) e s'->False) :
  codeAny (model P w) callerA (.call (.ref fa) ⟨[.ref a],[]⟩) (fun r s'=>r=.ok (.ret (.bool true))/\OldK s₁.heap s'.heap/\s'.os=s₁.os/\AllBare s'.gens) s₁:=by
 have rv:=JF hi;have lenV:=hi.length
 -- from an abstract heap in which nothing but the script may be tracked
 have core:∀H:Hp,Only H->SqL K H a (ns.map V.int)->HOk P w H s₁.heap->(∀b,H b≠none->b=a)->(H a≠none->K.lookup a=none)->
   codeAny (model P w) callerA (.call (.ref fa) ⟨[.ref a],[]⟩) (fun r s'=>r=.ok (.ret (.bool true))/\OldK s₁.heap s'.heap/\s'.os=s₁.os/\AllBare s'.gens) s₁:=by
  intro H hO hS hok hA hK;have base_of:∀{b:Addr} {o:Obj},s₁.heap.get? b=some o->H b=none->(aAd s₁.heap H).get? b=some o:=fun e n=>aAe e n
  have noA:∀{b:Addr} {o:Obj} {es:Array DictEntry} {ep:Nat},s₁.heap.get? b=some o->o.data=.dict es ep->H b=none:=fun {b o es ep} e d=>by
   cases q:H b with
   | none=>rfl
   | some u=>
    have e':b=a:=hA b (by rw [q];simp);subst e';rw [ha] at e;cases e;have d':Data.seq vs.toArray _=Data.dict es ep:=d;cases d'
  have nsK:∀{b:Addr} {m:Str->Option Value},s₁.heap.Ns b m->(aAd s₁.heap H).Ns b m:=fun {b m} ⟨o,es,ep,e,d,r⟩=>⟨o,es,ep,base_of e (noA e d),d,r⟩
  have hKb:K.In (aAd s₁.heap H):=fun b o e=>base_of (KX b o e) (by
   cases q:H b with
   | none=>rfl
   | some u=>
    have e':b=a:=hA b (by rw [q];simp);subst e';rw [hK (by rw [q];simp)] at e;cases e)
  have hM:Mod K mg (aAd s₁.heap H):=⟨hKb,nsK hns,⟨mb,nsK hb,hbb⟩,let ⟨mc,h1,h2⟩:=hlim;⟨mc,nsK h1,h2⟩⟩
  have e0:aE3 P w K mg (aAd s₁.heap H) callerA [] s₁ H:=⟨rfl,hM,fun b o e=>aDt e,Nat.le_of_eq (WK _ _),trivial,fun b hb=>absurd (show b∈([]:List Addr) from hb) (by simp),hok,.of_eq hg⟩
  refine codeAny_mono ((F _ hKb (nsK hns)).run callerA [] s₁ H ⟨[.ref a],[]⟩ [.ref a] [.ref a] _ _ hr e0 (hbind s₁ (.ref a)) (.cons rfl .nil) (hsp H hO hS)) fun r s' h=>?_
  cases r with
  | error e=>exact (hCX H e s' h).elim
  | ok fl=>
   cases fl with
   | next=>exact False.elim h
   | brk=>exact False.elim h
   | cont=>exact False.elim h
   | ret u=>
    obtain ⟨v,H',os,bare,un,hok',r',q⟩:=h;have q':v=.bl true:=q;subst q';obtain rfl:u=Value.bool true:=r';refine ⟨rfl,OldK.of_keep fun b o e=>?_,os,bare⟩;cases q:H b with
    | none=>exact un.keep b o e q (by intro z;exact absurd (show b∈([]:List Addr) from z) (by simp)) (by simp)
    | some u=>
     rcases hO b with z|⟨ob,xs,z⟩
     ·rw [q] at z;cases z
     ·have z2:=un.frzs b ob _ z;obtain ⟨e1,_⟩:=hok b _ z;obtain ⟨e2,_⟩:=hok' b _ z2;rw [e] at e1;cases e1;exact e2
 cases hk:K.lookup a with
 | some o=>
  -- the script is one of the module's own objects
  have e:=KX a o hk;rw [ha] at e;cases e;refine core (fun _=>none) (fun _=>.inl rfl) (.inr ⟨_,vs.toArray,_,hk,rfl,rfl,rfl,by rw [List.size_toArray,lenV];exact hl,by simpa using rv⟩) (fun b u z=>by have z':(none:Option HO)=some u:=z;cases z') (fun b z=>absurd rfl z) fun z=>absurd rfl z
 | none=>
  refine core (fun b=>if b=a then some (.frz {cls:=.type "list",data:=.seq vs.toArray} (.lst (ns.map V.int))) else none) (fun b=>?_) (.inl (.inr ⟨{cls:=.type "list",data:=.seq vs.toArray},if_pos rfl⟩)) (fun b u z=>?_) (fun b z=>?_) fun _=>hk
  ·by_cases hb:b=a
   ·exact .inr ⟨_,_,if_pos hb⟩
   ·exact .inl (if_neg hb)
  ·by_cases hb:b=a
   ·have z':=(if_pos hb).symm.trans z;cases z';subst hb;exact ⟨ha,by rw [List.length_map];exact hl,vs,_,rv,ha⟩
   ·have z':=(if_neg hb).symm.trans z;cases z'
  ·by_cases hb:b=a
   ·exact hb
   ·exact absurd (if_neg hb) z
theorem aEg {l:PySem.W.OpenLaw} {n k:Nat} {q:Program} {loose:List Str} {XP:(Str->Option Value)->Heap->Prop} {YP:World->Heap->Prop} {d:DefRec} {K:Params->PySem.W.Frag} {CX:World->CXT} {sp:World->Sp} {x:Str}
  (hn:l.most=some n) (hn2:n<=sizeLine) (hdf:d.params.defaults=[]) (hr:iI k callerA)
  (hY:∀(w:World) (h:Heap),YP w h->(K w.params).In h)
  (F:∀(w:World) (mg:Str->Option Value) (fa:Addr) (h:Heap),(K w.params).In h->h.Ns mainGlobals mg->mg d.name=some (.ref fa)->
   ∃fd:FuncData,(∀(s:Shared) (u:Value),BindsTo s fd ⟨[u],[]⟩ [(x,u)])/\
    ∀base:Heap,(K w.params).In base->base.Ns mainGlobals mg->jQ l.prog w (K w.params) mg base (CX w) k fa fd [x] (sp w))
  (hsp:∀(w:World) (H:Hp) (a:Addr) (ns:List Int),ns.length<=n->Only H->SqL (K w.params) H a (ns.map V.int)->sp w [.ref a] H (fun v _=>v=.bl true) fun _ _ _=>False)
  (hCX:∀(w:World) (H:Hp) (s:Shared) (e:Value) (s':Shared),CX w [] H s (fun _ _ _=>False) e s'->False) :
  PySem.W.WalkO q loose XP YP l.row.toRowW d [] (fun f vs=>PySem.call f vs):=by
 refine Att.NP hn hdf fun w s₀ s₁ mg mb fa o pm cd doc a vs ns G Y ho hd hcd hmg hobj hints hlen hg=>?_
 have KX:=hY w _ Y;obtain ⟨fd,hb,hF⟩:=F w mg fa _ KX G.T.g hmg;exact aAu KX G.T.g G.T.b G.T.builtins G.T.nolimit hg hobj hints (Nat.le_trans hlen hn2) hr hF hb (fun H hO hS=>hsp w H a ns hlen hO hS) fun H e s'=>hCX w H s₁ e s'
noncomputable def dW (s:Stmt):Arguments:=match s with
 | .FunctionDef _ a _ _ _ _ _ _ _ _=>a
 | _=>{posonlyargs:=[],args:=[],vararg:=none,kwonlyargs:=[],kw_defaults:=[],kwarg:=none,defaults:=[]}
noncomputable def cN (s:Stmt):List Stmt:=match s with
 | .FunctionDef _ _ b _ _ _ _ _ _ _=>b
 | _=>[]
noncomputable def aK (s:Stmt):Scope:=match s with
 | .FunctionDef _ _ _ _ _ _ sc _ _ _=>sc
 | _=>{kind:=.function,names:=[],isGenerator:=false,isCoroutine:=false}
noncomputable abbrev CX0:CXT:=fun _ _ _ _ _ _=>False
noncomputable abbrev E0:XK:=fun _ _ _=>False
theorem DN {X:Cx}:oJ CX0 X E0:=fun _ _ _ _ _ _ _ h=>h.elim
structure Fun (K:PySem.W.Frag) (x qual:Str) (st:Stmt) (f:Addr) (fd:FuncData):Prop where
 ex:∃(oc:Value) (od:Option Addr) (kV doc pm:Value) (an:Option Addr) (cdv ct:Value) (osl:Array (Option Value)),
  fd=PySem.W.fnOf x qual (dW st) (cN st) (aK st) .none kV doc pm an cdv ct/\K.lookup f=some ⟨oc,od,.func fd,osl⟩/\PySem.W.codeIn K cdv qual=true
 kp:PySem.W.keepIn K (.ref f)=true
section
variable {P:Program} {w:World} {K:PySem.W.Frag} {mg:Str->Option Value} {base:Heap}
theorem Fun.ok {x qual:Str} {st:Stmt} {f:Addr} {fd:FuncData} {N ps:List Str} {k:Nat} {sp:Sp} (F:Fun K x qual st f fd) (S:bL N ps (aK st)) (len:∀vs H Q E,sp vs H Q E->vs.length=ps.length)
  (hbody:∀(cdv:Value) (A:Around) (outer:List Env) (s:Shared) (H:Hp) (vs:List V) (Q:VK) (E:XK),iI k (A.deeper (envOfC qual (aK st) s.heap.objs.size f cdv))->sp vs H Q E->
   ∃t,PSs (CG CX0 P w K mg base N qual (aK st) f cdv A outer s H E).nox (cN st) t/\t {nx:=fun _ H'=>Q .non H',rt:=Q} (start N vs) H):jQ P w K mg base CX0 (k+1) f fd ps sp:=by
 obtain ⟨oc,od,kV,doc,pm,an,cdv,ct,osl,rfl,lk,hcd⟩:=F.ex;refine aHh lk hcd S len fun A outer s H vs Q E hr hsp=>?_
 obtain ⟨t,h,q⟩:=hbody cdv A outer s H vs Q E hr hsp;exact ⟨t,h.nox,q⟩
theorem Fun.binds {x qual:Str} {st:Stmt} {f:Addr} {fd:FuncData} {ps:List Str} (F:Fun K x qual st f fd)
  (h:∀(kV doc pm:Value) (an:Option Addr) (cdv ct:Value) (us:List Value),us.length=ps.length->bindArgs (PySem.W.fnOf x qual (dW st) (cN st) (aK st) .none kV doc pm an cdv ct) ⟨us,[]⟩=pure (ps.zip us)):Binds K fd ps []:=by
 obtain ⟨oc,od,kV,doc,pm,an,cdv,ct,osl,rfl,lk,hcd⟩:=F.ex;exact .all (h kV doc pm an cdv ct)
theorem bU {x qual:Str} {st:Stmt} {f:Addr} {oc:Value} {od an:Option Addr} {osl:Array (Option Value)} {kV doc pm cdv ct:Value} (l:K.lookup f=some ⟨oc,od,.func (PySem.W.fnOf x qual (dW st) (cN st) (aK st) .none kV doc pm an cdv ct),osl⟩)
  (c:PySem.W.codeIn K cdv qual=true) (k:PySem.W.keepIn K (.ref f)=true):Fun K x qual st f (PySem.W.fnOf x qual (dW st) (cN st) (aK st) .none kV doc pm an cdv ct):=⟨⟨oc,od,kV,doc,pm,an,cdv,ct,osl,rfl,l,c⟩,k⟩
end
def bV (H H':Hp):Prop:=∀b o,H b=some o->H' b=some o
theorem bV.refl (H:Hp):bV H H:=fun _ _ h=>h
theorem bV.trans {H H1 H2:Hp} (a:bV H H1) (b:bV H1 H2):bV H H2:=fun c o h=>b c o (a c o h)
theorem bV.free {H H':Hp} (e:bV H H') {l:Addr} (h:H' l=Option.none):H l=Option.none:=by
 cases q:H l with
 | none=>rfl
 | some o=>
  rw [e l o q] at h;cases h
section
variable {κ:Type} [DecidableEq κ]
theorem aAv {kvs:List (κ×V)} {k:κ} (h:zQ kvs k=none):¬k∈kvs.map (·.1):=by
 intro m;obtain ⟨p,hp,e⟩:=List.mem_map.mp m;have q:(kvs.any fun kv=>decide (kv.1=k))=true:=List.any_eq_true.mpr ⟨p,hp,decide_eq_true e⟩;rw [oO,h] at q;exact absurd q (by simp)
theorem XN:∀{l:List κ} {k:κ},l.Nodup->¬k∈l->(l++[k]).Nodup
 | [],k,_,_=>by simp
 | a::r,k,h,hk=>by
  obtain ⟨h1,h2⟩:=List.nodup_cons.mp h;show (a::(r++[k])).Nodup;refine List.nodup_cons.mpr ⟨fun m=>?_,XN h2 fun m=>hk (List.mem_cons.mpr (Or.inr m))⟩;rcases List.mem_append.mp m with q|q
  ·exact h1 q
  ·exact hk (List.mem_cons.mpr (Or.inl (List.mem_singleton.mp q).symm))
theorem aEh {kvs:List (κ×V)} {k:κ} (v:V) (hn:(kvs.map (·.1)).Nodup) (h:zQ kvs k=none):((putK kvs k v).map (·.1)).Nodup:=by
 rw [aAq v h,List.map_append];exact XN hn (aAv h)
end
end L2
namespace Mi
open PySem
inductive D where
 | uD|non|bl (b:Bool)|int (i:Int)|str (x:Str)
 | tup (xs:List D)|lst (xs:List D)|dct (kvs:List (D×D))|scr (xs:List D)|fdc (kvs:List (D×D))|cel (a:Nat) (xs:List D)|exc (c:Str) (fs:List (Str×Str))|ins (c:Str) (fs:List (Str×D))
 deriving Inhabited
mutual
noncomputable def D.pure:D->Bool
 | .tup xs=>D.aN xs
 | .lst _=>false
 | .dct _=>false
 | .uD=>false
 | .scr xs=>D.aN xs
 | .fdc _=>false
 | .cel _ _=>false
 | .exc _ _=>false
 | .ins _ _=>false
 | _=>true
noncomputable def D.aN:List D->Bool
 | []=>true
 | x::xs=>x.pure&&D.aN xs
end
mutual
noncomputable def eqD:D->D->Bool
 | .non,.non=>true
 | .bl a,.bl b=>a==b
 | .int a,.int b=>a==b
 | .bl a,.int b=>(if a then (1:Int) else 0)==b
 | .int a,.bl b=>a==(if b then (1:Int) else 0)
 | .str a,.str b=>a==b
 | .tup xs,.tup ys=>MF xs ys
 | .lst xs,.lst ys=>MF xs ys
 | _,_=>false
noncomputable def MF:List D->List D->Bool
 | [],[]=>true
 | x::xs,y::ys=>eqD x y&&MF xs ys
 | _,_=>false
end
mutual
noncomputable def D.i_:Nat->D->Bool
 | n+1,.tup xs=>D.jT n xs
 | n+1,.lst xs=>D.jT n xs
 | 0,.tup _=>false
 | 0,.lst _=>false
 | _,.dct _=>false
 | _,.uD=>false
 | _,.scr _=>false
 | _,.fdc _=>false
 | _,.cel _ _=>false
 | _,.exc _ _=>false
 | _,.ins _ _=>false
 | _,_=>true
noncomputable def D.jT:Nat->List D->Bool
 | _,[]=>true
 | n,x::xs=>D.i_ n x&&D.jT n xs
end
inductive zN where|lt|le|gt|ge
 deriving DecidableEq
noncomputable def zN.int:zN->Int->Int->Bool
 | .lt,a,b=>decide (a<b)|.le,a,b=>decide (a<=b)|.gt,a,b=>decide (b<a)|.ge,a,b=>decide (b<=a)
noncomputable def zN.nat:zN->Nat->Nat->Bool
 | .lt,a,b=>decide (a<b)|.le,a,b=>decide (a<=b)|.gt,a,b=>decide (b<a)|.ge,a,b=>decide (b<=a)
noncomputable def aAw (a b:Str):Bool:=decide (a.cps.toList<b.cps.toList)
def zN.str:zN->Str->Str->Bool
 | .lt,a,b=>aAw a b|.le,a,b=>!aAw b a|.gt,a,b=>aAw b a|.ge,a,b=>!aAw a b
mutual
noncomputable def aA9 (o:zN):D->D->Option Bool
 | .int a,.int b=>some (o.int a b)
 | .str a,.str b=>some (o.str a b)
 | .tup xs,.tup ys=>gB o xs ys
 | _,_=>none
noncomputable def gB (o:zN):List D->List D->Option Bool
 | [],ys=>some (o.nat 0 ys.length)
 | x::xs,[]=>some (o.nat (x::xs).length 0)
 | x::xs,y::ys=>if eqD x y then gB o xs ys else aA9 o x y
end
inductive Res (α:Type) where
 | ok (a:α)|err (c:Str) (as:List D)|bad
noncomputable def Res.bind {α β:Type}:Res α->(α->Res β)->Res β
 | .ok a,f=>f a
 | .err c as,_=>.err c as
 | .bad,_=>.bad
noncomputable instance:Monad Res where
 pure:=.ok
 bind:=Res.bind
@[simp] theorem Res.aW (a:α) (f:α->Res β):((Res.ok a) >>= f)=f a:=rfl
@[simp] theorem Res.aK5 (c:Str) (as:List D) (f:α->Res β):((Res.err c as:Res α) >>= f)=.err c as:=rfl
@[simp] theorem Res.aK6 (f:α->Res β):((Res.bad:Res α) >>= f)=.bad:=rfl
@[simp] theorem Res.pure_eq (a:α):(pure a:Res α)=.ok a:=rfl
theorem Res.aEi {f:α->Res β} (h:(m >>= f)=.ok b):∃a,m=.ok a/\f a=.ok b:=by
 cases m with
 | ok a=>exact ⟨a,rfl,h⟩
 | err c as=>cases h
 | bad=>cases h
theorem bx {P:Prop} (h:(Res.bad:Res α)=.ok d):P:=by cases h
theorem fx0 {P:Prop} (h:false=true):P:=by cases h
theorem nx0 {P:Prop} (h:(none:Option α)=some d):P:=by cases h
noncomputable def Res.ofOpt {α:Type}:Option α->Res α
 | some a=>.ok a
 | none=>.bad
@[simp] theorem Res.aGm (a:α):Res.ofOpt (some a)=.ok a:=rfl
theorem Res.kI (h:Res.ofOpt o=.ok a):o=some a:=by
 cases o with
 | none=>cases h
 | some b=>cases h;rfl
noncomputable def lim:Nat:=1000000
inductive Bop where|add|sub|mul|fdiv|mod|pow
 deriving DecidableEq
inductive Cop where|eq|ne|ord (o:zN)|isin|notin|isN|notN
 deriving DecidableEq
noncomputable def iJ (i:Int):Bool:=decide (-(2 ^ 64)<i)&&decide (i<2 ^ 64)
def aX:Bop->D->D->Res D
 | .add,.int a,.int b=>.ok (.int (a+b))
 | .sub,.int a,.int b=>.ok (.int (a-b))
 | .mul,.int a,.int b=>if iJ a||iJ b then .ok (.int (a*b)) else .bad
 | .fdiv,.int a,.int b=>if decide (0<b)&&decide (b<1073741824) then .ok (.int (a / b)) else .bad
 | .mod,.int a,.int b=>if decide (0<b) then .ok (.int (a % b)) else .bad
 | .pow,.int a,.int b=>if decide (0<=b)&&decide (b<=1000000)&&decide (a.natAbs<2 ^ 64) then .ok (.int (a ^ b.toNat)) else .bad
 | .add,.str a,.str b=>if decide (a.length+b.length<=lim) then .ok (.str (a++b)) else .bad
 | .add,.lst a,.lst b=>if decide (a.length+b.length<=lim)&&D.aN a&&D.aN b then .ok (.lst (a++b)) else .bad
 | _,_,_=>.bad
def aM6:D->Res Bool
 | .non=>.ok false
 | .bl b=>.ok b
 | .int i=>.ok (i != 0)
 | .str x=>if decide (x.length<=lim) then .ok ((x.length:Int) != 0) else .bad
 | .tup xs=>.ok (!xs.isEmpty)
 | .lst xs=>.ok (!xs.isEmpty)
 | .dct kvs=>.ok (!kvs.isEmpty)
 | .uD=>.bad
 | .fdc _=>.bad
 | .cel _ _=>.bad
 | .exc _ _=>.bad
 | .ins _ _=>.bad
 | .scr xs=>.ok (!xs.isEmpty)
noncomputable def gR:D->Bool
 | .int _=>true
 | .str _=>true
 | _=>false
def keyOk:D->Bool
 | .int _=>true
 | .str _=>true
 | .tup xs=>xs.all gR
 | _=>false
noncomputable def isTup:D->Bool
 | .tup _=>true
 | _=>false
def fC:List (D×D)->D->Option D
 | [],_=>none
 | (k,v)::r,q=>if eqD k q then some v else fC r q
def putD:List (D×D)->D->D->List (D×D)
 | [],q,w=>[(q,w)]
 | (k,v)::r,q,w=>if eqD k q then (k,w)::r else (k,v)::putD r q w
def V6 (kvs:List (D×D)) (k:D):Bool:=keyOk k&&kvs.all (fun p=>isTup p.1==isTup k)
noncomputable def bW:Nat:=12
def cV:Cop->D->D->Res D
 | .eq,a,b=>if a.i_ bW&&b.i_ bW then .ok (.bl (eqD a b)) else .bad
 | .ne,a,b=>if a.i_ bW&&b.i_ bW then .ok (.bl (!eqD a b)) else .bad
 | .ord o,a,b=>if a.i_ bW&&b.i_ bW then (match aA9 o a b with|some k=>.ok (.bl k)|none=>.bad) else .bad
 | .isin,a,.tup ys=>if a.i_ bW&&D.jT bW ys then .ok (.bl (ys.any fun y=>eqD y a)) else .bad
 | .isin,a,.lst ys=>if a.i_ bW&&D.jT bW ys then .ok (.bl (ys.any fun y=>eqD y a)) else .bad
 | .isin,a,.dct kvs=>if V6 kvs a then .ok (.bl (fC kvs a).isSome) else .bad
 | .notin,a,.tup ys=>if a.i_ bW&&D.jT bW ys then .ok (.bl (!(ys.any fun y=>eqD y a))) else .bad
 | .notin,a,.lst ys=>if a.i_ bW&&D.jT bW ys then .ok (.bl (!(ys.any fun y=>eqD y a))) else .bad
 | .notin,a,.dct kvs=>if V6 kvs a then .ok (.bl (!(fC kvs a).isSome)) else .bad
 | .isN,.scr _,.non=>.bad
 | .notN,.scr _,.non=>.bad
 | .isN,.fdc _,.non=>.bad
 | .notN,.fdc _,.non=>.bad
 | .isN,.cel _ _,.non=>.bad
 | .notN,.cel _ _,.non=>.bad
 | .isN,.non,.non=>.ok (.bl true)
 | .isN,a,.non=>.ok (.bl false)
 | .notN,.non,.non=>.ok (.bl false)
 | .notN,a,.non=>.ok (.bl true)
 | _,_,_=>.bad
noncomputable def ixD (n:Nat) (i:Int):Option Nat:=if 0<=i then (if i<n then some i.toNat else none) else if -(n:Int)<=i then some (i+n).toNat else none
def getD (d i:D):Res D:=
 match d,i with
 | .tup xs,.int i=>Res.ofOpt ((ixD xs.length i).bind fun j=>xs[j]?)
 | .lst xs,.int i=>Res.ofOpt ((ixD xs.length i).bind fun j=>xs[j]?)
 | .scr xs,.int i=>Res.ofOpt ((ixD xs.length i).bind fun j=>xs[j]?)
 | .cel _ xs,.int i=>Res.ofOpt ((ixD xs.length i).bind fun j=>xs[j]?)
 | .str x,.int i=>if decide (x.length<=lim) then Res.ofOpt (((ixD x.cps.toList.length i).bind fun j=>x.cps.toList[j]?).map fun c=>D.str ⟨#[c]⟩) else .bad
 | .dct kvs,k=>if keyOk k then Res.ofOpt (fC kvs k) else .bad
 | .fdc kvs,k=>if keyOk k then Res.ofOpt (fC kvs k) else .bad
 | _,_=>.bad
noncomputable def aAa (n d:Nat):Option Int->Nat
 | none=>d
 | some v=>if v<0 then (max (v+(n:Int)) 0).toNat else (min v (n:Int)).toNat
def cutD {α:Type} (xs:List α) (lo hi:Option Int):List α:=(xs.drop (aAa xs.length 0 lo)).take (aAa xs.length xs.length hi-aAa xs.length 0 lo)
inductive Ty where|int|str|bool|list|tuple|dict
 deriving DecidableEq
noncomputable def aKy:Ty->D->Res Bool
 | _,.uD=>.bad
 | _,.scr _=>.bad
 | _,.fdc _=>.bad
 | _,.cel _ _=>.bad
 | _,.exc _ _=>.bad
 | _,.ins _ _=>.bad
 | .int,.int _=>.ok true
 | .int,.bl _=>.ok true
 | .bool,.bl _=>.ok true
 | .str,.str _=>.ok true
 | .tuple,.tup _=>.ok true
 | .list,.lst _=>.ok true
 | .dict,.dct _=>.ok true
 | _,_=>.ok false
noncomputable def xY (i:Int):Bool:=decide (-(2 ^ 62)<=i)&&decide (i<2 ^ 62)
noncomputable def asB:D->Res Bool
 | .bl b=>.ok b
 | _=>.bad
noncomputable def asI:D->Res Int
 | .int i=>.ok i
 | _=>.bad
inductive Fl where
 | nx (ρ:List D)|rt (d:D)|bk (ρ:List D)|ct (ρ:List D)
noncomputable def aN3:Fl->Res D
 | .rt d=>.ok d
 | .nx _=>.ok .non
 | _=>.bad
noncomputable abbrev FE:=List D->Res D
noncomputable abbrev FT:=List D->Res Bool
noncomputable abbrev FA:=List D->Res (List D)
noncomputable def h_ (i:Nat):FE:=fun ρ=>match ρ.getD i .uD with|.uD=>.bad|d=>.ok d
noncomputable def bC (d:D):FE:=fun _=>.ok d
abbrev dN:FE := h_ 1
abbrev cX:FE := h_ 2
abbrev eF:FE := h_ 3
abbrev cO:FE := h_ 0
abbrev mW:FE := h_ 7
abbrev iC:FE := h_ 5
abbrev eG:FE := h_ 4
abbrev o_:FE := h_ 8
abbrev p_:FE := h_ 9
abbrev nU:FE := h_ 6
abbrev JG:FE := h_ 19
abbrev lO:FE := h_ 11
abbrev wN:FE := h_ 12
abbrev xZ:FE := h_ 10
abbrev zR:FE := h_ 13
abbrev DP:FE := h_ 14
abbrev NQ:FE := h_ 15
abbrev XQ:FE := h_ 16
abbrev XR:FE := h_ 17
abbrev zO:FE := bC (.int 0)
abbrev fQ:FE := bC (.int 1)
abbrev iU:FE := bC (.int 2)
abbrev aHr:FE := bC (.int 7)
abbrev V7:FE := bC (.int 8)
abbrev DQ:FE := bC (.int 26)
abbrev zT:FE := bC (.int 4)
abbrev CK:FE := bC (.int 256)
abbrev CN:FE := bC (.int 3)
abbrev MJ:FE := bC (.int 6)
abbrev aCw:FE := bC (.int 9)
abbrev aK7:FE := bC (.int 5)
abbrev U3:FE := bC (.int 12)
abbrev aEj:FE := bC (.int 20)
abbrev aEk:FE := bC (.int 16)
noncomputable def b2 (f:D->D->Res D) (a b:FE):FE:=fun ρ=>do let x <- a ρ;let y <- b ρ;f x y
noncomputable def b1 (f:D->Res D) (a:FE):FE:=fun ρ=>do let x <- a ρ;f x
def bTB (a:FE):FT:=fun ρ=>do let x <- a ρ;asB x
noncomputable def wO (a:FT):FT:=fun ρ=>do let x <- a ρ;pure (!x)
noncomputable def aAb (a b:FT):FT:=fun ρ=>do let x <- a ρ;if x then b ρ else pure false
noncomputable def bOr (a b:FT):FT:=fun ρ=>do let x <- a ρ;if x then pure true else b ρ
def aEm (a b:FE):FE:=fun ρ=>do let x <- a ρ;let k <- asB x;if k then b ρ else pure (.bl false)
def aHs (a b:FE):FE:=fun ρ=>do let x <- a ρ;let k <- asB x;if k then pure (.bl true) else b ρ
noncomputable def aU:FA:=fun _=>.ok []
noncomputable def aC (a:FE) (b:FA):FA:=fun ρ=>do let x <- a ρ;let xs <- b ρ;pure (x::xs)
def eZ (a:FA):FE:=fun ρ=>do let xs <- a ρ;if decide (xs.length<=lim) then pure (.tup xs) else .bad
def lE (a:FA):FE:=fun ρ=>do let xs <- a ρ;if decide (xs.length<=lim) then pure (.lst xs) else .bad
noncomputable def aY (f:List D->Res D) (a:FA):FE:=fun ρ=>do let xs <- a ρ;f xs
def dC (a:FE):List D->Res (Option Int):=fun ρ=>do let x <- a ρ;let i <- asI x;pure (some i)
noncomputable def kJ:List D->Res (Option Int):=fun _=>.ok none
def aN4:D->Res Bool
 | .dct _=>.bad
 | .scr _=>.bad
 | .fdc _=>.bad
 | d=>aM6 d
def bTr (a:FE):FT:=fun ρ=>do let x <- a ρ;aN4 x
noncomputable def aGn:D->Res D
 | .int i=>.ok (.int (-i))
 | _=>.bad
def aK8:D->Option Int->Option Int->Res D
 | .lst xs,lo,hi=>if D.aN xs then .ok (.lst (cutD xs lo hi)) else .bad
 | .scr xs,lo,hi=>if D.aN xs then .ok (.lst (cutD xs lo hi)) else .bad
 | .tup xs,lo,hi=>if !D.aN xs||decide (aAa xs.length 0 lo=0/\aAa xs.length xs.length hi=xs.length) then .bad else .ok (.tup (cutD xs lo hi))
 | _,_,_=>.bad
def iK:List D->Res D
 | [.tup xs]=>.ok (.int xs.length)
 | [.lst xs]=>.ok (.int xs.length)
 | [.scr xs]=>.ok (.int xs.length)
 | [.cel _ xs]=>.ok (.int xs.length)
 | [.str x]=>if decide (x.length<=lim) then .ok (.int x.length) else .bad
 | _=>.bad
noncomputable def jH (kvs:List (D×D)):List D:=kvs.map (·.1)
def XS:List D->Res D
 | [.tup xs]=>if D.aN xs then .ok (.lst xs) else .bad
 | [.lst xs]=>if D.aN xs then .ok (.lst xs) else .bad
 | [.dct kvs]=>if kvs.all (fun p=>!isTup p.1) then .ok (.lst (jH kvs)) else .bad
 | _=>.bad
noncomputable def nD:List D->Res D
 | [.tup xs]=>.ok (.tup xs)
 | [.lst xs]=>.ok (.tup xs)
 | _=>.bad
noncomputable def Ty.nm:Ty->String
 | .int => "int" | .str => "str" | .bool => "bool" | .list => "list" | .tuple => "tuple" | .dict => "dict"
def DR (t:Ty) (d:D):Res D:=do let k <- aKy t d;pure (.bl k)
noncomputable def dO (n:Nat) (f:List D->Res D):List D->Res D:=fun ds=>if decide (ds.length=n) then f ds else .bad
noncomputable abbrev FI:=List D->Res (List D×Bool)
noncomputable def x_:D->Res (List D)
 | .lst xs=>.ok xs
 | .tup xs=>.ok xs
 | _=>.bad
def iV:List D->Res (List D×Bool)
 | [.int n]=>if xY n then .ok ((List.range n.toNat).map fun (k:Nat)=>D.int (0+(k:Int)),true) else .bad
 | _=>.bad
noncomputable def jJ (f:FA) (g:List D->Res (List D×Bool)):FI:=fun ρ=>do let xs <- f ρ;g xs
noncomputable def MK (n:Nat) (ρ:List D):List D:=(List.range n).map fun i=>ρ.getD i .uD
noncomputable def yC:D->Res (List D):=fun d=>.ok [d]
noncomputable def aEn (m:Nat):D->Res (List D)
 | .tup ds=>if decide (ds.length=m) then .ok ds else .bad
 | _=>.bad
def q_ (n:Nat) (t:D->Res (List D)) (c:FT) (f:FE) (k:Bool) (ρ:List D) (acc:List D) (x:D):Res (List D):=do
 let bs <- t x
 let ok <- c (MK n ρ++bs)
 if ok then (do
  let y <- f (MK n ρ++bs)
  if k||y.pure then pure (acc++[y]) else .bad)
 else pure acc
noncomputable def jK (g:List D->D->Res (List D)):List D->List D->Res (List D)
 | acc,[]=>.ok acc
 | acc,x::xs=>do let a <- g acc x;jK g a xs
def gC (n:Nat) (it:FI) (t:D->Res (List D)) (c:FT) (f:FE) (k:Bool):FE:=fun ρ=>do
 let xs <- it ρ
 if decide (xs.1.length<=lim) then (do
  let ys <- jK (q_ n t c f k ρ) [] xs.1
  pure (.lst ys)) else .bad
noncomputable def jU:FT:=fun _=>.ok true
noncomputable abbrev FS:=List D->Res Fl
def inner:D->Bool
 | .lst xs=>D.aN xs
 | .dct kvs=>D.aN (kvs.map (·.2))
 | .cel _ xs=>D.aN xs
 | _=>false
noncomputable def jL:FS:=fun ρ=>.ok (.nx ρ)
noncomputable def bH (f g:FS):FS:=fun ρ=>do
 let r <- f ρ
 match r with
 | .nx ρ'=>g ρ'
 | r=>.ok r
def cG (o:Bool) (i:Nat) (f:FE) (k:Bool):FS:=fun ρ=>do
 let d <- f ρ
 if (if o then k&&inner d else k||d.pure) then .ok (.nx (ρ.set i d)) else .bad
noncomputable def sIf (c:FT) (f g:FS):FS:=fun ρ=>do
 let k <- c ρ
 if k then f ρ else g ρ
noncomputable def kO (f:FE) (k:Bool):FS:=fun ρ=>do
 let d <- f ρ
 if k||d.pure then .ok (.rt d) else .bad
def XX (i:Nat):FS:=fun ρ=>do
 let d <- h_ i ρ
 .ok (.rt d)
noncomputable def rtX:Nat:=1000000
def nW (i:Nat) (f:FE):FS:=fun ρ=>do
 let d <- f ρ
 match ρ.getD i .uD with
 | .lst xs=>if decide (xs.length<lim)&&d.pure then .ok (.nx (ρ.set i (.lst (xs++[d])))) else .bad
 | _=>.bad
def aAx (i:Nat) (f:FE) (g:FE):FS:=fun ρ=>do
 let d <- g ρ
 let k <- f ρ
 match ρ.getD i .uD with
 | .dct kvs=>if decide (kvs.length<lim)&&V6 kvs k&&d.pure then .ok (.nx (ρ.set i (.dct (putD kvs k d)))) else .bad
 | _=>.bad
noncomputable def tg1 (i:Nat):D->List D->Res (List D):=fun d ρ=>.ok (ρ.set i d)
noncomputable def X3:List Nat->List D->List D->List D
 | i::is,d::ds,ρ=>X3 is ds (ρ.set i d)
 | _,_,ρ=>ρ
def tgN (is:List Nat):D->List D->Res (List D)
 | .tup ds,ρ=>if decide (ds.length=is.length) then .ok (X3 is ds ρ) else .bad
 | _,_=>.bad
noncomputable def o8 (t:D->List D->Res (List D)) (body:FS):List D->List D->Res Fl
 | [],ρ=>.ok (.nx ρ)
 | x::xs,ρ=>do
  let ρ1 <- t x ρ
  let r <- body ρ1
  match r with
  | .nx ρ'=>o8 t body xs ρ'
  | .ct ρ'=>o8 t body xs ρ'
  | .bk ρ'=>.ok (.nx ρ')
  | .rt d=>.ok (.rt d)
def zP (it:FI) (t:D->List D->Res (List D)) (body:FS):FS:=fun ρ=>do
 let xs <- it ρ
 if xs.2 then o8 t body xs.1 ρ else .bad
def yD (i:Nat) (t:D->List D->Res (List D)) (body:FS):FS:=fun ρ=>do
 let d <- h_ i ρ
 let xs <- x_ d
 o8 t body xs ρ
def fnS (n m:Nat) (f:FS):List D->Res D:=fun ds=>do
 let r <- f (ds++List.replicate (m-n) .uD)
 aN3 r
open L2
class KFrag where
 K:PySem.W.Frag
variable [KFrag]
def aAy (H:Hp) (a:Addr) (xs:List V):Prop:=(∃o,H a=some (.frz o (.lst xs)))\/
 ∃(o:Obj) (its:Array Value) (n:Nat),KFrag.K.lookup a=some o/\o.cls=.type "list"/\o.dict=none/\o.data=.seq its n/\its.size<=sizeLine/\Vals xs its.toList
theorem aAy.sq (h:aAy H a xs) (hK:KFrag.K=K):SqL K H a xs:=by
 subst hK;rcases h with ⟨o,h⟩|h
 ·exact .inl (.inr ⟨o,h⟩)
 ·exact .inr h
noncomputable def kD:Key->D
 | .inl i=>.int i
 | .inr x=>.str x
noncomputable def U4:HO->Bool
 | .lst _=>true
 | .dK _=>true
 | .dT _=>true
 | _=>false
def XO (a C:Addr) (dx:Option Addr) (h:Heap):Prop:=∃o,h.get? a=some o/\o.cls=.ref C/\o.dict=dx/\∃vs,o.data=.fields vs
def XD (dx:Addr) (fs:List (Str×Str)) (h:Heap):Prop:=∃mA,h.Ns1 dx mA/\PySem.Within mA (fs.map (·.1))/\∀f,match fs.lookup f with
 | some t=>∃tk,mA f=some (.str t tk)
 | none=>mA f=none
def XDs (H:Hp) (fs:List (Str×Str)):Option Addr->Prop
 | none=>fs=[]
 | some d=>H d=some (.ext (XD d fs))
mutual
inductive Rep (P:Addr->Prop) (H:Hp):V->D->Prop
 | non:Rep P H .non .non
 | bl (b:Bool):Rep P H (.bl b) (.bl b)
 | int (i:Int):Rep P H (.int i) (.int i)
 | str (x:Str):Rep P H (.str x) (.str x)
 | tup {a:Addr} {xs:List V} {ds:List D}:H a=some (.tup xs)->bG P H xs ds->Rep P H (.ref a) (.tup ds)
 | lst {a:Addr} {xs:List V} {ds:List D}:H a=some (.lst xs)->P a->bG P H xs ds->Rep P H (.ref a) (.lst ds)
 | cel {a:Addr} {xs:List V} {ds:List D}:H a=some (.lst xs)->P a->bG P H xs ds->Rep P H (.ref a) (.cel a ds)
 | frz {a:Addr} {xs:List V} {ds:List D}:aAy H a xs->bG P H xs ds->Rep P H (.ref a) (.scr ds)
 | dK {a:Addr} {kvs:List (Key×V)} {ds:List (D×D)}:H a=some (.dK kvs)->P a->gQ P H kvs ds->(kvs.map (·.1)).Nodup->Rep P H (.ref a) (.dct ds)
 | dT {a:Addr} {kvs:List (List Key×V)} {ds:List (D×D)}:H a=some (.dT kvs)->P a->m9 P H kvs ds->(kvs.map (·.1)).Nodup->Rep P H (.ref a) (.dct ds)
 | fdK {a:Addr} {o:Obj} {kvs:List (Key×V)} {ds:List (D×D)}:H a=some (.frz o (.dK kvs))->gQ P H kvs ds->(kvs.map (·.1)).Nodup->Rep P H (.ref a) (.fdc ds)
 | fdT {a:Addr} {o:Obj} {kvs:List (List Key×V)} {ds:List (D×D)}:H a=some (.frz o (.dT kvs))->m9 P H kvs ds->(kvs.map (·.1)).Nodup->Rep P H (.ref a) (.fdc ds)
 | exc {a C:Addr} {dx:Option Addr} {c:Str} {fs:List (Str×Str)}:PySem.W.nsIn KFrag.K mainGlobals c=some (some (.ref C))->H a=some (.ext (XO a C dx))->XDs H fs dx->Rep P H (.ref a) (.exc c fs)
 | ins {a C dx:Addr} {c:Str} {vs:List (Str×V)} {fs:List (Str×D)}:PySem.W.nsIn KFrag.K mainGlobals c=some (some (.ref C))->H a=some (.ins C dx vs)->nF P H vs fs->Rep P H (.ref a) (.ins c fs)
inductive nF (P:Addr->Prop) (H:Hp):List (Str×V)->List (Str×D)->Prop
 | nil:nF P H [] []
 | cons {f:Str} {v:V} {d:D} {r:List (Str×V)} {ds:List (Str×D)}:Rep P H v d->nF P H r ds->nF P H ((f,v)::r) ((f,d)::ds)
inductive bG (P:Addr->Prop) (H:Hp):List V->List D->Prop
 | nil:bG P H [] []
 | cons {v:V} {d:D} {vs:List V} {ds:List D}:Rep P H v d->bG P H vs ds->bG P H (v::vs) (d::ds)
inductive gQ (P:Addr->Prop) (H:Hp):List (Key×V)->List (D×D)->Prop
 | nil:gQ P H [] []
 | cons {k:Key} {v:V} {d:D} {r:List (Key×V)} {ds:List (D×D)}:Rep P H v d->gQ P H r ds->gQ P H ((k,v)::r) ((kD k,d)::ds)
inductive m9 (P:Addr->Prop) (H:Hp):List (List Key×V)->List (D×D)->Prop
 | nil:m9 P H [] []
 | cons {k:List Key} {v:V} {d:D} {r:List (List Key×V)} {ds:List (D×D)}:Rep P H v d->m9 P H r ds->m9 P H ((k,v)::r) ((.tup (k.map kD),d)::ds)
end
def U5 (P:Addr->Prop) (H H':Hp):Prop:=∀a o,H a=some o->(P a\/U4 o=false)->H' a=some o
theorem U5.same (h:bV H H'):U5 P H H':=fun a o e _=>h a o e
mutual
theorem Rep.keep {P P':Addr->Prop} {H H':Hp} (k:U5 P H H') (m:∀a,P a->P' a):∀{v:V} {d:D},Rep P H v d->Rep P' H' v d
 | _,_,.non=>.non
 | _,_,.bl b=>.bl b
 | _,_,.int i=>.int i
 | _,_,.str x=>.str x
 | _,_,.tup e r=>.tup (k _ _ e (.inr rfl)) (bG.keep k m r)
 | _,_,.lst e p r=>.lst (k _ _ e (.inl p)) (m _ p) (bG.keep k m r)
 | _,_,.cel e p r=>.cel (k _ _ e (.inl p)) (m _ p) (bG.keep k m r)
 | _,_,.frz e r=>.frz (e.imp (fun ⟨o,e⟩=>⟨o,k _ _ e (.inr rfl)⟩) id) (bG.keep k m r)
 | _,_,.dK e p r n=>.dK (k _ _ e (.inl p)) (m _ p) (gQ.keep k m r) n
 | _,_,.dT e p r n=>.dT (k _ _ e (.inl p)) (m _ p) (m9.keep k m r) n
 | _,_,.fdK e r n=>.fdK (k _ _ e (.inr rfl)) (gQ.keep k m r) n
 | _,_,.fdT e r n=>.fdT (k _ _ e (.inr rfl)) (m9.keep k m r) n
 | _,_,.exc (dx:=dx) n e q=>.exc n (k _ _ e (.inr rfl)) (match dx,q with|none,q=>q|some _,q=>k _ _ q (.inr rfl))
 | _,_,.ins n e r=>.ins n (k _ _ e (.inr rfl)) (nF.keep k m r)
theorem nF.keep {P P':Addr->Prop} {H H':Hp} (k:U5 P H H') (m:∀a,P a->P' a):∀{v:List (Str×V)} {d:List (Str×D)},nF P H v d->nF P' H' v d
 | _,_,.nil=>.nil
 | _,_,.cons r t=>.cons (Rep.keep k m r) (nF.keep k m t)
theorem bG.keep {P P':Addr->Prop} {H H':Hp} (k:U5 P H H') (m:∀a,P a->P' a):∀{v:List V} {d:List D},bG P H v d->bG P' H' v d
 | _,_,.nil=>.nil
 | _,_,.cons r t=>.cons (Rep.keep k m r) (bG.keep k m t)
theorem gQ.keep {P P':Addr->Prop} {H H':Hp} (k:U5 P H H') (m:∀a,P a->P' a):∀{v:List (Key×V)} {d:List (D×D)},gQ P H v d->gQ P' H' v d
 | _,_,.nil=>.nil
 | _,_,.cons r t=>.cons (Rep.keep k m r) (gQ.keep k m t)
theorem m9.keep {P P':Addr->Prop} {H H':Hp} (k:U5 P H H') (m:∀a,P a->P' a):∀{v:List (List Key×V)} {d:List (D×D)},m9 P H v d->m9 P' H' v d
 | _,_,.nil=>.nil
 | _,_,.cons r t=>.cons (Rep.keep k m r) (m9.keep k m t)
end
theorem Rep.mono (r:Rep P H v d) (m:∀a,P a->P' a):Rep P' H v d:=r.keep (fun _ _ e _=>e) m
theorem bG.mono (r:bG P H v d) (m:∀a,P a->P' a):bG P' H v d:=r.keep (fun _ _ e _=>e) m
theorem Rep.same (r:Rep P H v d) (s:bV H H'):Rep P H' v d:=r.keep (.same s) fun _ h=>h
theorem bG.same (r:bG P H v d) (s:bV H H'):bG P H' v d:=r.keep (.same s) fun _ h=>h
mutual
theorem Rep.bM {P P':Addr->Prop} {H:Hp}:∀{v:V} {d:D},Rep P H v d->d.pure=true->Rep P' H v d
 | _,_,.non,_=>.non
 | _,_,.bl b,_=>.bl b
 | _,_,.int i,_=>.int i
 | _,_,.str x,_=>.str x
 | _,_,.tup e r,h=>.tup e (bG.bM r (by rw [D.pure] at h;exact h))
 | _,_,.lst _ _ _,h=>by rw [D.pure] at h;cases h
 | _,_,.cel _ _ _,h=>by rw [D.pure] at h;cases h
 | _,_,.frz e r,h=>.frz e (bG.bM r (by rw [D.pure] at h;exact h))
 | _,_,.dK _ _ _ _,h=>by rw [D.pure] at h;cases h
 | _,_,.dT _ _ _ _,h=>by rw [D.pure] at h;cases h
 | _,_,.fdK _ _ _,h=>by rw [D.pure] at h;cases h
 | _,_,.fdT _ _ _,h=>by rw [D.pure] at h;cases h
 | _,_,.exc _ _ _,h=>by rw [D.pure] at h;cases h
 | _,_,.ins _ _ _,h=>by rw [D.pure] at h;cases h
theorem bG.bM {P P':Addr->Prop} {H:Hp}:∀{v:List V} {d:List D},bG P H v d->D.aN d=true->bG P' H v d
 | _,_,.nil,_=>.nil
 | _,_,.cons r t,h=>by
  rw [D.aN,Bool.and_eq_true] at h;exact .cons (Rep.bM r h.1) (bG.bM t h.2)
end
theorem bG.length:∀{v:List V} {d:List D},bG P H v d->v.length=d.length
 | _,_,.nil=>rfl
 | _,_,.cons _ t=>by rw [List.length_cons,List.length_cons,bG.length t]
theorem bG.get:∀{vs:List V} {ds:List D} {i:Nat} {d:D},bG P H vs ds->ds[i]?=some d->∃v,vs[i]?=some v/\Rep P H v d
 | _,_,_,_,.nil,e=>by simp at e
 | _,_,0,_,.cons r _,e=>by simp at e;subst e;exact ⟨_,rfl,r⟩
 | _,_,i+1,d,.cons _ t,e=>by
  obtain ⟨v,h1,h2⟩:=bG.get t (by simpa using e);exact ⟨v,by simpa using h1,h2⟩
theorem bG.at:∀{vs:List V} {ds:List D} {i:Nat} {v:V},bG P H vs ds->vs[i]?=some v->∃d,ds[i]?=some d/\Rep P H v d
 | _,_,_,_,.nil,e=>by simp at e
 | _,_,0,_,.cons r _,e=>by simp at e;subst e;exact ⟨_,rfl,r⟩
 | _,_,i+1,d,.cons _ t,e=>by
  obtain ⟨v,h1,h2⟩:=bG.at t (by simpa using e);exact ⟨v,by simpa using h1,h2⟩
theorem bG.append:∀{vs ws:List V} {ds es:List D},bG P H vs ds->bG P H ws es->bG P H (vs++ws) (ds++es)
 | _,_,_,_,.nil,s=>s
 | _,_,_,_,.cons r t,s=>.cons r (bG.append t s)
theorem bG.take:∀{vs:List V} {ds:List D} (n:Nat),bG P H vs ds->bG P H (vs.take n) (ds.take n)
 | _,_,0,_=>.nil
 | _,_,_+1,.nil=>.nil
 | _,_,n+1,.cons r t=>.cons r (bG.take n t)
theorem bG.drop:∀{vs:List V} {ds:List D} (n:Nat),bG P H vs ds->bG P H (vs.drop n) (ds.drop n)
 | _,_,0,r=>r
 | _,_,_+1,.nil=>.nil
 | _,_,n+1,.cons _ t=>bG.drop n t
theorem bG.set (r:Rep P H v d):∀{vs:List V} {ds:List D} (n:Nat),bG P H vs ds->bG P H (vs.set n v) (ds.set n d)
 | _,_,_,.nil=>.nil
 | _,_,0,.cons _ t=>.cons r t
 | _,_,n+1,.cons q t=>.cons q (bG.set r n t)
theorem bG.snoc (t:bG P H vs ds) (r:Rep P H v d):bG P H (vs++[v]) (ds++[d]):=t.append (.cons r .nil)
theorem Rep.uD:¬Rep P H v .uD:=fun h=>by cases h
abbrev All:Addr->Prop:=fun _=>True
abbrev New (H:Hp):Addr->Prop:=fun a=>H a=none
theorem Rep.all (r:Rep P H v d):Rep All H v d:=r.mono fun _ _=>trivial
theorem bG.all (r:bG P H v d):bG All H v d:=r.mono fun _ _=>trivial
theorem bV.new (s:bV H H'):∀a,New H' a->New H a:=fun a h=>s.free h
theorem bV.upd (h:H a=none):bV H (upd H a o):=fun b u e=>by rw [aR (bI e h)];exact e
def ER (H:Hp) (σ:St) (ρ:List D):Prop:=∀i,ρ.getD i .uD≠.uD->∃v,σ[i]?=some (some v)/\Rep All H v (ρ.getD i .uD)
theorem ER.same (e:ER H σ ρ) (s:bV H H'):ER H' σ ρ:=fun i h=>by
 obtain ⟨v,h1,h2⟩:=e i h;exact ⟨v,h1,h2.same s⟩
theorem PE.imp (h:PE X e t) (i:∀σ H Q,t' σ H Q->t σ H Q):PE X e t':=fun pins s σ H Q I q=>h pins s σ H Q I (i σ H Q q)
theorem PT.imp (h:PT X e t) (i:∀σ H Q,t' σ H Q->t σ H Q):PT X e t':=fun pins s σ H Q I q=>h pins s σ H Q I (i σ H Q q)
theorem PA.imp (h:PA X e t) (i:∀σ H Q,t' σ H Q->t σ H Q):PA X e t':=fun pos pins s σ H Q I q=>h pos pins s σ H Q I (i σ H Q q)
mutual
theorem Rep.dom {P:Addr->Prop} {H:Hp}:∀{v:V} {d:D},Rep P H v d->Rep (fun a=>P a/\H a≠none) H v d
 | _,_,.non=>.non
 | _,_,.bl b=>.bl b
 | _,_,.int i=>.int i
 | _,_,.str x=>.str x
 | _,_,.tup e r=>.tup e (bG.dom r)
 | _,_,.lst e p r=>.lst e ⟨p,by rw [e];simp⟩ (bG.dom r)
 | _,_,.cel e p r=>.cel e ⟨p,by rw [e];simp⟩ (bG.dom r)
 | _,_,.frz e r=>.frz e (bG.dom r)
 | _,_,.dK e p r n=>.dK e ⟨p,by rw [e];simp⟩ (gQ.dom r) n
 | _,_,.dT e p r n=>.dT e ⟨p,by rw [e];simp⟩ (m9.dom r) n
 | _,_,.fdK e r n=>.fdK e (gQ.dom r) n
 | _,_,.fdT e r n=>.fdT e (m9.dom r) n
 | _,_,.exc n e q=>.exc n e q
 | _,_,.ins n e q=>.ins n e (nF.dom q)
theorem nF.dom {P:Addr->Prop} {H:Hp}:∀{v:List (Str×V)} {d:List (Str×D)},nF P H v d->nF (fun a=>P a/\H a≠none) H v d
 | _,_,.nil=>.nil
 | _,_,.cons r t=>.cons (Rep.dom r) (nF.dom t)
theorem bG.dom {P:Addr->Prop} {H:Hp}:∀{v:List V} {d:List D},bG P H v d->bG (fun a=>P a/\H a≠none) H v d
 | _,_,.nil=>.nil
 | _,_,.cons r t=>.cons (Rep.dom r) (bG.dom t)
theorem gQ.dom {P:Addr->Prop} {H:Hp}:∀{v:List (Key×V)} {d:List (D×D)},gQ P H v d->gQ (fun a=>P a/\H a≠none) H v d
 | _,_,.nil=>.nil
 | _,_,.cons r t=>.cons (Rep.dom r) (gQ.dom t)
theorem m9.dom {P:Addr->Prop} {H:Hp}:∀{v:List (List Key×V)} {d:List (D×D)},m9 P H v d->m9 (fun a=>P a/\H a≠none) H v d
 | _,_,.nil=>.nil
 | _,_,.cons r t=>.cons (Rep.dom r) (m9.dom t)
end
theorem Rep.aEo (r:Rep P H v d) (k:U5 P H H') (m:∀a o,H a=some o->P a->P' a):Rep P' H' v d:=
 r.dom.keep (fun a o e hp=>k a o e (hp.imp (·.1) id)) fun a ⟨h1,h2⟩=>by
  cases q:H a with
  | none=>exact absurd q h2
  | some o=>exact m a o q h1
def aN5 (P:Addr->Prop) (H:Hp) (v:V):D->Prop
 | .non=>v=.non
 | .bl b=>v=.bl b
 | .int i=>v=.int i
 | .str x=>v=.str x
 | .tup ds=>∃a xs,v=.ref a/\H a=some (.tup xs)/\bG P H xs ds
 | .lst ds=>∃a xs,v=.ref a/\H a=some (.lst xs)/\P a/\bG P H xs ds
 | .cel b ds=>∃xs,v=.ref b/\H b=some (.lst xs)/\P b/\bG P H xs ds
 | .scr ds=>∃a xs,v=.ref a/\aAy H a xs/\bG P H xs ds
 | .ins c fs=>∃a C dx vs,v=.ref a/\PySem.W.nsIn KFrag.K mainGlobals c=some (some (.ref C))/\H a=some (.ins C dx vs)/\nF P H vs fs
 | .exc c fs=>∃a C dx,v=.ref a/\PySem.W.nsIn KFrag.K mainGlobals c=some (some (.ref C))/\H a=some (.ext (XO a C dx))/\XDs H fs dx
 | .uD=>False
 | _=>True
theorem Rep.inv (r:Rep P H v d):aN5 P H v d:=by
 cases r with
 | non=>rfl
 | bl=>rfl
 | int=>rfl
 | str=>rfl
 | tup e r=>exact ⟨_,_,rfl,e,r⟩
 | lst e p r=>exact ⟨_,_,rfl,e,p,r⟩
 | cel e p r=>exact ⟨_,rfl,e,p,r⟩
 | frz e r=>exact ⟨_,_,rfl,e,r⟩
 | ins n e r=>exact ⟨_,_,_,_,rfl,n,e,r⟩
 | exc n e r=>exact ⟨_,_,_,rfl,n,e,r⟩
 | _=>trivial
end Mi
namespace L2
open PySem PySem.Spec PyProof.Rows
noncomputable def kW (own:List Str) (x:Str):Str:=if own.contains x then x++(" " : Str) else x
def clF (env:Env):List (Str×NameKind)->List (Str×Addr)->List (Str×Addr)
 | [],acc=>acc
 | (n,k)::r,acc=>clF env r (if k==.free then (n,(env.cells.lookup n).getD 0)::acc else acc)
theorem sE:∀(names:List (Str×NameKind)) (acc:List (Str×Addr)),(∀y∈names,y.2=.free->∃c,env.cells.lookup y.1=some c)->
  (forIn names acc fun x cs=>(match x with
   | (name,kind)=>if (kind==.free)=true then cellOf env name >>= fun c=>pure (ForInStep.yield ((name,c)::cs)) else pure (ForInStep.yield cs):Sem (ForInStep (List (Str×Addr)))))=(pure (clF env names acc):Sem _)
 | [],acc,_=>by rw [List.forIn_nil];rfl
 | (n,k)::r,acc,h=>by
  rw [List.forIn_cons];by_cases hk:(k==.free)=true
  ·have hk':k=.free:=by simpa using hk
   obtain ⟨c,e⟩:=h (n,k) (List.mem_cons_self ..) hk';have e':cellOf env n=pure c:=by
    unfold cellOf;have e2:env.cells.lookup n=some c:=e;rw [e2]
   dsimp only;rw [if_pos hk,e',pure_bind,pure_bind];dsimp only;rw [sE r _ fun y hy=>h y (List.mem_cons_of_mem _ hy)];have e2:env.cells.lookup n=some c:=e;simp only [clF,hk,if_true,e2,Option.getD_some]
  ·dsimp only;rw [if_neg hk,pure_bind];dsimp only;rw [sE r _ fun y hy=>h y (List.mem_cons_of_mem _ hy)];simp only [clF,hk,Bool.false_eq_true,if_false]
theorem U6 (h:∀y∈scope.names,y.2=.free->∃c,env.cells.lookup y.1=some c):closureFor scope env=pure (clF env scope.names []):=by
 unfold closureFor;have:=sE scope.names [] h;simp only [bind_pure] at *;exact this
theorem NT:∀{names:List (Str×NameKind)} {acc:List (Str×Addr)} {x:Str} {c:Addr},(∀y∈names,y.2=.free->∃c,env.cells.lookup y.1=some c)->(∀x c,acc.lookup x=some c->env.cells.lookup x=some c)->
  (clF env names acc).lookup x=some c->env.cells.lookup x=some c
 | [],acc,x,c,_,h,e=>h x c e
 | (n,k)::r,acc,x,c,q,h,e=>by
  unfold clF at e;refine NT (fun y hy=>q y (List.mem_cons_of_mem _ hy)) (fun y d hy=>?_) e;by_cases hk:(k==.free)=true
  ·rw [if_pos hk,List.lookup_cons] at hy;obtain ⟨c',e'⟩:=q (n,k) (List.mem_cons_self ..) (by simpa using hk);have e2:env.cells.lookup n=some c':=e';cases hyn:y==n with
   | true=>
    rw [hyn] at hy;have:y=n:=by simpa using hyn
    subst this;rw [e2] at hy;simp only [Option.getD_some] at hy;rw [e2];exact hy
   | false=>rw [hyn] at hy;exact h y d hy
  ·rw [if_neg hk] at hy;exact h y d hy
theorem X4:∀{names:List (Str×NameKind)} {acc:List (Str×Addr)} {x:Str},(∃c,acc.lookup x=some c)->∃c,(clF env names acc).lookup x=some c
 | [],_,_,h=>h
 | (n,k)::r,acc,x,⟨c,h⟩=>by
  unfold clF;refine X4 ?_;by_cases hk:(k==.free)=true
  ·rw [if_pos hk,List.lookup_cons];cases x==n with
   | true=>exact ⟨_,rfl⟩
   | false=>exact ⟨c,h⟩
  ·rw [if_neg hk];exact ⟨c,h⟩
theorem NZ:∀{names:List (Str×NameKind)} {acc:List (Str×Addr)} {x:Str},(x,NameKind.free)∈names->∃c,(clF env names acc).lookup x=some c
 | (n,k)::r,acc,x,h=>by
  unfold clF;rcases List.mem_cons.mp h with e|h
  ·cases e;refine X4 ?_;rw [if_pos (by decide),List.lookup_cons];simp
  ·exact NZ h
structure dH (N:List Str) (sc scope:Scope) (own:List Str):Prop where
 kind:scope.kind=.function
 nocell:∀y∈scope.names,y.2≠.cell
 names:∀y∈scope.names,y.2=.local->scope.names.lookup y.1=some .local
 free:∀y∈scope.names,y.2=.free->sc.names.lookup y.1=some .cell\/sc.names.lookup y.1=some .free
 ownl:∀x∈own,scope.names.lookup x=some .local
 hid:∀x∈own,scope.names.lookup (x++(" " : Str))=none
 loc:∀y∈scope.names,y.2=.local->y.1∈own\/y.1∉N
structure cW (X X':Cx) (scope:Scope) (own:List Str):Prop where
 prog:X'.prog=X.prog
 w:X'.w=X.w
 K:X'.K=X.K
 mg:X'.mg=X.mg
 base:X'.base=X.base
 A:X'.A=X.A
 N:X'.N=X.N.map (kW own)++own
 scope:X'.env.scope=relabel scope X.env
 calm:X'.calm=X.calm
 xe:X'.xe=fun _ _=>False
def QW (X:Cx) (scope:Scope) (cl:List (Str×Addr)) (C:Addr) (own:List Str) (s₂:Shared) (H₂:Hp) (fp:List Addr):Cx:=
 {X with N:=X.N.map (kW own)++own,s₀:=s₂,H₀:=H₂,env:=compEnvC scope cl C X.env,outer:=X.stack,stack:=X.stack,ex:=fp,fn:=fun _=>false,pn:=[],xe:=fun _ _=>False}
theorem X5:cW X (QW X scope cl C own s₂ H₂ fp) scope own:=
 ⟨rfl,rfl,rfl,rfl,rfl,rfl,rfl,rfl,rfl,rfl⟩
def Ext (σ σ2:St):Prop:=σ2.length=σ.length/\∀(i:Nat) v,σ[i]?=some (some v)->σ2[i]?=some (some v)
def N5 (wi:TI) (g:TG) (tc:TT) (te:TE) (m:Nat):TE:=fun σ H Q=>wi σ H fun J H1=>∀p,H1 p=none->
 ∃W:Nat->Nat->List V->Hp->Prop,(∃n,W 0 n [] (upd H1 p (.lst [])))/\∀i n ys H,W i n ys H->H p=some (.lst ys)/\((J.stop i H/\Q (.ref p) H)\/(J.go i H/\ys.length<sizeLine/\
  ∀x H2,J.yld i H x H2->g x (σ++List.replicate m none) H2 fun σ2 H3=>Ext (σ++List.replicate m none) σ2/\tc σ2 H3 fun b H4=>if b=true then te σ2 H4 fun y H5=>H5 p=some (.lst ys)/\∃n',n'<n/\W (i+1) n' (ys++[y]) (upd H5 p (.lst (ys++[y])))
   else ∃n',n'<n/\W (i+1) n' ys H4))
section
theorem Inv.comp (I:Inv X pins σ H2 s2) (S:dH X.N X.env.scope scope own) (hf:∀b∈fp,WP X pins H2 b)
  (hfx:∀b∈fp,b<s2.heap.objs.size) (hns:h1.Ns (s2.heap.objs.size+1) (fun _=>none))
  (hk:∀b o,s2.heap.get? b=some o->h1.get? b=some o) (hacc:h1.get? s2.heap.objs.size=some {cls:=.type "list",data:=.seq #[]}) :
  Inv (QW X scope (clF X.env scope.names []) (s2.heap.objs.size+1) own s2 H2 fp) [] (σ++List.replicate own.length none) (upd H2 s2.heap.objs.size (.lst [])) {s2 with heap:=h1,toks:=t1}:=by
 have hD:H2 s2.heap.objs.size=none:=I.hok.fresh (Nat.le_refl _);have hC:H2 (s2.heap.objs.size+1)=none:=I.hok.fresh (Nat.le_succ _);have cells:∀y∈scope.names,y.2=.free->∃c,X.env.cells.lookup y.1=some c:=fun y hy hk=>I.ok.has y.1 (S.free y hy hk)
 have sub:∀x c,(clF X.env scope.names []).lookup x=some c->X.env.cells.lookup x=some c:=fun x c e=>NT cells (fun _ _ h=>by simp at h) e
 have relk:∀x,(relabel scope X.env).names.lookup x=some .cell\/(relabel scope X.env).names.lookup x=some .free->(x,NameKind.free)∈scope.names:=by
  intro x hx;have go:∀(l:List (Str×NameKind)),(∀y∈l,y.2≠.cell)->((l.map fun (n,k)=>if (k==NameKind.free&&X.env.scope.kind==.function&&X.env.kindOf n==some .cell) then (n,NameKind.cell) else (n,k)).lookup x=some .cell\/(l.map fun (n,k)=>if (k==NameKind.free&&X.env.scope.kind==.function&&X.env.kindOf n==some .cell) then (n,NameKind.cell) else (n,k)).lookup x=some .free)->(x,NameKind.free)∈l:=by
   intro l;induction l with
   | nil=>intro _ h;rcases h with h|h <;> simp at h
   | cons p l ih=>
    obtain ⟨n,k⟩:=p;intro nc h;rw [List.map_cons] at h;dsimp only at h;by_cases hc:(k==NameKind.free&&X.env.scope.kind==.function&&X.env.kindOf n==some .cell)=true
    ·rw [if_pos hc] at h;rw [List.lookup_cons] at h;cases e:x==n with
     | true=>
      have:x=n:=by simpa using e
      subst this;simp only [Bool.and_eq_true] at hc;have:k=.free:=by simpa using hc.1.1
      subst this;exact List.mem_cons_self ..
     | false=>
      rw [e] at h;exact List.mem_cons_of_mem _ (ih (fun y hy=>nc y (List.mem_cons_of_mem _ hy)) h)
    ·rw [if_neg hc] at h;rw [List.lookup_cons] at h;cases e:x==n with
     | true=>
      have:x=n:=by simpa using e
      subst this;rw [e] at h;dsimp only at h;rcases h with h|h
      ·exact absurd (Option.some.inj h) (nc (x,k) (List.mem_cons_self ..))
      ·have:=Option.some.inj h;subst this;exact List.mem_cons_self ..
     | false=>
      rw [e] at h;exact List.mem_cons_of_mem _ (ih (fun y hy=>nc y (List.mem_cons_of_mem _ hy)) h)
  exact go scope.names S.nocell hx
 have hne:s2.heap.objs.size≠s2.heap.objs.size+1:=Nat.ne_of_lt (Nat.lt_succ_self _);have hlt:∀b o,s2.heap.get? b=some o->b<s2.heap.objs.size:=fun b o e=>Heap.lt_size e
 have hstk:∀b∈frs X.stack,b<s2.heap.objs.size:=fun b hb=>by
  obtain ⟨_,o,ho,_⟩:=I.stack.mem hb;exact hlt b o ho
 refine ⟨⟨I.mod,?_,I.ok.glob,I.ok.blt,Nat.le_succ _,fun x y c e1 e2=>I.ok.inj x y c (sub x c e1) (sub y c e2),fun x hx=>?_,fun _ _ h=>(by cases h),I.ok.hd,I.ok.frames,.inl rfl,fun b hb=>?_,fun b o e=>I.bs b o e,?_,fun b o e hb=>?_,fun b hb hz=>?_,I.stack,I.M7⟩,
  rfl,I.bare,Un.laid hk (Nat.le_refl _) hD,?_,fun x c e=>?_,?_,fun x c e=>?_,fun p hp=>(by simp [QW] at hp),?_,?_⟩
 ·exact S.kind
 ·have hx':(relabel scope X.env).names.lookup x=some .cell\/(relabel scope X.env).names.lookup x=some .free:=hx;exact NZ (relk x hx')
 ·refine ⟨Nat.ne_of_lt (Nat.lt_succ_of_lt (hfx b hb)),fun x c e z=>?_⟩;exact (hf b hb).2.2.2.2.1 x c (sub x c e) z
 ·exact Nat.le_trans I.ok.bsz I.sz
 ·rcases (hf b hb).2.2.2.1 with z|z
  ·exact I.ok.noex b o e z
  ·exact absurd (Nat.lt_of_lt_of_le (Heap.lt_size e) (Nat.le_trans I.ok.bsz z)) (Nat.lt_irrefl _)
 ·rcases List.mem_cons.mp (I.QL b hz) with z'|z'
  ·exact (hf b hb).2.1 z'
  ·exact (hf b hb).2.2.1 z'
 ·refine ⟨_,hns,fun i x v e1 e2 e3=>?_⟩;have hi:i<σ.length:=by
   rcases Nat.lt_or_ge i σ.length with h|h
   ·exact h
   ·rw [List.getElem?_append_right h,List.getElem?_replicate] at e2;split at e2 <;> cases e2
  rw [List.getElem?_append_left hi] at e2;have hiN:i<X.N.length:=by rw [<-I.len];exact hi
  have e1':(X.N.map (kW own))[i]?=some x:=by
   have:(X.N.map (kW own)++own)[i]?=some x:=e1;rwa [List.getElem?_append_left (by rw [List.length_map];exact hiN)] at this
  rw [List.getElem?_map] at e1';obtain ⟨y,hy,ey⟩:=Option.map_eq_some_iff.mp e1';have hyN:y∈X.N:=List.mem_of_getElem? hy;have e3':(relabel scope X.env).names.lookup x=some .local\/(relabel scope X.env).names.lookup x=some .cell\/(relabel scope X.env).names.lookup x=some .free:=e3;have keys:∀z k,(relabel scope X.env).names.lookup z=some k->∃k',scope.names.lookup z=some k'/\(k=.local->k'=.local):=by
   intro z k;show (scope.names.map fun (n,k)=>if (k==NameKind.free&&X.env.scope.kind==.function&&X.env.kindOf n==some .cell) then (n,NameKind.cell) else (n,k)).lookup z=some k->_;generalize scope.names=l;induction l with
   | nil=>intro h;simp at h
   | cons p l ih=>
    obtain ⟨n,k0⟩:=p;intro h;rw [List.map_cons] at h;dsimp only at h;by_cases hc:(k0==NameKind.free&&X.env.scope.kind==.function&&X.env.kindOf n==some .cell)=true
    ·rw [if_pos hc,List.lookup_cons] at h;rw [List.lookup_cons];cases e:z==n with
     | true=>
      rw [e] at h;dsimp only at h;cases h;exact ⟨k0,rfl,fun q=>by cases q⟩
     | false=>rw [e] at h;exact ih h
    ·rw [if_neg hc,List.lookup_cons] at h;rw [List.lookup_cons];cases e:z==n with
     | true=>
      rw [e] at h;dsimp only at h;cases h;exact ⟨_,rfl,fun q=>q⟩
     | false=>rw [e] at h;exact ih h
  by_cases hown:own.contains y=true
  ·exfalso;have ex:x=y++(" " : Str):=by rw [<-ey];unfold kW;rw [if_pos hown]
   have hn:=S.hid y (by simpa using hown);rw [<-ex] at hn;rcases e3' with q|q|q
   all_goals
    obtain ⟨k',hk',_⟩:=keys _ _ q;rw [hn] at hk';cases hk'
  ·have ex:x=y:=by rw [<-ey];unfold kW;rw [if_neg hown]
   subst ex;rcases e3' with q|q
   ·exfalso;obtain ⟨k',hk',hl⟩:=keys _ _ q;have:=hl rfl;subst this;rcases S.loc _ (PySem.mem_of_lookup hk') rfl with z|z
    ·exact hown (by simpa using z)
    ·exact z hyN
   ·have hfr:=relk x q;have hv:=S.free _ hfr rfl;obtain ⟨m,_,hl⟩:=I.loc;obtain ⟨u,ru,lk⟩:=hl i x v hy e2 (.inr hv);refine ⟨u,ru,.inr ⟨q,?_⟩⟩;rcases lk with ⟨z,_⟩|⟨_,c,hc,o,ho,hd⟩
    ·have z':X.env.scope.names.lookup x=some .local:=z;rcases hv with hv|hv <;> (rw [z'] at hv;cases hv)
    ·obtain ⟨c',hc'⟩:=NZ hfr;have:=sub x c' hc';rw [hc] at this;cases this;exact ⟨c,hc',o,hk c o ho,hd⟩
 ·obtain ⟨v,z⟩:=I.cell x c (sub x c e);obtain ⟨o,ho,hd⟩:=z;exact ⟨v,o,hk c o ho,hd⟩
 ·show upd H2 _ _ (s2.heap.objs.size+1)=none;rw [aR (Ne.symm hne)];exact hC
 ·obtain ⟨v,o,ho,_⟩:=I.cell x c (sub x c e);show upd H2 _ _ c=none;rw [aR (Nat.ne_of_lt (hlt c o ho))];exact I.freeC x c (sub x c e)
 ·exact I.hok.laid hk (Nat.le_refl _) ⟨Nat.zero_le _,[],0,.nil,hacc⟩
 ·show (σ++List.replicate own.length none).length=(X.N.map (kW own)++own).length;rw [List.length_append,List.length_append,List.length_replicate,List.length_map,I.len]
end
section
variable {X:Cx} {scope:Scope} {own:List Str}
def cI (X':Cx) (σ:St) (fp:List Addr) (tn:Nat->Heap->Prop) (W:Nat->Nat->List V->Hp->Prop) (n:Nat) (s:Shared):Prop:=∃i ys H',Inv X' [] σ H' s/\tn i s.heap/\(∀b∈fp,H' b=none)/\W i n ys H'
abbrev cE (X X':Cx) (use:Option (Value->Sem Unit)) (QQ:Value->Shared->Prop) (p:Addr):Value->Shared->Prop:=notedBy (model X.prog X.w) X.A X'.env fun e s'=>compPost (model X.prog X.w) X.A X.xe use QQ (.ref p) (p+1) (.error e) s'
def cB (X':Cx) (σ:St) (fp:List Addr) (tn:Nat->Heap->Prop) (W:Nat->Nat->List V->Hp->Prop) (n i:Nat) (h:Heap):Prop:=∀{ys':List V} {H9:Hp} {s9:Shared} {σ9:St},Ext σ σ9->Inv X' ([]++xN fp h) σ9 H9 s9->(∃n',n'<n/\W (i+1) n' ys' H9)->∃m,m<n/\cI X' σ fp tn W m s9
theorem N6 (S:dH X.N X.env.scope scope own) (hcalm:X.calm=true) (hi:PI X tg iter wi)
  (hg:∀X',cW X X' scope own->PG X' tg g) (hc:(ifs=[]/\tc=fun _ H Q=>Q true H)\/∃c,ifs=[c]/\∀X',cW X X' scope own->PT X' c tc) (he:∀X',cW X X' scope own->PE X' elt te)
  (hs:∀x,foldedSetIterable iter X.env x=pure x) (I:Inv X pins σ H s) (h:N5 wi g tc te own.length σ H R)
  (last:∀{p C:Addr} {H5:Hp} {s6:Shared} {m6:Str->Option Value},Inv X pins σ H5 s6->WP X pins H5 C->s6.heap.Ns C m6->R (.ref p) H5->compPost (model X.prog X.w) X.A X.xe use QQ (.ref p) C (.ok .next) s6) :
  wpAny (model X.prog X.w) X.A (comprehension (.ListComp elt [⟨tg,iter,ifs,0⟩] scope pos) scope X.env ps (newList []) false (eval iter X.env) use) QQ X.xe s:=by
 have cells:∀y∈scope.names,y.2=.free->∃c,X.env.cells.lookup y.1=some c:=fun y hy hk=>I.ok.has y.1 (S.free y hy hk)
 refine wpAny_comprehension_free rfl hs (U6 cells) S.kind S.names (thn (hi pins s σ H _ I h) fun xv s1 h1=>thn h1 fun itv s2 h2=>?_);obtain ⟨it,fp,tn,J,H2,e,I2,T,st2,f2,hW⟩:=h2;subst e;have hD:H2 s2.heap.objs.size=none:=I2.hok.fresh (Nat.le_refl _);obtain ⟨W,⟨n0,w0⟩,turn⟩:=hW _ hD;have hfx:∀b∈fp,b<s2.heap.objs.size:=fun b hb=>by
  obtain ⟨o,ho,_⟩:=T.obj 0 _ st2 b hb;exact Heap.lt_size ho
 refine wpAny_newObj_type (wpAny_newFunctionEnv S.nocell (by intro y hy;simp at hy) (fun h₁ hns₁ hsb₁=>?_) S.kind);dsimp only at hns₁ hsb₁ ⊢;have hC:(s2.heap.push {cls:=.type "list",dict:=none,data:=.seq ([]:List Value).toArray}).objs.size=s2.heap.objs.size+1:=Heap.size_push ..;have hne:s2.heap.objs.size≠s2.heap.objs.size+1:=Nat.ne_of_lt (Nat.lt_succ_self _);rw [hC] at hns₁ hsb₁ ⊢;have old:∀b o,s2.heap.get? b=some o->h₁.get? b=some o:=fun b o e=>hsb₁.extBut b o (Nat.ne_of_lt (Nat.lt_succ_of_lt (Heap.lt_size e))) (Heap.get?_push_of_some _ (Heap.get?_push_of_some _ e))
 have hacc:h₁.get? s2.heap.objs.size=some {cls:=.type "list",data:=.seq #[]}:=hsb₁.extBut _ _ hne (Heap.get?_push_of_some _ (Heap.get?_push_size _ rfl));have I4:=Inv.comp (t1:=s2.toks+([]:List (Str×Value)).length) I2 S f2 hfx hns₁ old hacc;generalize hX':QW X scope (clF X.env scope.names []) (s2.heap.objs.size+1) own s2 H2 fp=X' at I4;have cc:cW X X' scope own:=by rw [<-hX'];exact X5
 have eenv:X'.env=compEnvC scope (clF X.env scope.names []) (s2.heap.objs.size+1) X.env:=by rw [<-hX'];rfl
 have eA:X'.A=X.A:=cc.A;have ep:X'.prog=X.prog:=cc.prog;have ew:X'.w=X.w:=cc.w;have efs:X'.fs=frs X.stack:=by rw [<-hX'];rfl
 have eex:X'.ex=fp:=by rw [<-hX'];rfl
 have es0:X'.s₀=s2:=by rw [<-hX'];rfl
 have eH0:X'.H₀=H2:=by rw [<-hX'];rfl
 have epn:X'.pn=[]:=by rw [<-hX'];rfl
 have eK:X'.K=X.K:=cc.K;have exe:=cc.xe;have ecalm:X'.calm=true:=cc.calm.trans hcalm
 -- the iterator's records within the block
 have fpok:∀{H':Hp},(∀b∈fp,H' b=none)->∀b∈fp,WP X' [] H' b:=fun {H'} hn b hb=>by
  obtain ⟨_,f1,f3,_,f5,_⟩:=f2 b hb;refine ⟨hn b hb,?_,?_,.inl (by rw [eex];exact hb),fun x c e=>?_,fun p hp=>by rw [epn] at hp;simp at hp⟩
  ·rw [eenv];exact Nat.ne_of_lt (Nat.lt_succ_of_lt (hfx b hb))
  ·rw [efs];intro z;rcases List.mem_cons.mp (I2.QL b z) with z|z
   ·exact f1 z
   ·exact f3 z
  ·rw [eenv] at e;exact f5 x c (NT cells (fun _ _ h=>by simp at h) e)
 have st4:tn 0 h₁:=T.keep _ _ _ st2 fun b _ o e=>old b o e
 have fr4:∀b∈fp,(upd H2 s2.heap.objs.size (.lst [])) b=none:=fun b hb=>by rw [aR (Nat.ne_of_lt (hfx b hb))];exact (f2 b hb).1
 have loop:∀s4:Shared,s4={s2 with heap:=h₁,toks:=s2.toks+([]:List (Str×Value)).length}->
   codeAny (model X.prog X.w) X.A (.compLoop (.ListComp elt [⟨tg,iter,ifs,0⟩] scope pos) 0 (.ref it) (.ref s2.heap.objs.size) X'.env)
    (compPost (model X.prog X.w) X.A X.xe use QQ (.ref s2.heap.objs.size) (s2.heap.objs.size+1)) s4:=by
  rintro s4 rfl;have put:∀(n i:Nat) (ys:List V) (s7:Shared) (σ8:St) (H8:Hp) (s8:Shared),cB X' (σ++List.replicate own.length none) fp tn W n i s7.heap->Inv X' ([]++xN fp s7.heap) σ8 H8 s8->Ext (σ++List.replicate own.length none) σ8->ys.length<sizeLine->(te σ8 H8 fun y H5=>H5 s2.heap.objs.size=some (.lst ys)/\∃n',n'<n/\W (i+1) n' (ys++[y]) (upd H5 s2.heap.objs.size (.lst (ys++[y]))))->
    wpAny (model X.prog X.w) X.A (eval elt X'.env) (fun x s₄=>wpAny (model X.prog X.w) X.A (call (.builtin "list.append") [.ref s2.heap.objs.size,x]) (fun _ s₅=>∃m,m<n/\cI X' (σ++List.replicate own.length none) fp tn W m s₅) (cE X X' use QQ s2.heap.objs.size) s₄) (cE X X' use QQ s2.heap.objs.size) s8:=by
   intro n i ys s7 σ8 H8 s8 back I8 ext8 hlen q8;have he':=he X' cc _ s8 _ H8 _ I8 q8;rw [ep,ew,eA,exe] at he';refine wpAny_mono he' (fun yv s10 ⟨y,H10,I10,r10,p10,q10⟩=>?_) fun _ _ z=>False.elim z
   have hm:=xV _ s10 σ8 H10 (.ref s2.heap.objs.size) [y] (.ref s2.heap.objs.size) [yv] (fun _ H11=>∃n',n'<n/\W (i+1) n' (ys++[y]) H11) I10 rfl (.cons r10 .nil) ⟨s2.heap.objs.size,ys,y,rfl,rfl,p10,hlen,q10⟩;rw [ep,ew,eA,exe] at hm;exact wpAny_mono hm (fun _ s11 ⟨_,H11,I11,_,q11⟩=>back ext8 I11 q11) fun _ _ z=>False.elim z
  have key:∀(PO:Nat->Shared->Prop),(∀(n i:Nat) (ys:List V) (s7:Shared) (σ8:St) (H8:Hp) (s8:Shared),cB X' (σ++List.replicate own.length none) fp tn W n i s7.heap->Inv X' ([]++xN fp s7.heap) σ8 H8 s8->Ext (σ++List.replicate own.length none) σ8->ys.length<sizeLine->(tc σ8 H8 fun b H4=>if b=true then te σ8 H4 fun y H5=>H5 s2.heap.objs.size=some (.lst ys)/\∃n',n'<n/\W (i+1) n' (ys++[y]) (upd H5 s2.heap.objs.size (.lst (ys++[y]))) else ∃n',n'<n/\W (i+1) n' ys H4)->PO n s8)->
    ∀n s5,(cI X' (σ++List.replicate own.length none) fp tn W n s5)->wpAny (model X.prog X.w) X.A (pyNext (.ref it)) (fun r s₁=>match r with
     | none=>compPost (model X.prog X.w) X.A X.xe use QQ (.ref s2.heap.objs.size) (s2.heap.objs.size+1) (.ok .next) s₁
     | some v=>wpAny (model X.prog X.w) X.A (letOwnedTupleGo tg (.ref it) v) (fun _ s₀=>wpAny (model X.prog X.w) X.A (assign tg X'.env v) (fun _ s₂=>PO n s₂) (cE X X' use QQ s2.heap.objs.size) s₀) (cE X X' use QQ s2.heap.objs.size) s₁) (cE X X' use QQ s2.heap.objs.size) s5:=by
   intro PO hPO;rintro n s5 ⟨i,ys,H5,I5,st5,fr5,w5⟩;obtain ⟨hacc5,tr⟩:=turn i n ys H5 w5;rcases tr with ⟨stop,q⟩|⟨go,hlen,step⟩
   ·have done:=T.done X' ep ew eK ecalm i [] s5 _ H5 (cE X X' use QQ s2.heap.objs.size) I5 (fpok fr5) st5 stop;rw [eA] at done;refine thn done fun r s6 ⟨hr,I6⟩=>?_
    subst hr;obtain ⟨m6,hn6,_⟩:=id I6.loc;rw [eenv] at hn6;have u6:Un (frs X.stack) fp H2 H5 s2.heap s6.heap:=by
     have:=I6.base;rw [efs,eex,eH0,es0] at this;exact this
    have hCn:H5 (s2.heap.objs.size+1)=none:=by
     have:=I6.free;rw [eenv] at this;exact this
    have hok6:HOk X.prog X.w H5 s6.heap:=by
     have:=I6.hok;rw [ep,ew] at this;exact this
    have hos:s6.os=s2.os:=by have:=I6.os;rw [es0] at this;exact this
    obtain ⟨hh,gg,dd,tt,oo⟩:=s6;obtain rfl:oo=s2.os:=hos;have fin:=Inv.call (g':=gg) (d':=dd) (t':=tt) (ch:=fp) I2 u6 hok6 I6.bare fun b hb=>⟨(f2 b hb).2.2.2.1,(f2 b hb).2.1,(f2 b hb).2.2.2.2.1,(f2 b hb).2.2.2.2.2⟩
    refine last fin ⟨hCn,Nat.ne_of_gt (Nat.lt_succ_of_lt I2.lt),I2.aM0 (Nat.le_succ _),.inr (Nat.le_trans I2.sz (Nat.le_succ _)),fun x c e z=>?_,fun p hp z=>?_⟩ hn6 q
    ·obtain ⟨v,qq⟩:=I2.cell x c e;exact absurd (Nat.lt_succ_of_lt qq.lt) (by rw [z];exact Nat.lt_irrefl _)
    ·exact absurd (Nat.lt_succ_of_lt (Heap.lt_size (I2.pin p hp).1)) (by rw [z];exact Nat.lt_irrefl _)
   ·have item:=T.item X' ep ew eK ecalm i [] s5 _ H5 (cE X X' use QQ s2.heap.objs.size) I5 (fpok fr5) st5 go;rw [eA] at item;refine thn item fun r s6 ⟨u,hr,h6⟩=>?_
    subst hr;refine thn h6 fun _ s7 ⟨x,H7,I7,r7,y7,st7,fr7⟩=>?_
    have I7':=I7.pinned (fpok fr7) (T.obj _ _ st7);have hg':=hg X' cc _ s7 _ H7 x u _ I7' r7 (step x H7 y7);rw [ep,ew,eA,exe] at hg';refine wpAny_mono hg' (fun _ s8 ⟨σ8,H8,I8,ext8,q8⟩=>?_) fun _ _ z=>False.elim z
    have back:cB X' (σ++List.replicate own.length none) fp tn W n i s7.heap:=by
     rintro ys' H9 s9 σ9 ex9 I9 ⟨n',hn',w9⟩;refine ⟨n',hn',i+1,ys',H9,(I9.weak ex9.1.symm ex9.2).oH,T.keep _ _ _ st7 fun b hb o e=>(I9.pin (b,o) (List.mem_append_right _ (List.mem_append_right _ (mV hb e)))).1,fun b hb=>?_,w9⟩;obtain ⟨o,e,d⟩:=T.obj _ _ st7 b hb;exact (I9.pin (b,o) (List.mem_append_right _ (List.mem_append_right _ (mV hb e)))).2.1
    exact hPO n i ys s7 σ8 H8 s8 back I8 ext8 hlen q8
  rcases hc with ⟨rfl,rfl⟩|⟨c,rfl,hc⟩
  ·refine PySem.W.kcp_loop _ (key _ fun n i ys s7 σ8 H8 s8 back I8 ext8 hlen q8=>?_) n0 ⟨0,[],_,I4,st4,fr4,w0⟩;simp only [if_true] at q8;exact put n i ys s7 σ8 H8 s8 back I8 ext8 hlen q8
  ·refine PySem.W.kct_loop _ (key _ fun n i ys s7 σ8 H8 s8 back I8 ext8 hlen q8=>?_) n0 ⟨0,[],_,I4,st4,fr4,w0⟩;have hc':=hc X' cc _ s8 _ H8 _ I8 q8;rw [ep,ew,eA,exe] at hc';refine wpAny_mono hc' (fun b s9 ⟨H9,I9,q9⟩=>?_) fun _ _ z=>False.elim z
   cases b with
   | false=>
    simp only [Bool.false_eq_true,if_false] at q9 ⊢;exact back ext8 I9 q9
   | true=>
    simp only [if_true] at q9 ⊢;exact put n i ys s7 σ8 H9 s9 back I9 ext8 hlen q9
 have l4:=loop _ rfl;rw [eenv] at l4;exact codeAny_compStart_list l4 (T.self X.A 0 _ _ _ st4 l4)
theorem QX (f:Inv X pins σ H5 s6) (k:WP X pins H5 C) (n:s6.heap.Ns C m6) (q:Q (.ref p) H5):compPost (model X.prog X.w) X.A X.xe none (EP X pins σ Q) (.ref p) C (.ok .next) s6:=
 ⟨m6,n,fun h' sb=>⟨.ref p,H5,Inv.turned f (fun b o hb e=>sb.extBut b o hb e) k.1 k.2.1 k.2.2.2.1 k.2.2.2.2.1 k.2.2.2.2.2,rfl,q⟩⟩
theorem X6 (S:dH X.N X.env.scope scope own) (hcalm:X.calm=true) (hi:PI X tg iter wi)
  (hg:∀X',cW X X' scope own->PG X' tg g) (hc:∀X',cW X X' scope own->PT X' c tc) (he:∀X',cW X X' scope own->PE X' elt te)
  (hs:∀x,foldedSetIterable iter X.env x=pure x):PE X (.ListComp elt [⟨tg,iter,[c],0⟩] scope pos) (N5 wi g tc te own.length):=by
 intro pins s σ H Q I h;rw [eval_ListComp];exact N6 S hcalm hi hg (.inr ⟨c,rfl,hc⟩) he hs I h QX
theorem aAz (S:dH X.N X.env.scope scope own) (hcalm:X.calm=true) (hi:PI X tg iter wi)
  (hg:∀X',cW X X' scope own->PG X' tg g) (he:∀X',cW X X' scope own->PE X' elt te)
  (hs:∀x,foldedSetIterable iter X.env x=pure x):PE X (.ListComp elt [⟨tg,iter,[],0⟩] scope pos) (N5 wi g (fun _ H Q=>Q true H) te own.length):=by
 intro pins s σ H Q I h;rw [eval_ListComp];exact N6 S hcalm hi hg (.inl ⟨rfl,rfl⟩) he hs I h QX
end
end L2
namespace Mi
open PySem L2 PySem.SeqAt
section
variable [KFrag]
theorem lU (I:Inv X pins σ H s) (e:H a=some (.tup xs)):∃its:List Value,Vals xs its/\s.heap.IsTuple a its.toArray:=by
 obtain ⟨_,its,r,p⟩:xs.length<=sizeLine/\∃its:List Value,Vals xs its/\jR s.heap a its.toArray:=I.hok a _ e;exact ⟨its,r,p.tup⟩
theorem wB (I:Inv X pins σ H s) (e:SqL X.K H a xs):∃its:List Value,Vals xs its/\s.heap.IsList a its.toArray:=by
 obtain ⟨its,r,p,_⟩:=I.list e;exact ⟨its,r,p.isList⟩
theorem Rep.nY (r:Rep P H v (.lst ds)):∃a xs,v=.ref a/\SqL K H a xs/\bG P H xs ds:=by
 obtain ⟨_,_,rfl,e,p,r⟩:=r.inv;exact ⟨_,_,rfl,.inl (.inl e),r⟩
theorem Rep.iM (r:Rep P H v (.tup ds)):∃a xs,v=.ref a/\H a=some (.tup xs)/\bG P H xs ds:=by
 obtain ⟨_,_,rfl,e,r⟩:=r.inv;exact ⟨_,_,rfl,e,r⟩
mutual
theorem DW:∀(n:Nat) (d:D),d.i_ n=true->eqD d d=true
 | _,.non,_=>rfl
 | _,.bl b,_=>by simp [eqD]
 | _,.int i,_=>by simp [eqD]
 | _,.str x,_=>by simp [eqD]
 | n+1,.tup xs,h=>by rw [D.i_] at h;rw [eqD];exact yE n xs h
 | n+1,.lst xs,h=>by rw [D.i_] at h;rw [eqD];exact yE n xs h
 | 0,.tup xs,h=>by exact fx0 h
 | 0,.lst xs,h=>by exact fx0 h
 | n,.dct _,h=>by cases n <;> exact fx0 h
 | n,.uD,h=>by cases n <;> exact fx0 h
 | n,.scr _,h=>by cases n <;> exact fx0 h
 | n,.fdc _,h=>by cases n <;> exact fx0 h
 | n,.exc _ _,h=>by cases n <;> exact fx0 h
 | n,.ins _ _,h=>by cases n <;> exact fx0 h
 | n,.cel _ _,h=>by cases n <;> exact fx0 h
theorem yE:∀(n:Nat) (ds:List D),D.jT n ds=true->MF ds ds=true
 | _,[],_=>rfl
 | n,d::ds,h=>by
  rw [D.jT,Bool.and_eq_true] at h;rw [MF,DW n d h.1,yE n ds h.2];rfl
end
mutual
theorem Rep.inj {P P':Addr->Prop} {H:Hp}:∀(n:Nat) {v:V} {d e:D},d.i_ n=true->e.i_ n=true->Rep P H v d->Rep P' H v e->d=e
 | _,_,_,_,_,_,.non,.non=>rfl
 | _,_,_,_,_,_,.bl _,.bl _=>rfl
 | _,_,_,_,_,_,.int _,.int _=>rfl
 | _,_,_,_,_,_,.str _,.str _=>rfl
 | n+1,_,.tup ds,_,h,h',.tup e1 r1,q=>by
  cases q with
  | tup e2 r2=>
   rw [e1] at e2;cases e2;rw [D.i_] at h h';rw [bG.inj n h h' r1 r2]
  | lst e2 _ _=>rw [e1] at e2;cases e2
  | frz e2 _=>exact fx0 h'
  | fdK e2 _ _=>exact fx0 h'
  | cel e2 _ _=>exact fx0 h'
  | fdT e2 _ _=>exact fx0 h'
  | exc _ _ _=>exact fx0 h'
  | ins _ _ _=>exact fx0 h'
  | dK e2 _ _ _=>rw [e1] at e2;cases e2
  | dT e2 _ _ _=>rw [e1] at e2;cases e2
 | n+1,_,.lst ds,_,h,h',.lst e1 p r1,q=>by
  cases q with
  | tup e2 r2=>rw [e1] at e2;cases e2
  | lst e2 _ r2=>
   rw [e1] at e2;cases e2;rw [D.i_] at h h';rw [bG.inj n h h' r1 r2]
  | frz e2 _=>exact fx0 h'
  | fdK e2 _ _=>exact fx0 h'
  | cel e2 _ _=>exact fx0 h'
  | fdT e2 _ _=>exact fx0 h'
  | exc _ _ _=>exact fx0 h'
  | ins _ _ _=>exact fx0 h'
  | dK e2 _ _ _=>rw [e1] at e2;cases e2
  | dT e2 _ _ _=>rw [e1] at e2;cases e2
 | 0,_,.tup ds,_,h,_,_,_=>by exact fx0 h
 | 0,_,.lst ds,_,h,_,_,_=>by exact fx0 h
 | n,_,.dct _,_,h,_,_,_=>by cases n <;> exact fx0 h
 | n,_,.scr _,_,h,_,_,_=>by cases n <;> exact fx0 h
 | n,_,.fdc _,_,h,_,_,_=>by cases n <;> exact fx0 h
 | n,_,.exc _ _,_,h,_,_,_=>by cases n <;> exact fx0 h
 | n,_,.ins _ _,_,h,_,_,_=>by cases n <;> exact fx0 h
 | n,_,.cel _ _,_,h,_,_,_=>by cases n <;> exact fx0 h
theorem bG.inj {P P':Addr->Prop} {H:Hp}:∀(n:Nat) {v:List V} {d e:List D},D.jT n d=true->D.jT n e=true->bG P H v d->bG P' H v e->d=e
 | _,_,_,_,_,_,.nil,.nil=>rfl
 | n,_,_,_,h,h',.cons r t,.cons r' t'=>by
  rw [D.jT,Bool.and_eq_true] at h h';rw [Rep.inj n h.1 h'.1 r r',bG.inj n h.2 h'.2 t t']
end
theorem sG:∀(xs ys:List D),MF xs ys=((List.range (min xs.length ys.length)).all (fun j=>eqD (xs.getD j .non) (ys.getD j .non))&&xs.length==ys.length)
 | [],[]=>by simp [MF]
 | [],y::ys=>by simp [MF]
 | x::xs,[]=>by simp [MF]
 | x::xs,y::ys=>by
  have e:min (x::xs).length (y::ys).length=min xs.length ys.length+1:=by simp only [List.length_cons];lia
  rw [MF,sG xs ys,e,List.range_succ_eq_map,List.all_cons,List.all_map,Bool.and_assoc]
  congr 1
  simp [Function.comp_def]
theorem lV:∀{ds:List D} {j:Nat},D.jT n ds=true->j<ds.length->(ds.getD j .non).i_ n=true
 | [],j,_,h=>by simp at h
 | d::ds,0,h,_=>by rw [D.jT,Bool.and_eq_true] at h;exact h.1
 | d::ds,j+1,h,hj=>by
  rw [D.jT,Bool.and_eq_true] at h;simpa using lV h.2 (by simpa using hj)
theorem bG.getD (r:bG P H vs ds) (hj:j<ds.length):∃v,vs[j]?=some v/\Rep P H v (ds.getD j .non):=by
 obtain ⟨v,h1,h2⟩:=r.get (i:=j) (d:=ds.getD j .non) (by simp [hj]);exact ⟨v,h1,h2⟩
section
theorem yF (ha:a.i_ 0=true) (hb:b.i_ 0=true) (rx:Rep All H x a) (ry:Rep All H y b) (ru:RelV x u) (rv:RelV y v):RcAt A s u v (eqD a b)/\RcNeAt A s u v (!eqD a b)/\EqAt A s u v (eqD a b):=by
 cases rx with
 | non=>
  cases ru;cases ry with
  | non=>cases rv;exact ⟨RcAt.none_none,RcNeAt.none_none,EqAt.same _⟩
  | bl _=>cases rv;exact ⟨RcAt.none_bool _,RcNeAt.none_bool _,EqAt.none_bool _⟩
  | int _=>obtain ⟨t,rfl⟩:=rv;exact ⟨RcAt.none_int _ _,RcNeAt.none_int _ _,EqAt.none_int _ _⟩
  | str _=>obtain ⟨t,rfl⟩:=rv;exact ⟨RcAt.none_str _ _,RcNeAt.none_str _ _,EqAt.none_str _ _⟩
  | _=>exact fx0 hb
 | bl _=>
  cases ru;cases ry with
  | non=>cases rv;exact ⟨RcAt.bool_none _,RcNeAt.bool_none _,EqAt.bool_none _⟩
  | bl _=>cases rv;exact ⟨RcAt.bool_bool _ _,RcNeAt.bool_bool _ _,EqAt.bool_bool _ _⟩
  | int _=>obtain ⟨t,rfl⟩:=rv;exact ⟨RcAt.bool_int _ _ _,RcNeAt.bool_int _ _ _,EqAt.bool_int _ _ _⟩
  | str _=>obtain ⟨t,rfl⟩:=rv;exact ⟨RcAt.bool_str _ _ _,RcNeAt.bool_str _ _ _,EqAt.bool_str _ _ _⟩
  | _=>exact fx0 hb
 | int _=>
  obtain ⟨t,rfl⟩:=ru;cases ry with
  | non=>cases rv;exact ⟨RcAt.int_none _ _,RcNeAt.int_none _ _,EqAt.int_none _ _⟩
  | bl _=>cases rv;exact ⟨RcAt.int_bool _ _ _,RcNeAt.int_bool _ _ _,EqAt.int_bool _ _ _⟩
  | int _=>obtain ⟨t',rfl⟩:=rv;exact ⟨RcAt.int_int _ _ _ _,RcNeAt.int_int _ _ _ _,EqAt.int_int _ _ _ _⟩
  | str _=>obtain ⟨t',rfl⟩:=rv;exact ⟨RcAt.int_str _ _ _ _,RcNeAt.int_str _ _ _ _,EqAt.int_str _ _ _ _⟩
  | _=>exact fx0 hb
 | str _=>
  obtain ⟨t,rfl⟩:=ru;cases ry with
  | non=>cases rv;exact ⟨RcAt.str_none _ _,RcNeAt.str_none _ _,EqAt.str_none _ _⟩
  | bl _=>cases rv;exact ⟨RcAt.str_bool _ _ _,RcNeAt.str_bool _ _ _,EqAt.str_bool _ _ _⟩
  | int _=>obtain ⟨t',rfl⟩:=rv;exact ⟨RcAt.str_int _ _ _ _,RcNeAt.str_int _ _ _ _,EqAt.str_int _ _ _ _⟩
  | str _=>obtain ⟨t',rfl⟩:=rv;exact ⟨RcAt.str_str _ _ _ _,RcNeAt.str_str _ _ _ _,EqAt.str_str _ _ _ _⟩
  | _=>exact fx0 hb
 | _=>exact fx0 ha
theorem X7 (I:Inv X pins σ H s):∀(n:Nat) (A:Around) {x y:V} {a b:D} {u v:Value},A.units+n<cLine->a.i_ n=true->b.i_ n=true->Rep All H x a->Rep All H y b->RelV x u->RelV y v->
  RcAt A s u v (eqD a b)/\RcNeAt A s u v (!eqD a b)/\EqAt A s u v (eqD a b):=by
 intro n;induction n with
 | zero=>exact fun A=>fun _ ha hb rx ry ru rv=>yF ha hb rx ry ru rv
 | succ n ih=>
  intro A x y a b u v hu ha hb rx ry ru rv;have hu0:A.units<cLine:=by lia
  have hu1:A.in1.units+n<cLine:=by show A.units+1+n<cLine;lia
  have itm:∀{xs ys:List V} {ds es:List D} {i1 i2:List Value},D.jT n ds=true->D.jT n es=true->bG All H xs ds->bG All H ys es->Vals xs i1->Vals ys i2->∀j (g1:j<i1.toArray.size) (g2:j<i2.toArray.size),EqAt A.in1 s i1.toArray[j] i2.toArray[j] (eqD (ds.getD j .non) (es.getD j .non)):=by
   intro xs ys ds es i1 i2 ha hb r1 r2 vr1 vr2 j g1 g2;have z1:i1.toArray.size=ds.length:=by rw [List.size_toArray,<-vr1.length,r1.length]
   have z2:i2.toArray.size=es.length:=by rw [List.size_toArray,<-vr2.length,r2.length]
   obtain ⟨v1,w1,rr1⟩:=r1.getD (j:=j) (by lia);obtain ⟨v2,w2,rr2⟩:=r2.getD (j:=j) (by lia);obtain ⟨u1,k1,l1⟩:=vr1.get w1;obtain ⟨u2,k2,l2⟩:=vr2.get w2;have m1:i1.toArray[j]=u1:=by
    rw [List.getElem?_eq_getElem (by simpa using g1)] at k1;simpa using Option.some.inj k1
   have m2:i2.toArray[j]=u2:=by
    rw [List.getElem?_eq_getElem (by simpa using g2)] at k2;simpa using Option.some.inj k2
   rw [m1,m2];exact (ih A.in1 hu1 (lV ha (by lia)) (lV hb (by lia)) rr1 rr2 l1 l2).2.2
  cases a with
  | non=>
   cases b with
   | tup es=>
    cases rx.inv;cases ru;obtain ⟨q,ys,rfl,e2,r2⟩:=ry.iM;cases rv;obtain ⟨its2,vr2,h2⟩:=lU I e2;exact ⟨RcAt.none_tuple h2 hu0,RcNeAt.none_tuple h2 hu0,EqAt.none_tuple h2 hu0⟩
   | lst es=>
    cases rx.inv;cases ru;obtain ⟨q,ys,rfl,e2,r2⟩:=ry.nY (K:=X.K);cases rv;obtain ⟨its2,vr2,h2⟩:=wB I e2;exact ⟨RcAt.none_list h2 hu0,RcNeAt.none_list h2 hu0,EqAt.none_list h2 hu0⟩
   | _=>first|exact yF rfl rfl rx ry ru rv|exact absurd ry Rep.uD|exact fx0 hb
  | bl _=>
   cases b with
   | tup es=>
    cases rx.inv;cases ru;obtain ⟨q,ys,rfl,e2,r2⟩:=ry.iM;cases rv;obtain ⟨its2,vr2,h2⟩:=lU I e2;exact ⟨RcAt.bool_tuple _ h2 hu0,RcNeAt.bool_tuple _ h2 hu0,EqAt.bool_tuple _ h2 hu0⟩
   | lst es=>
    cases rx.inv;cases ru;obtain ⟨q,ys,rfl,e2,r2⟩:=ry.nY (K:=X.K);cases rv;obtain ⟨its2,vr2,h2⟩:=wB I e2;exact ⟨RcAt.bool_list _ h2 hu0,RcNeAt.bool_list _ h2 hu0,EqAt.bool_list _ h2 hu0⟩
   | _=>first|exact yF rfl rfl rx ry ru rv|exact absurd ry Rep.uD|exact fx0 hb
  | int _=>
   cases b with
   | tup es=>
    cases rx.inv;obtain ⟨t1,rfl⟩:=ru;obtain ⟨q,ys,rfl,e2,r2⟩:=ry.iM;cases rv;obtain ⟨its2,vr2,h2⟩:=lU I e2;exact ⟨RcAt.int_tuple _ _ h2 hu0,RcNeAt.int_tuple _ _ h2 hu0,EqAt.int_tuple _ _ h2 hu0⟩
   | lst es=>
    cases rx.inv;obtain ⟨t1,rfl⟩:=ru;obtain ⟨q,ys,rfl,e2,r2⟩:=ry.nY (K:=X.K);cases rv;obtain ⟨its2,vr2,h2⟩:=wB I e2;exact ⟨RcAt.int_list _ _ h2 hu0,RcNeAt.int_list _ _ h2 hu0,EqAt.int_list _ _ h2 hu0⟩
   | _=>first|exact yF rfl rfl rx ry ru rv|exact absurd ry Rep.uD|exact fx0 hb
  | str _=>
   cases b with
   | tup es=>
    cases rx.inv;obtain ⟨t1,rfl⟩:=ru;obtain ⟨q,ys,rfl,e2,r2⟩:=ry.iM;cases rv;obtain ⟨its2,vr2,h2⟩:=lU I e2;exact ⟨RcAt.str_tuple _ _ h2 hu0,RcNeAt.str_tuple _ _ h2 hu0,EqAt.str_tuple _ _ h2 hu0⟩
   | lst es=>
    cases rx.inv;obtain ⟨t1,rfl⟩:=ru;obtain ⟨q,ys,rfl,e2,r2⟩:=ry.nY (K:=X.K);cases rv;obtain ⟨its2,vr2,h2⟩:=wB I e2;exact ⟨RcAt.str_list _ _ h2 hu0,RcNeAt.str_list _ _ h2 hu0,EqAt.str_list _ _ h2 hu0⟩
   | _=>first|exact yF rfl rfl rx ry ru rv|exact absurd ry Rep.uD|exact fx0 hb
  | tup ds=>
   obtain ⟨p,xs,rfl,e1,r1⟩:=rx.iM;cases ru;obtain ⟨its1,vr1,h1⟩:=lU I e1;rw [D.i_] at ha;cases b with
   | non=>cases ry.inv;cases rv;exact ⟨RcAt.tuple_none h1 hu0,RcNeAt.tuple_none h1 hu0,EqAt.tuple_none h1 hu0⟩
   | bl _=>cases ry.inv;cases rv;exact ⟨RcAt.tuple_bool _ h1 hu0,RcNeAt.tuple_bool _ h1 hu0,EqAt.tuple_bool _ h1 hu0⟩
   | int _=>cases ry.inv;obtain ⟨t2,rfl⟩:=rv;exact ⟨RcAt.tuple_int _ _ h1 hu0,RcNeAt.tuple_int _ _ h1 hu0,EqAt.tuple_int _ _ h1 hu0⟩
   | str _=>cases ry.inv;obtain ⟨t2,rfl⟩:=rv;exact ⟨RcAt.tuple_str _ _ h1 hu0,RcNeAt.tuple_str _ _ h1 hu0,EqAt.tuple_str _ _ h1 hu0⟩
   | tup es=>
    obtain ⟨q,ys,rfl,e2,r2⟩:=ry.iM;cases rv;obtain ⟨its2,vr2,h2⟩:=lU I e2;rw [D.i_] at hb;have z1:its1.toArray.size=ds.length:=by rw [List.size_toArray,<-vr1.length,r1.length]
    have z2:its2.toArray.size=es.length:=by rw [List.size_toArray,<-vr2.length,r2.length]
    have he:=itm ha hb r1 r2 vr1 vr2;have ee:eqD (.tup ds) (.tup es)=((List.range (min its1.toArray.size its2.toArray.size)).all (fun j=>eqD (ds.getD j .non) (es.getD j .non))&&its1.toArray.size==its2.toArray.size):=by
     rw [eqD,sG,z1,z2]
    have r0:=RcAt.tuples h1 h2 hu0 he;have r0':=RcNeAt.tuples h1 h2 hu0 he;rw [<-ee] at r0 r0';refine ⟨r0,r0',?_⟩;by_cases hpq:p=q
    ·subst hpq;have hab:(D.tup ds)=(.tup es):=Rep.inj (n+1) (by rw [D.i_];exact ha) (by rw [D.i_];exact hb) rx ry;rw [<-hab,DW (n+1) _ (by rw [D.i_];exact ha)];exact EqAt.same _
    ·exact EqAt.of_refs hpq r0
   | lst es=>
    obtain ⟨q,ys,rfl,e2,r2⟩:=ry.nY (K:=X.K);cases rv;obtain ⟨its2,vr2,h2⟩:=wB I e2;exact ⟨RcAt.tuple_list h1 h2 hu0,RcNeAt.tuple_list h1 h2 hu0,EqAt.tuple_list h1 h2 hu0⟩
   | _=>first|exact absurd ry Rep.uD|exact fx0 hb
  | lst ds=>
   obtain ⟨p,xs,rfl,e1,r1⟩:=rx.nY (K:=X.K);cases ru;obtain ⟨its1,vr1,h1⟩:=wB I e1;rw [D.i_] at ha;cases b with
   | non=>cases ry.inv;cases rv;exact ⟨RcAt.list_none h1 hu0,RcNeAt.list_none h1 hu0,EqAt.list_none h1 hu0⟩
   | bl _=>cases ry.inv;cases rv;exact ⟨RcAt.list_bool _ h1 hu0,RcNeAt.list_bool _ h1 hu0,EqAt.list_bool _ h1 hu0⟩
   | int _=>cases ry.inv;obtain ⟨t2,rfl⟩:=rv;exact ⟨RcAt.list_int _ _ h1 hu0,RcNeAt.list_int _ _ h1 hu0,EqAt.list_int _ _ h1 hu0⟩
   | str _=>cases ry.inv;obtain ⟨t2,rfl⟩:=rv;exact ⟨RcAt.list_str _ _ h1 hu0,RcNeAt.list_str _ _ h1 hu0,EqAt.list_str _ _ h1 hu0⟩
   | tup es=>
    obtain ⟨q,ys,rfl,e2,r2⟩:=ry.iM;cases rv;obtain ⟨its2,vr2,h2⟩:=lU I e2;exact ⟨RcAt.list_tuple h1 h2 hu0,RcNeAt.list_tuple h1 h2 hu0,EqAt.list_tuple h1 h2 hu0⟩
   | lst es=>
    obtain ⟨q,ys,rfl,e2,r2⟩:=ry.nY (K:=X.K);cases rv;obtain ⟨its2,vr2,h2⟩:=wB I e2;rw [D.i_] at hb;have z1:its1.toArray.size=ds.length:=by rw [List.size_toArray,<-vr1.length,r1.length]
    have z2:its2.toArray.size=es.length:=by rw [List.size_toArray,<-vr2.length,r2.length]
    have he:=itm ha hb r1 r2 vr1 vr2;have r00:RcAt A s (.ref p) (.ref q) (eqD (.lst ds) (.lst es))/\RcNeAt A s (.ref p) (.ref q) (!eqD (.lst ds) (.lst es)):=by
     rw [eqD,sG];by_cases hz:ds.length=es.length
     ·have r0:=RcAt.lists h1 h2 (by lia) hu0 he;have r0':=RcNeAt.lists h1 h2 (by lia) hu0 he;rw [z1] at r0 r0';rw [show min ds.length es.length=ds.length by lia,show (ds.length==es.length)=true by simpa using hz,Bool.and_true];exact ⟨r0,r0'⟩
     ·have hz':(its1.toArray.size != its2.toArray.size)=true:=by rw [z1,z2];simpa using hz
      rw [show (ds.length==es.length)=false by simpa using hz,Bool.and_false];exact ⟨RcAt.lists_lengths h1 h2 hz' hu0,RcNeAt.lists_lengths h1 h2 hz' hu0⟩
    obtain ⟨r0,r0'⟩:=r00;refine ⟨r0,r0',?_⟩;by_cases hpq:p=q
    ·subst hpq;have hab:(D.lst ds)=(.lst es):=Rep.inj (n+1) (by rw [D.i_];exact ha) (by rw [D.i_];exact hb) rx ry;rw [<-hab,DW (n+1) _ (by rw [D.i_];exact ha)];exact EqAt.same _
    ·exact EqAt.of_refs hpq r0
   | _=>first|exact absurd ry Rep.uD|exact fx0 hb
  | _=>first|exact absurd rx Rep.uD|exact fx0 ha
end
end
open PySem.AutoSeq1 (wpAny_loadPart')
open PySem.MeetsSeq PySem.MeetsSeq2 PySem.MeetsSeq3
variable [KFrag]
noncomputable def zN.op:zN->CmpOp
 | .lt=>.Lt|.le=>.LtE|.gt=>.Gt|.ge=>.GtE
def QZ (op:CmpOp) (A:Around) (s:Shared) (u v:Value) (b:Bool):Prop:=
 ∀(prog:Program) (w:World) (E:Value->Shared->Prop) (Q:Value->Shared->Prop),Q (.bool b) s->wpAny (model prog w) A (richCompare op u v) Q E s
def C2 (o:zN) (A:Around) (s:Shared) (vs ws:List Value) (xs ys:List D):Prop:=
 vs.length=xs.length/\ws.length=ys.length/\∀(j:Nat) (v w:Value) (x y:D),vs[j]?=some v->ws[j]?=some w->xs[j]?=some x->ys[j]?=some y->
  EqAt A s v w (eqD x y)/\(eqD x y=false->∀k,aA9 o x y=some k->QZ o.op A s v w k)
theorem C2.tail (h:C2 o A s (v::vs) (w::ws) (x::xs) (y::ys)):C2 o A s vs ws xs ys:=
 ⟨by simpa using h.1,by simpa using h.2.1,fun j a b c d e1 e2 e3 e4=>h.2.2 (j+1) a b c d (by simpa using e1) (by simpa using e2) (by simpa using e3) (by simpa using e4)⟩
theorem U7 (l b:Addr) (items items2:Array Value) (n n2:Nat) (dd dd2:Option Addr) (sl sl2:Array (Option Value)) (xs ys:List D) (res:Bool) (hr:gB .lt xs ys=some res) :
  Meets (Builtin.«tuple.__lt__» ⟨[.ref l,.ref b],[]⟩)
   (fun A R s=>s.heap.get? l=some {cls:=.type "tuple",dict:=dd,data:=.seq items n,slots:=sl}/\s.heap.get? b=some {cls:=.type "tuple",dict:=dd2,data:=.seq items2 n2,slots:=sl2}/\
    C2 .lt A.in1 s items.toList items2.toList xs ys/\R (.ok (.ret (.bool res))) s):=
 .of_wp fun prog w A R s h=>by
  obtain ⟨hp,g,d,tk,os⟩:=s;obtain ⟨hl,hb,hC,h⟩:=h;have f2:=AutoSeq1.sub_tuple_tuple;have z1:items.size=xs.length:=by rw [<-hC.1];simp
  have z2:items2.size=ys.length:=by rw [<-hC.2.1];simp
  wp_walk using wpAny_loadPart' hl,wpAny_loadPart' hb,wpAny_forIn_list _ (fun rest b s'=>b.1=none/\s'=⟨hp,g,d,tk,os⟩/\∃(vs ws:List Value) (xs' ys':List D),rest=vs.zip ws/\
   C2 .lt A.in1 ⟨hp,g,d,tk,os⟩ vs ws xs' ys'/\xs'.length+items2.size=ys'.length+items.size/\gB .lt xs' ys'=some res) _
  case turn=>
   rintro ⟨y,x⟩ rest b s' ⟨hb',rfl,vs,ws,xs',ys',hz,hC',hlen,hR⟩;cases vs with
   | nil=>rw [List.zip_nil_left] at hz;cases hz
   | cons v vs=>
    cases ws with
    | nil=>rw [List.zip_nil_right] at hz;cases hz
    | cons w' ws=>
     rw [List.zip_cons_cons] at hz;injection hz with hyx hrest
     injection hyx with hy hx
     subst hy hx;cases xs' with
     | nil=>exact absurd hC'.1 (by simp)
     | cons x0 xs'=>
      cases ys' with
      | nil=>exact absurd hC'.2.1 (by simp)
      | cons y0 ys'=>
       rw [gB] at hR;simp only [List.length_cons] at hlen;obtain ⟨he,hlt⟩:=hC'.2.2 0 _ _ _ _ rfl rfl rfl rfl;refine wpAny_bind (he prog w _ _ ?_);cases e:eqD x0 y0 with
       | true=>
        rw [e] at hR;simp only [if_true] at hR
        wp_walk
        exact ⟨rfl,rfl,_,_,_,_,hrest,hC'.tail,by lia,hR⟩
       | false=>
        rw [e] at hR;simp only [Bool.false_eq_true,if_false] at hR;have hri:∀(E:Value->Shared->Prop) (Q:Value->Shared->Prop),Q (.bool res) ⟨hp,g,d,tk,os⟩->wpAny (model prog w) A.in1 (richCompare .Lt _ _) Q E ⟨hp,g,d,tk,os⟩:=fun E Q q=>hlt e res hR prog w E Q q
        wp_walk using hri
        exact ⟨_,rfl,by simpa using h⟩
  case fin=>
   rintro ⟨b1,b2⟩ s' ⟨hb',rfl,vs,ws,xs',ys',hz,hC',hlen,hR⟩;simp only at hb';subst hb';have hv:res=decide (items.size<items2.size):=by
    cases xs' with
    | nil=>
     rw [gB] at hR;have:=Option.some.inj hR;rw [<-this];simp only [List.length_nil] at hlen;simp only [zN.nat]
     congr 1
     simp only [eq_iff_iff];lia
    | cons x0 xs'=>
     cases ys' with
     | nil=>
      rw [gB] at hR;have:=Option.some.inj hR;rw [<-this];simp only [List.length_nil,List.length_cons] at hlen;simp only [zN.nat,List.length_cons]
      congr 1
      simp only [eq_iff_iff];lia
     | cons y0 ys'=>
      exfalso;cases vs with
      | nil=>exact absurd hC'.1 (by simp)
      | cons v vs=>
       cases ws with
       | nil=>exact absurd hC'.2.1 (by simp)
       | cons w' ws=>rw [List.zip_cons_cons] at hz;cases hz
   rw [hv] at h
   wp_walk
   exact ⟨_,rfl,by simpa [Builtin.Tuple.tupleCompareSizes] using h⟩
  case h=>
   exact ⟨rfl,rfl,items.toList,items2.toList,xs,ys,rfl,hC,by lia,hr⟩
theorem QZ.aHt (hl:s.heap.IsTuple l items) (hb:s.heap.IsTuple b items2) (hC:C2 .lt A.in1 s items.toList items2.toList xs ys) (hr:gB .lt xs ys=some res) (hu:A.units<cLine) :
  QZ .Lt A s (.ref l) (.ref b) res:=fun prog w E Q h=>by
 obtain ⟨⟨cls,dd,data,sl⟩,ho,hc,n,hd⟩:=id hl;obtain ⟨⟨cls2,dd2,data2,sl2⟩,ho2,hc2,n2,hd2⟩:=id hb;simp only at hc hd hc2 hd2;subst hc hd hc2 hd2;exact richCompare_meets_room ⟨_,ho,rfl⟩ ⟨_,ho2,rfl⟩ PySem.F.slot_tuple_lt PySem.F.entry_tuple_lt (PySem.F.args_tuple_lt_2 _ _) (U7 l b items items2 n n2 dd dd2 sl sl2 xs ys res hr)
  ⟨ho,ho2,hC,show Value.bool res≠Value.notImplemented/\Q (.bool res) s from ⟨(fun x=>nomatch x),h⟩⟩ hu
theorem U8 (l b:Addr) (items items2:Array Value) (n n2:Nat) (dd dd2:Option Addr) (sl sl2:Array (Option Value)) (xs ys:List D) (res:Bool) (hr:gB .le xs ys=some res) :
  Meets (Builtin.«tuple.__le__» ⟨[.ref l,.ref b],[]⟩)
   (fun A R s=>s.heap.get? l=some {cls:=.type "tuple",dict:=dd,data:=.seq items n,slots:=sl}/\s.heap.get? b=some {cls:=.type "tuple",dict:=dd2,data:=.seq items2 n2,slots:=sl2}/\
    C2 .le A.in1 s items.toList items2.toList xs ys/\R (.ok (.ret (.bool res))) s):=
 .of_wp fun prog w A R s h=>by
  obtain ⟨hp,g,d,tk,os⟩:=s;obtain ⟨hl,hb,hC,h⟩:=h;have f2:=AutoSeq1.sub_tuple_tuple;have z1:items.size=xs.length:=by rw [<-hC.1];simp
  have z2:items2.size=ys.length:=by rw [<-hC.2.1];simp
  wp_walk using wpAny_loadPart' hl,wpAny_loadPart' hb,wpAny_forIn_list _ (fun rest b s'=>b.1=none/\s'=⟨hp,g,d,tk,os⟩/\∃(vs ws:List Value) (xs' ys':List D),rest=vs.zip ws/\
   C2 .le A.in1 ⟨hp,g,d,tk,os⟩ vs ws xs' ys'/\xs'.length+items2.size=ys'.length+items.size/\gB .le xs' ys'=some res) _
  case turn=>
   rintro ⟨y,x⟩ rest b s' ⟨hb',rfl,vs,ws,xs',ys',hz,hC',hlen,hR⟩;cases vs with
   | nil=>rw [List.zip_nil_left] at hz;cases hz
   | cons v vs=>
    cases ws with
    | nil=>rw [List.zip_nil_right] at hz;cases hz
    | cons w' ws=>
     rw [List.zip_cons_cons] at hz;injection hz with hyx hrest
     injection hyx with hy hx
     subst hy hx;cases xs' with
     | nil=>exact absurd hC'.1 (by simp)
     | cons x0 xs'=>
      cases ys' with
      | nil=>exact absurd hC'.2.1 (by simp)
      | cons y0 ys'=>
       rw [gB] at hR;simp only [List.length_cons] at hlen;obtain ⟨he,hlt⟩:=hC'.2.2 0 _ _ _ _ rfl rfl rfl rfl;refine wpAny_bind (he prog w _ _ ?_);cases e:eqD x0 y0 with
       | true=>
        rw [e] at hR;simp only [if_true] at hR
        wp_walk
        exact ⟨rfl,rfl,_,_,_,_,hrest,hC'.tail,by lia,hR⟩
       | false=>
        rw [e] at hR;simp only [Bool.false_eq_true,if_false] at hR;have hri:∀(E:Value->Shared->Prop) (Q:Value->Shared->Prop),Q (.bool res) ⟨hp,g,d,tk,os⟩->wpAny (model prog w) A.in1 (richCompare .LtE _ _) Q E ⟨hp,g,d,tk,os⟩:=fun E Q q=>hlt e res hR prog w E Q q
        wp_walk using hri
        exact ⟨_,rfl,by simpa using h⟩
  case fin=>
   rintro ⟨b1,b2⟩ s' ⟨hb',rfl,vs,ws,xs',ys',hz,hC',hlen,hR⟩;simp only at hb';subst hb';have hv:res=decide (items.size<=items2.size):=by
    cases xs' with
    | nil=>
     rw [gB] at hR;have:=Option.some.inj hR;rw [<-this];simp only [List.length_nil] at hlen;simp only [zN.nat]
     congr 1
     simp only [eq_iff_iff];lia
    | cons x0 xs'=>
     cases ys' with
     | nil=>
      rw [gB] at hR;have:=Option.some.inj hR;rw [<-this];simp only [List.length_nil,List.length_cons] at hlen;simp only [zN.nat,List.length_cons]
      congr 1
      simp only [eq_iff_iff];lia
     | cons y0 ys'=>
      exfalso;cases vs with
      | nil=>exact absurd hC'.1 (by simp)
      | cons v vs=>
       cases ws with
       | nil=>exact absurd hC'.2.1 (by simp)
       | cons w' ws=>rw [List.zip_cons_cons] at hz;cases hz
   rw [hv] at h
   wp_walk
   exact ⟨_,rfl,by simpa [Builtin.Tuple.tupleCompareSizes] using h⟩
  case h=>
   exact ⟨rfl,rfl,items.toList,items2.toList,xs,ys,rfl,hC,by lia,hr⟩
theorem QZ.aHu (hl:s.heap.IsTuple l items) (hb:s.heap.IsTuple b items2) (hC:C2 .le A.in1 s items.toList items2.toList xs ys) (hr:gB .le xs ys=some res) (hu:A.units<cLine) :
  QZ .LtE A s (.ref l) (.ref b) res:=fun prog w E Q h=>by
 obtain ⟨⟨cls,dd,data,sl⟩,ho,hc,n,hd⟩:=id hl;obtain ⟨⟨cls2,dd2,data2,sl2⟩,ho2,hc2,n2,hd2⟩:=id hb;simp only at hc hd hc2 hd2;subst hc hd hc2 hd2;exact richCompare_meets_room ⟨_,ho,rfl⟩ ⟨_,ho2,rfl⟩ PySem.F.slot_tuple_le PySem.F.entry_tuple_le (PySem.F.args_tuple_le_2 _ _) (U8 l b items items2 n n2 dd dd2 sl sl2 xs ys res hr)
  ⟨ho,ho2,hC,show Value.bool res≠Value.notImplemented/\Q (.bool res) s from ⟨(fun x=>nomatch x),h⟩⟩ hu
theorem U9 (l b:Addr) (items items2:Array Value) (n n2:Nat) (dd dd2:Option Addr) (sl sl2:Array (Option Value)) (xs ys:List D) (res:Bool) (hr:gB .gt xs ys=some res) :
  Meets (Builtin.«tuple.__gt__» ⟨[.ref l,.ref b],[]⟩)
   (fun A R s=>s.heap.get? l=some {cls:=.type "tuple",dict:=dd,data:=.seq items n,slots:=sl}/\s.heap.get? b=some {cls:=.type "tuple",dict:=dd2,data:=.seq items2 n2,slots:=sl2}/\
    C2 .gt A.in1 s items.toList items2.toList xs ys/\R (.ok (.ret (.bool res))) s):=
 .of_wp fun prog w A R s h=>by
  obtain ⟨hp,g,d,tk,os⟩:=s;obtain ⟨hl,hb,hC,h⟩:=h;have f2:=AutoSeq1.sub_tuple_tuple;have z1:items.size=xs.length:=by rw [<-hC.1];simp
  have z2:items2.size=ys.length:=by rw [<-hC.2.1];simp
  wp_walk using wpAny_loadPart' hl,wpAny_loadPart' hb,wpAny_forIn_list _ (fun rest b s'=>b.1=none/\s'=⟨hp,g,d,tk,os⟩/\∃(vs ws:List Value) (xs' ys':List D),rest=vs.zip ws/\
   C2 .gt A.in1 ⟨hp,g,d,tk,os⟩ vs ws xs' ys'/\xs'.length+items2.size=ys'.length+items.size/\gB .gt xs' ys'=some res) _
  case turn=>
   rintro ⟨y,x⟩ rest b s' ⟨hb',rfl,vs,ws,xs',ys',hz,hC',hlen,hR⟩;cases vs with
   | nil=>rw [List.zip_nil_left] at hz;cases hz
   | cons v vs=>
    cases ws with
    | nil=>rw [List.zip_nil_right] at hz;cases hz
    | cons w' ws=>
     rw [List.zip_cons_cons] at hz;injection hz with hyx hrest
     injection hyx with hy hx
     subst hy hx;cases xs' with
     | nil=>exact absurd hC'.1 (by simp)
     | cons x0 xs'=>
      cases ys' with
      | nil=>exact absurd hC'.2.1 (by simp)
      | cons y0 ys'=>
       rw [gB] at hR;simp only [List.length_cons] at hlen;obtain ⟨he,hlt⟩:=hC'.2.2 0 _ _ _ _ rfl rfl rfl rfl;refine wpAny_bind (he prog w _ _ ?_);cases e:eqD x0 y0 with
       | true=>
        rw [e] at hR;simp only [if_true] at hR
        wp_walk
        exact ⟨rfl,rfl,_,_,_,_,hrest,hC'.tail,by lia,hR⟩
       | false=>
        rw [e] at hR;simp only [Bool.false_eq_true,if_false] at hR;have hri:∀(E:Value->Shared->Prop) (Q:Value->Shared->Prop),Q (.bool res) ⟨hp,g,d,tk,os⟩->wpAny (model prog w) A.in1 (richCompare .Gt _ _) Q E ⟨hp,g,d,tk,os⟩:=fun E Q q=>hlt e res hR prog w E Q q
        wp_walk using hri
        exact ⟨_,rfl,by simpa using h⟩
  case fin=>
   rintro ⟨b1,b2⟩ s' ⟨hb',rfl,vs,ws,xs',ys',hz,hC',hlen,hR⟩;simp only at hb';subst hb';have hv:res=decide (items2.size<items.size):=by
    cases xs' with
    | nil=>
     rw [gB] at hR;have:=Option.some.inj hR;rw [<-this];simp only [List.length_nil] at hlen;simp only [zN.nat]
     congr 1
     simp only [eq_iff_iff];lia
    | cons x0 xs'=>
     cases ys' with
     | nil=>
      rw [gB] at hR;have:=Option.some.inj hR;rw [<-this];simp only [List.length_nil,List.length_cons] at hlen;simp only [zN.nat,List.length_cons]
      congr 1
      simp only [eq_iff_iff];lia
     | cons y0 ys'=>
      exfalso;cases vs with
      | nil=>exact absurd hC'.1 (by simp)
      | cons v vs=>
       cases ws with
       | nil=>exact absurd hC'.2.1 (by simp)
       | cons w' ws=>rw [List.zip_cons_cons] at hz;cases hz
   rw [hv] at h
   wp_walk
   exact ⟨_,rfl,by simpa [Builtin.Tuple.tupleCompareSizes] using h⟩
  case h=>
   exact ⟨rfl,rfl,items.toList,items2.toList,xs,ys,rfl,hC,by lia,hr⟩
theorem QZ.aHv (hl:s.heap.IsTuple l items) (hb:s.heap.IsTuple b items2) (hC:C2 .gt A.in1 s items.toList items2.toList xs ys) (hr:gB .gt xs ys=some res) (hu:A.units<cLine) :
  QZ .Gt A s (.ref l) (.ref b) res:=fun prog w E Q h=>by
 obtain ⟨⟨cls,dd,data,sl⟩,ho,hc,n,hd⟩:=id hl;obtain ⟨⟨cls2,dd2,data2,sl2⟩,ho2,hc2,n2,hd2⟩:=id hb;simp only at hc hd hc2 hd2;subst hc hd hc2 hd2;exact richCompare_meets_room ⟨_,ho,rfl⟩ ⟨_,ho2,rfl⟩ PySem.F.slot_tuple_gt PySem.F.entry_tuple_gt (PySem.F.args_tuple_gt_2 _ _) (U9 l b items items2 n n2 dd dd2 sl sl2 xs ys res hr)
  ⟨ho,ho2,hC,show Value.bool res≠Value.notImplemented/\Q (.bool res) s from ⟨(fun x=>nomatch x),h⟩⟩ hu
theorem U_ (l b:Addr) (items items2:Array Value) (n n2:Nat) (dd dd2:Option Addr) (sl sl2:Array (Option Value)) (xs ys:List D) (res:Bool) (hr:gB .ge xs ys=some res) :
  Meets (Builtin.«tuple.__ge__» ⟨[.ref l,.ref b],[]⟩)
   (fun A R s=>s.heap.get? l=some {cls:=.type "tuple",dict:=dd,data:=.seq items n,slots:=sl}/\s.heap.get? b=some {cls:=.type "tuple",dict:=dd2,data:=.seq items2 n2,slots:=sl2}/\
    C2 .ge A.in1 s items.toList items2.toList xs ys/\R (.ok (.ret (.bool res))) s):=
 .of_wp fun prog w A R s h=>by
  obtain ⟨hp,g,d,tk,os⟩:=s;obtain ⟨hl,hb,hC,h⟩:=h;have f2:=AutoSeq1.sub_tuple_tuple;have z1:items.size=xs.length:=by rw [<-hC.1];simp
  have z2:items2.size=ys.length:=by rw [<-hC.2.1];simp
  wp_walk using wpAny_loadPart' hl,wpAny_loadPart' hb,wpAny_forIn_list _ (fun rest b s'=>b.1=none/\s'=⟨hp,g,d,tk,os⟩/\∃(vs ws:List Value) (xs' ys':List D),rest=vs.zip ws/\
   C2 .ge A.in1 ⟨hp,g,d,tk,os⟩ vs ws xs' ys'/\xs'.length+items2.size=ys'.length+items.size/\gB .ge xs' ys'=some res) _
  case turn=>
   rintro ⟨y,x⟩ rest b s' ⟨hb',rfl,vs,ws,xs',ys',hz,hC',hlen,hR⟩;cases vs with
   | nil=>rw [List.zip_nil_left] at hz;cases hz
   | cons v vs=>
    cases ws with
    | nil=>rw [List.zip_nil_right] at hz;cases hz
    | cons w' ws=>
     rw [List.zip_cons_cons] at hz;injection hz with hyx hrest
     injection hyx with hy hx
     subst hy hx;cases xs' with
     | nil=>exact absurd hC'.1 (by simp)
     | cons x0 xs'=>
      cases ys' with
      | nil=>exact absurd hC'.2.1 (by simp)
      | cons y0 ys'=>
       rw [gB] at hR;simp only [List.length_cons] at hlen;obtain ⟨he,hlt⟩:=hC'.2.2 0 _ _ _ _ rfl rfl rfl rfl;refine wpAny_bind (he prog w _ _ ?_);cases e:eqD x0 y0 with
       | true=>
        rw [e] at hR;simp only [if_true] at hR
        wp_walk
        exact ⟨rfl,rfl,_,_,_,_,hrest,hC'.tail,by lia,hR⟩
       | false=>
        rw [e] at hR;simp only [Bool.false_eq_true,if_false] at hR;have hri:∀(E:Value->Shared->Prop) (Q:Value->Shared->Prop),Q (.bool res) ⟨hp,g,d,tk,os⟩->wpAny (model prog w) A.in1 (richCompare .GtE _ _) Q E ⟨hp,g,d,tk,os⟩:=fun E Q q=>hlt e res hR prog w E Q q
        wp_walk using hri
        exact ⟨_,rfl,by simpa using h⟩
  case fin=>
   rintro ⟨b1,b2⟩ s' ⟨hb',rfl,vs,ws,xs',ys',hz,hC',hlen,hR⟩;simp only at hb';subst hb';have hv:res=decide (items2.size<=items.size):=by
    cases xs' with
    | nil=>
     rw [gB] at hR;have:=Option.some.inj hR;rw [<-this];simp only [List.length_nil] at hlen;simp only [zN.nat]
     congr 1
     simp only [eq_iff_iff];lia
    | cons x0 xs'=>
     cases ys' with
     | nil=>
      rw [gB] at hR;have:=Option.some.inj hR;rw [<-this];simp only [List.length_nil,List.length_cons] at hlen;simp only [zN.nat,List.length_cons]
      congr 1
      simp only [eq_iff_iff];lia
     | cons y0 ys'=>
      exfalso;cases vs with
      | nil=>exact absurd hC'.1 (by simp)
      | cons v vs=>
       cases ws with
       | nil=>exact absurd hC'.2.1 (by simp)
       | cons w' ws=>rw [List.zip_cons_cons] at hz;cases hz
   rw [hv] at h
   wp_walk
   exact ⟨_,rfl,by simpa [Builtin.Tuple.tupleCompareSizes] using h⟩
  case h=>
   exact ⟨rfl,rfl,items.toList,items2.toList,xs,ys,rfl,hC,by lia,hr⟩
theorem QZ.aHw (hl:s.heap.IsTuple l items) (hb:s.heap.IsTuple b items2) (hC:C2 .ge A.in1 s items.toList items2.toList xs ys) (hr:gB .ge xs ys=some res) (hu:A.units<cLine) :
  QZ .GtE A s (.ref l) (.ref b) res:=fun prog w E Q h=>by
 obtain ⟨⟨cls,dd,data,sl⟩,ho,hc,n,hd⟩:=id hl;obtain ⟨⟨cls2,dd2,data2,sl2⟩,ho2,hc2,n2,hd2⟩:=id hb;simp only at hc hd hc2 hd2;subst hc hd hc2 hd2;exact richCompare_meets_room ⟨_,ho,rfl⟩ ⟨_,ho2,rfl⟩ PySem.F.slot_tuple_ge PySem.F.entry_tuple_ge (PySem.F.args_tuple_ge_2 _ _) (U_ l b items items2 n n2 dd dd2 sl sl2 xs ys res hr)
  ⟨ho,ho2,hC,show Value.bool res≠Value.notImplemented/\Q (.bool res) s from ⟨(fun x=>nomatch x),h⟩⟩ hu
section
theorem aEp (I:Inv X pins σ H s) (o:zN):∀(n:Nat) (A:Around) {x y:V} {a b:D} {u v:Value} {k:Bool},A.units+n<cLine->a.i_ n=true->b.i_ n=true->Rep All H x a->Rep All H y b->RelV x u->RelV y v->
  aA9 o a b=some k->QZ o.op A s u v k:=by
 intro n;induction n with
 | zero=>
  intro A x y a b u v k hu ha hb rx ry ru rv hk;cases a with
  | int i=>
   cases b with
   | int j=>
    cases rx;cases ry;obtain ⟨t,rfl⟩:=ru;obtain ⟨t',rfl⟩:=rv;rw [aA9] at hk;have:=Option.some.inj hk;subst this;cases o with
    | lt=>exact fun prog w E Q h=>(PyProof.Rows.lt_int h:wpAny (model prog w) A (compareOp .Lt (.int i t) (.int j t')) Q E s)
    | le=>exact fun prog w E Q h=>(PyProof.Rows.le_int h:wpAny (model prog w) A (compareOp .LtE (.int i t) (.int j t')) Q E s)
    | gt=>exact fun prog w E Q h=>(PyProof.Rows.gt_int h:wpAny (model prog w) A (compareOp .Gt (.int i t) (.int j t')) Q E s)
    | ge=>exact fun prog w E Q h=>(PyProof.Rows.ge_int h:wpAny (model prog w) A (compareOp .GtE (.int i t) (.int j t')) Q E s)
   | _=>exact nx0 hk
  | str i=>
   cases b with
   | str j=>
    cases rx;cases ry;obtain ⟨t,rfl⟩:=ru;obtain ⟨t',rfl⟩:=rv;rw [aA9] at hk;have:=Option.some.inj hk;subst this;cases o with
    | lt=>exact fun prog w E Q h=>(PyProof.Rows.lt_str h:wpAny (model prog w) A (compareOp .Lt (.str i t) (.str j t')) Q E s)
    | le=>exact fun prog w E Q h=>(PySem.P.le_str h:wpAny (model prog w) A (compareOp .LtE (.str i t) (.str j t')) Q E s)
    | gt=>exact fun prog w E Q h=>(PySem.P.gt_str h:wpAny (model prog w) A (compareOp .Gt (.str i t) (.str j t')) Q E s)
    | ge=>exact fun prog w E Q h=>(PySem.P.ge_str h:wpAny (model prog w) A (compareOp .GtE (.str i t) (.str j t')) Q E s)
   | _=>exact nx0 hk
  | tup _=>exact fx0 ha
  | _=>cases b <;> exact nx0 hk
 | succ n ih=>
  intro A x y a b u v k hu ha hb rx ry ru rv hk;have hu0:A.units<cLine:=by lia
  have hu1:A.in1.units+n<cLine:=by show A.units+1+n<cLine;lia
  cases a with
  | int i=>
   cases b with
   | int j=>
    cases rx;cases ry;obtain ⟨t,rfl⟩:=ru;obtain ⟨t',rfl⟩:=rv;rw [aA9] at hk;have:=Option.some.inj hk;subst this;cases o with
    | lt=>exact fun prog w E Q h=>(PyProof.Rows.lt_int h:wpAny (model prog w) A (compareOp .Lt (.int i t) (.int j t')) Q E s)
    | le=>exact fun prog w E Q h=>(PyProof.Rows.le_int h:wpAny (model prog w) A (compareOp .LtE (.int i t) (.int j t')) Q E s)
    | gt=>exact fun prog w E Q h=>(PyProof.Rows.gt_int h:wpAny (model prog w) A (compareOp .Gt (.int i t) (.int j t')) Q E s)
    | ge=>exact fun prog w E Q h=>(PyProof.Rows.ge_int h:wpAny (model prog w) A (compareOp .GtE (.int i t) (.int j t')) Q E s)
   | _=>exact nx0 hk
  | str i=>
   cases b with
   | str j=>
    cases rx;cases ry;obtain ⟨t,rfl⟩:=ru;obtain ⟨t',rfl⟩:=rv;rw [aA9] at hk;have:=Option.some.inj hk;subst this;cases o with
    | lt=>exact fun prog w E Q h=>(PyProof.Rows.lt_str h:wpAny (model prog w) A (compareOp .Lt (.str i t) (.str j t')) Q E s)
    | le=>exact fun prog w E Q h=>(PySem.P.le_str h:wpAny (model prog w) A (compareOp .LtE (.str i t) (.str j t')) Q E s)
    | gt=>exact fun prog w E Q h=>(PySem.P.gt_str h:wpAny (model prog w) A (compareOp .Gt (.str i t) (.str j t')) Q E s)
    | ge=>exact fun prog w E Q h=>(PySem.P.ge_str h:wpAny (model prog w) A (compareOp .GtE (.str i t) (.str j t')) Q E s)
   | _=>exact nx0 hk
  | tup ds=>
   cases b with
   | tup es=>
    obtain ⟨p,xs,rfl,e1,r1⟩:=rx.iM;cases ru;obtain ⟨its1,vr1,h1⟩:=lU I e1;obtain ⟨q,ys,rfl,e2,r2⟩:=ry.iM;cases rv;obtain ⟨its2,vr2,h2⟩:=lU I e2;rw [D.i_] at ha hb;rw [aA9] at hk;have hC:∀o',o'=o->C2 o' A.in1 s its1.toArray.toList its2.toArray.toList ds es:=by
     rintro o' rfl;refine ⟨by rw [List.toList_toArray,<-vr1.length,r1.length],by rw [List.toList_toArray,<-vr2.length,r2.length],fun j v w x y a1 a2 a3 a4=>?_⟩;rw [List.toList_toArray] at a1 a2;obtain ⟨v1,w1,rr1⟩:=r1.get a3;obtain ⟨v2,w2,rr2⟩:=r2.get a4;obtain ⟨u1,k1,l1⟩:=vr1.get w1;obtain ⟨u2,k2,l2⟩:=vr2.get w2;rw [a1] at k1;cases k1;rw [a2] at k2;cases k2;have g1:x.i_ n=true:=by
      have:=lV ha (List.getElem?_eq_some_iff.mp a3).1;rwa [List.getD_eq_getElem?_getD,a3] at this
     have g2:y.i_ n=true:=by
      have:=lV hb (List.getElem?_eq_some_iff.mp a4).1;rwa [List.getD_eq_getElem?_getD,a4] at this
     exact ⟨(X7 I n A.in1 hu1 g1 g2 rr1 rr2 l1 l2).2.2,fun _ k hk=>ih A.in1 hu1 g1 g2 rr1 rr2 l1 l2 hk⟩
    cases o with
    | lt=>exact QZ.aHt h1 h2 (hC .lt rfl) hk hu0
    | le=>exact QZ.aHu h1 h2 (hC .le rfl) hk hu0
    | gt=>exact QZ.aHv h1 h2 (hC .gt rfl) hk hu0
    | ge=>exact QZ.aHw h1 h2 (hC .ge rfl) hk hu0
   | _=>exact nx0 hk
  | _=>cases b <;> exact nx0 hk
end
end Mi
namespace Mi
open PySem L2 PySem.SeqAt PySem.Spec PyProof.Rows
section
variable [KFrag]
def kR (H:Hp) (d:D) (fr:Bool) (Q:VK):Prop:=∀v H',bV H H'->Rep All H' v d->(fr=true->Rep (New H) H' v d)->Q v H'
noncomputable def gE (f:FE) (fr:Bool):TE:=fun σ H Q=>∃ρ d,ER H σ ρ/\f ρ=.ok d/\kR H d fr Q
noncomputable def gT (f:FT):TT:=fun σ H Q=>∃ρ b,ER H σ ρ/\f ρ=.ok b/\∀H',bV H H'->Q b H'
noncomputable def gA (f:FA) (fr:Bool):TA:=fun σ H Q=>∃ρ ds,ER H σ ρ/\f ρ=.ok ds/\∀vs H',bV H H'->bG All H' vs ds->(fr=true->bG (New H) H' vs ds)->Q vs H'
theorem kR.self {fr:Bool} (q:kR H d fr Q) (r:Rep All H v d) (r2:fr=true->Rep (New H) H v d):Q v H:=q v H (bV.refl H) r r2
theorem kR.imp {fr fr':Bool} (q:kR H d fr Q) (s:bV H H') (h:fr=true->fr'=true):kR H' d fr' Q:=fun v H2 s2 r n=>q v H2 (s.trans s2) r fun hf=>(n (h hf)).mono (bV.new s)
theorem kR.int {fr:Bool} {Q:VK} (q:kR H (.int i) fr Q):Q (.int i) H:=q.self (.int i) fun _=>.int i
theorem kR.bl {fr:Bool} {Q:VK} (q:kR H (.bl i) fr Q):Q (.bl i) H:=q.self (.bl i) fun _=>.bl i
theorem kR.str {fr:Bool} {Q:VK} (q:kR H (.str i) fr Q):Q (.str i) H:=q.self (.str i) fun _=>.str i
theorem kR.non {fr:Bool} {Q:VK} (q:kR H .non fr Q):Q .non H:=q.self .non fun _=>.non
noncomputable def r2 (f:D->D->Res D) (fr:Bool):R2:=fun x y H Q=>∃a b d,Rep All H x a/\Rep All H y b/\f a b=.ok d/\kR H d fr Q
def r1 (f:D->Res D) (fr:Bool):V->Hp->VK->Prop:=fun x H Q=>∃a d,Rep All H x a/\f a=.ok d/\kR H d fr Q
def rs (f:List D->Res D) (fr:Bool):List V->Hp->VK->Prop:=fun xs H Q=>∃ds d,bG All H xs ds/\f ds=.ok d/\kR H d fr Q
theorem bA {f:α->Res β} (h:(do let x <- m;f x)=.ok b):∃a,m=.ok a/\f a=.ok b:=Res.aEi h
section
variable {X:Cx} {a b e:Expr} {pos:Pos} {fa fb fe:FE} {ra rb re:Bool} {ga:FT}
theorem ER.var (E:ER H σ ρ) (h:h_ i ρ=.ok d):∃v,σ[i]?=some (some v)/\Rep All H v d/\ρ.getD i .uD=d:=by
 have:ρ.getD i .uD=d/\d≠.uD:=by
  unfold h_ at h;split at h
  ·exact bx h
  ·cases h;refine ⟨rfl,fun z=>?_⟩;rename_i q;exact q z
 obtain ⟨e1,e2⟩:=this;obtain ⟨v,h1,h2⟩:=E i (by rw [e1];exact e2);exact ⟨v,h1,by rw [e1] at h2;exact h2,e1⟩
theorem aA (hN:X.N[i]?=some x:=by exact rfl) (hv:Vis X.env.scope x:=by trivial) (hd:nDb x:=by decide) (hcd:nCd x:=by decide):PE X (.Name x pos) (gE (h_ i) false):=
 PE.imp (dF hN hv hd hcd) fun σ H Q ⟨ρ,d,E,h,q⟩=>by
  obtain ⟨v,h1,h2,_⟩:=E.var h;exact ⟨v,h1,q.self h2 (fun z=>by cases z)⟩
theorem aJ {i j}:PE X (.Constant (.int i) j pos) (gE (bC (.int i)) true):=PE.imp aCo fun σ H Q ⟨ρ,d,E,h,q⟩=>by cases h;exact q.int
theorem gU {i j}:PE X (.Constant (.bool i) j pos) (gE (bC (.bl i)) true):=PE.imp aKh fun σ H Q ⟨ρ,d,E,h,q⟩=>by cases h;exact q.bl
theorem dR {i j}:PE X (.Constant (.str i) j pos) (gE (bC (.str i)) true):=PE.imp aGt fun σ H Q ⟨ρ,d,E,h,q⟩=>by cases h;exact q.str
theorem lW {j}:PE X (.Constant .none j pos) (gE (bC .non) true):=PE.imp aGs fun σ H Q ⟨ρ,d,E,h,q⟩=>by cases h;exact q.non
theorem two {fr:Bool} {σ:L2.St} {H:Hp} {Q:VK} (h:gE (b2 f fa fb) fr σ H Q):tOp (r2 f fr) (gE fa ra) (gE fb rb) σ H Q:=by
 obtain ⟨ρ,d,E,h,q⟩:=h;obtain ⟨x,h1,h⟩:=bA h;obtain ⟨y,h2,h⟩:=bA h;refine ⟨ρ,x,E,h1,fun v H1 s1 rp1 _=>⟨ρ,y,E.same s1,h2,fun u H2 s2 rp2 _=>⟨x,y,d,rp1.same s2,rp2,h,q.imp (s1.trans s2) id⟩⟩⟩
theorem aZ {o:Operator} {f:D->D->Res D} {fr:Bool} (ho:OpR X (binaryOp o) (r2 f fr)) (ha:PE X a (gE fa ra)) (hb:PE X b (gE fb rb)):PE X (.BinOp a o b pos) (gE (b2 f fa fb) fr):=PE.imp (aKp ho ha hb) fun _ _ _=>two
theorem yG {o:CmpOp} {f:D->D->Res D} {fr:Bool} (ho:OpR X (compareOp o) (r2 f fr)) (ha:PE X a (gE fa ra)) (hb:PE X b (gE fb rb)) (hm:behindInMarks o b=false):PE X (.Compare a [o] [b] pos) (gE (b2 f fa fb) fr):=PE.imp (aDy ho ha hb hm) fun _ _ _=>two
theorem cY {o:CmpOp} {f:D->D->Res D} {fr:Bool} (ho:OpR X (compareOp o) (r2 f fr)) (ha:PE X a (gE fa ra)) (hb:PE X b (gE fb rb)) (hm:behindInMarks o b=false):PT X (.Compare a [o] [b] pos) (gT (bTB (b2 f fa fb))):=
 PT.imp (aDz ho ha hb hm) fun σ H Q ⟨ρ,k,E,h,q⟩=>by
  obtain ⟨d,h1,h2⟩:=bA h;refine two ⟨ρ,d,E,h1,fun v H' s r _=>?_⟩;cases d <;> simp only [asB] at h2 <;> cases h2
  cases r.inv;exact ⟨_,rfl,q H' s⟩
theorem aHx {f:D->Res D} {fr:Bool} (ho:UnR X (unaryOp o) (r1 f fr)) (ha:PE X a (gE fa ra)):PE X (.UnaryOp o a pos) (gE (b1 f fa) fr):=
 PE.imp (aKq ho ha) fun σ H Q ⟨ρ,d,E,h,q⟩=>by
  obtain ⟨x,h1,h⟩:=bA h;exact ⟨ρ,x,E,h1,fun v H1 s1 rp1 _=>⟨x,d,rp1,h,q.imp s1 id⟩⟩
theorem aKz {f:D->D->Res D} {fr:Bool} (ho:IxR X (r2 f fr)) (ha:PE X a (gE fa ra)) (hb:PE X b (gE fb rb)) (hs:M_ b):PE X (.Subscript a b pos) (gE (b2 f fa fb) fr):=PE.imp (aKw ho ha hb hs) fun _ _ _=>two
theorem aN6 (r:Rep All H v d) (h:aM6 d=.ok k) (hd:∀kvs,d≠.dct kvs) (hs:∀xs,d≠.scr xs):aKt X.K v H k:=by
 cases r with
 | non=>cases h;rfl
 | bl b=>cases h;rfl
 | int i=>cases h;rfl
 | str x=>
  replace h:(if decide (x.length<=lim) then Res.ok ((x.length:Int) != 0) else .bad)=.ok k:=h;split at h
  ·rename_i hl;cases h;exact ⟨Nat.le_trans (of_decide_eq_true hl) (by rw [sizeLine_eq];decide),rfl⟩
  ·exact bx h
 | tup e rr=>cases h;exact .inr (.inl ⟨_,.of e,by cases rr <;> rfl⟩)
 | lst e p rr=>cases h;exact .inl ⟨_,.of e,by cases rr <;> rfl⟩
 | frz e rr=>exact absurd rfl (hs _)
 | dK e p rr n=>exact absurd rfl (hd _)
 | dT e p rr n=>exact absurd rfl (hd _)
 | fdK e rr n=>exact bx h
 | fdT e rr n=>exact bx h
 | exc n e q=>exact bx h
 | ins n e q=>exact bx h
 | cel e p rr=>exact bx h
theorem dY (ha:PE X a (gE fa ra)) (he:∀whole,isTrue a X.env whole=(do let v <- whole;standAt a.pos;holding [v] (truthy v)):=by intro _;rfl):PT X a (gT (bTr fa)):=
 PT.imp (aAj ha he) fun σ H Q ⟨ρ,k,E,h,q⟩=>by
  obtain ⟨d,h1,h2⟩:=bA h;refine ⟨ρ,d,E,h1,fun v H' s r _=>⟨k,aN6 r ?_ ?_ ?_,q H' s⟩⟩
  ·cases d <;> first|exact h2|exact bx h2
  ·rintro kvs rfl;exact bx h2
  ·rintro kvs rfl;exact bx h2
theorem jV (ha:PT X a (gT ga)):PT X (.UnaryOp .Not a pos) (gT (wO ga)):=PT.imp (aGw ha) fun σ H Q ⟨ρ,k,E,h,q⟩=>by
  obtain ⟨d,h1,h2⟩:=bA h;cases h2;exact ⟨ρ,d,E,h1,fun H' s=>q H' s⟩
theorem Q_ {op} (ha:PE X a (gE fa ra)):PE X (.BoolOp op [a] pos) (gE fa ra):=aGx ha
theorem aCx (h:asB d=.ok k):d=.bl k:=by cases d <;> simp only [asB] at h <;> cases h;rfl
theorem aHy (h:asI d=.ok k):d=.int k:=by cases d <;> simp only [asI] at h <;> cases h;rfl
theorem aCy {rest:List Expr} (ha:PE X a (gE fa ra)) (hb:PE X (.BoolOp .And (b::rest) pos) (gE fb rb)):PE X (.BoolOp .And (a::b::rest) pos) (gE (aEm fa fb) rb):=PE.imp (aGy ha hb) fun σ H Q ⟨ρ,k,E,h,q⟩=>by
  obtain ⟨d,h1,h⟩:=bA h;obtain ⟨z,h2,h3⟩:=bA h;cases aCx h2;refine ⟨ρ,_,E,h1,fun v H' s r _=>?_⟩;cases r.inv;refine ⟨_,rfl,?_⟩;cases z with
  | true=>rw [if_pos rfl];rw [if_pos rfl] at h3;exact ⟨ρ,k,E.same s,h3,q.imp s id⟩
  | false=>rw [if_neg (by simp)];rw [if_neg (by simp)] at h3;cases h3;exact (q.imp s id).bl
theorem aHz {rest:List Expr} (ha:PE X a (gE fa ra)) (hb:PE X (.BoolOp .Or (b::rest) pos) (gE fb rb)):PE X (.BoolOp .Or (a::b::rest) pos) (gE (aHs fa fb) rb):=PE.imp (aKk ha hb) fun σ H Q ⟨ρ,k,E,h,q⟩=>by
  obtain ⟨d,h1,h⟩:=bA h;obtain ⟨z,h2,h3⟩:=bA h;cases aCx h2;refine ⟨ρ,_,E,h1,fun v H' s r _=>?_⟩;cases r.inv;refine ⟨_,rfl,?_⟩;cases z with
  | true=>rw [if_pos rfl];rw [if_pos rfl] at h3;cases h3;exact (q.imp s id).bl
  | false=>rw [if_neg (by simp)];rw [if_neg (by simp)] at h3;exact ⟨ρ,k,E.same s,h3,q.imp s id⟩
theorem aH:PA X [] (gA aU true):=PA.imp lD fun σ H Q ⟨ρ,ds,E,h,q⟩=>by cases h;exact q [] H (bV.refl H) .nil fun _=>.nil
theorem aB (he:PE X e (gE fe re)) (hes:PA X es (gA f r)) (hs:starEach (e::es) X.env=(false,eval e X.env)::starEach es X.env:=by rfl):PA X (e::es) (gA (aC fe f) (re&&r)):=PA.imp (cA he hes hs) fun σ H Q ⟨ρ,ds,E,h,q⟩=>by
  obtain ⟨x,h1,h⟩:=bA h;obtain ⟨xs,h2,h⟩:=bA h;cases h;refine ⟨ρ,x,E,h1,fun v H1 s1 r1 n1=>⟨ρ,xs,E.same s1,h2,fun vs H2 s2 r2 n2=>q _ _ (s1.trans s2) (.cons (r1.same s2) r2) fun hf=>?_⟩⟩;obtain ⟨f1,f2⟩:=(Bool.and_eq_true _ _▸hf:re=true/\r=true)
  exact .cons ((n1 f1).same s2) ((n2 f2).mono (bV.new s1))
theorem cQ {x1} (h:PA X es (gA f r)):PE X (.Tuple es x1 pos) (gE (eZ f) r):=PE.imp (aHd h) fun σ H Q ⟨ρ,d,E,h,q⟩=>by
  obtain ⟨xs,h1,h⟩:=bA h;split at h
  ·rename_i hl;cases h;refine ⟨ρ,xs,E,h1,fun vs H1 s1 r1 n1=>⟨?_,fun p hp=>?_⟩⟩
   ·rw [r1.length];exact Nat.le_trans (of_decide_eq_true hl) (by rw [sizeLine_eq];decide)
   ·have sp:bV H1 (upd H1 p (.tup vs)):=bV.upd hp;exact q _ _ (s1.trans sp) (.tup aG (r1.same sp)) fun hf=>.tup aG ((n1 hf).same sp)
  ·exact bx h
theorem cT (h:PA X es (gA f r)):PE X (.List es pos) (gE (lE f) r):=PE.imp (aHe h) fun σ H Q ⟨ρ,d,E,h,q⟩=>by
  obtain ⟨xs,h1,h⟩:=bA h;split at h
  ·rename_i hl;cases h;refine ⟨ρ,xs,E,h1,fun vs H1 s1 r1 n1=>⟨?_,fun p hp=>?_⟩⟩
   ·rw [r1.length];exact Nat.le_trans (of_decide_eq_true hl) (by rw [sizeLine_eq];decide)
   ·have sp:bV H1 (upd H1 p (.lst vs)):=bV.upd hp;exact q _ _ (s1.trans sp) (.lst aG trivial (r1.same sp)) fun hf=>.lst aG (s1.free hp) ((n1 hf).same sp)
  ·exact bx h
theorem aB0:PE X (.Dict [] [] pos) (gE (bC (.dct [])) true):=PE.imp aAt fun σ H Q ⟨ρ,d,E,h,q⟩=>by
  cases h;exact fun p hp=>q _ _ (bV.upd hp) (.dK aG trivial .nil List.nodup_nil) fun _=>.dK aG hp .nil List.nodup_nil
end
section
variable {a b e:Expr}
theorem mX (h:decide (n<=lim)=true):n<=sizeLine:=Nat.le_trans (of_decide_eq_true h) (by rw [sizeLine_eq];decide)
theorem X8 (h:decide (n<lim)=true):n<sizeLine:=Nat.lt_of_lt_of_le (of_decide_eq_true h) (by rw [sizeLine_eq];decide)
theorem Rep.aI0 (r:Rep P H v (.lst ds)):∃a xs,v=.ref a/\Rd H a (.lst xs)/\bG P H xs ds:=by
 cases r with
 | lst e p rr=>exact ⟨_,_,rfl,.inl e,rr⟩
theorem PW.imp (h:PW X e t) (i:∀σ H Q,t' σ H Q->t σ H Q):PW X e t':=fun wh pins s σ H Q I q=>h wh pins s σ H Q I (i σ H Q q)
theorem N7 (ha:PT X a (gT ga)):PW X (.BoolOp .And [a] pos) (gT ga):=aDu ha
theorem oR (ha:PT X a (gT ga)):PW X (.BoolOp .Or [a] pos) (gT ga):=aGu ha
theorem X_ {rest:List Expr} (ha:PT X a (gT ga)) (hb:PW X (.BoolOp .And (b::rest) pos) (gT gb)):PW X (.BoolOp .And (a::b::rest) pos) (gT (aAb ga gb)):=PW.imp (aGv ha hb) fun σ H Q ⟨ρ,k,E,h,q⟩=>by
 obtain ⟨z,h1,h3⟩:=bA h;refine ⟨ρ,z,E,h1,fun H' s=>?_⟩;cases z with
 | true=>rw [if_pos rfl];rw [if_pos rfl] at h3;exact ⟨ρ,k,E.same s,h3,fun H2 s2=>q H2 (s.trans s2)⟩
 | false=>rw [if_neg (by simp)];rw [if_neg (by simp)] at h3;cases h3;exact q H' s
theorem wQ {rest:List Expr} (ha:PT X a (gT ga)) (hb:PW X (.BoolOp .Or (b::rest) pos) (gT gb)):PW X (.BoolOp .Or (a::b::rest) pos) (gT (bOr ga gb)):=PW.imp (aKi ha hb) fun σ H Q ⟨ρ,k,E,h,q⟩=>by
 obtain ⟨z,h1,h3⟩:=bA h;refine ⟨ρ,z,E,h1,fun H' s=>?_⟩;cases z with
 | true=>rw [if_pos rfl];rw [if_pos rfl] at h3;cases h3;exact q H' s
 | false=>rw [if_neg (by simp)];rw [if_neg (by simp)] at h3;exact ⟨ρ,k,E.same s,h3,fun H2 s2=>q H2 (s.trans s2)⟩
theorem bK:OpR X (binaryOp .Add) (r2 (aX .add) true):=by
 intro pins s σ H x y v u Q I rx ry h;obtain ⟨a,b,d,p,q,e,k⟩:=h;cases p with
 | int i=>
  cases q with
  | int j=>cases e;exact aH4 pins s σ H _ _ v u Q I rx ry ⟨i,j,rfl,rfl,k.int⟩
  | _=>exact bx e
 | str i=>
  cases q with
  | str j=>
   replace e:(if decide (i.length+j.length<=lim) then Res.ok (D.str (i++j)) else .bad)=.ok d:=e;split at e
   ·rename_i hl;cases e;exact T7 pins s σ H _ _ v u Q I rx ry ⟨i,j,rfl,rfl,mX hl,k.str⟩
   ·exact bx e
  | _=>exact bx e
 | non=>exact bx e
 | bl _=>exact bx e
 | tup _ _=>exact bx e
 | dK _ _ _ _=>exact bx e
 | dT _ _ _ _=>exact bx e
 | fdK _ _ _=>exact bx e
 | fdT _ _ _=>exact bx e
 | exc _ _ _=>exact bx e
 | ins _ _ _=>exact bx e
 | cel _ _ _=>exact bx e
 | @lst a1 xs ds e1 p1 r1=>
  have hR:Rep All H (.ref a1) (.lst ds):=.lst e1 p1 r1;cases b with
  | lst es=>
   replace e:(if decide (ds.length+es.length<=lim)&&D.aN ds&&D.aN es then Res.ok (D.lst (ds++es)) else .bad)=.ok d:=e;split at e
   ·rename_i hl;cases e;rw [Bool.and_eq_true,Bool.and_eq_true] at hl;obtain ⟨⟨hl,hp1⟩,hp2⟩:=hl;obtain ⟨l1,xs1,e1',rd1,rr1⟩:=hR.aI0;obtain ⟨l2,xs2,rfl,rd2,rr2⟩:=q.aI0;cases e1';cases rx;cases ry;obtain ⟨z,its,n,vr1,ee1⟩:=rd1.ok I.hok;obtain ⟨z2,its2,n2,vr2,ee2⟩:=rd2.ok I.hok;have hz:xs1.length+xs2.length<=sizeLine:=by rw [rr1.length,rr2.length];exact mX hl
    have t1:=vr1.length;have t2:=vr2.length;refine PySem.P.add_list ee1 ee2 ?_ (by rw [List.size_toArray,List.size_toArray];lia);have ea:its.toArray++its2.toArray=(its++its2).toArray:=by simp
    rw [ea];refine ⟨.ref _,_,I.aN2 (vr1.append vr2) (by rw [List.length_append];lia),rfl,?_⟩;have sp:bV H (upd H s.heap.objs.size (.lst (xs1++xs2))):=bV.upd I.fresh;exact k _ _ sp (.lst aG trivial ((rr1.append rr2).same sp)) fun _=>.lst aG I.fresh (((rr1.bM hp1).append (rr2.bM hp2)).same sp)
   ·exact bx e
  | _=>exact bx e
 | frz _ _=>exact bx e
theorem N8 (h:OpR X f (rI C g))
  (hi:∀i j d,op (.int i) (.int j)=.ok d->C i j/\∃k,d=.int k/\g i j=.int k) (hn:∀a b d,op a b=.ok d->(∃i,a=.int i)/\∃j,b=.int j):OpR X f (r2 op true):=by
 intro pins s σ H x y v u Q I rx ry ⟨a,b,d,p,q,e,k⟩;obtain ⟨⟨i,rfl⟩,⟨j,rfl⟩⟩:=hn a b d e;cases p.inv;cases q.inv;obtain ⟨hc,m,rfl,hm⟩:=hi i j d e;exact h pins s σ H _ _ v u Q I rx ry ⟨i,j,rfl,rfl,hc,by rw [hm];exact k.int⟩
theorem wX (ho:o≠.add) {a b d:D} (e:aX o a b=.ok d):(∃i,a=.int i)/\∃j,b=.int j:=by
 cases a with
 | int i=>
  cases b with
  | int j=>exact ⟨⟨i,rfl⟩,j,rfl⟩
  | _=>cases o <;> first|exact bx e|exact absurd rfl ho
 | _=>cases o <;> first|exact bx e|exact absurd rfl ho
theorem aI1:OpR X (binaryOp .Sub) (r2 (aX .sub) true):=by
 intro pins s σ H x y v u Q I rx ry ⟨a,b,d,p,q,e,k⟩;obtain ⟨⟨i,rfl⟩,j,rfl⟩:=wX (by decide) e;cases p.inv;cases q.inv;cases e;exact aH5 pins s σ H _ _ v u Q I rx ry ⟨_,_,rfl,rfl,k.int⟩
theorem aI2:OpR X (binaryOp .Mult) (r2 (aX .mul) true):=by
 refine N8 aH6 (fun i j d e=>?_) fun a b d e=>wX (by decide) e
 ·replace e:(if iJ i||iJ j then Res.ok (D.int (i*j)) else .bad)=.ok d:=e;split at e
  ·rename_i hl;cases e;refine ⟨?_,_,rfl,rfl⟩;simp only [iJ,Bool.or_eq_true,Bool.and_eq_true,decide_eq_true_eq] at hl;exact hl
  ·exact bx e
theorem dI:OpR X (binaryOp .FloorDiv) (r2 (aX .fdiv) true):=by
 refine N8 aDw (fun i j d e=>?_) fun a b d e=>wX (by decide) e
 ·replace e:(if decide (0<j)&&decide (j<1073741824) then Res.ok (D.int (i / j)) else .bad)=.ok d:=e;split at e
  ·rename_i hl;cases e;refine ⟨?_,_,rfl,rfl⟩;simp only [Bool.and_eq_true,decide_eq_true_eq] at hl;exact hl
  ·exact bx e
theorem cZ:OpR X (binaryOp .Mod) (r2 (aX .mod) true):=by
 refine N8 aH7 (fun i j d e=>?_) fun a b d e=>wX (by decide) e
 ·replace e:(if decide (0<j) then Res.ok (D.int (i % j)) else .bad)=.ok d:=e;split at e
  ·rename_i hl;cases e;refine ⟨?_,_,rfl,rfl⟩;simp only [Bool.and_eq_true,decide_eq_true_eq] at hl;exact hl
  ·exact bx e
theorem aCz:UnR X (unaryOp .USub) (r1 aGn true):=by
 intro pins s σ H x v Q I rx ⟨a,d,p,e,k⟩;cases a <;> try exact bx e
 cases e;cases p.inv;exact aH8 pins s σ H _ v Q I rx ⟨_,rfl,k.int⟩
theorem iW (hu:X.A.units+20<cLine):OpR X (compareOp .Eq) (r2 (cV .eq) true):=by
 intro pins s σ H x y v u Q I rx ry ⟨a,b,d,p,q,e,k⟩;replace e:(if a.i_ bW&&b.i_ bW then Res.ok (D.bl (eqD a b)) else .bad)=.ok d:=e;split at e
 ·rename_i hl;cases e;rw [Bool.and_eq_true] at hl;exact (X7 I bW X.A (by have:bW=12:=rfl;lia) hl.1 hl.2 p q rx ry).1 X.prog X.w X.xe _ ⟨.bl _,H,I,rfl,k.bl⟩
 ·exact bx e
theorem aB1 (hu:X.A.units+20<cLine):OpR X (compareOp .NotEq) (r2 (cV .ne) true):=by
 intro pins s σ H x y v u Q I rx ry ⟨a,b,d,p,q,e,k⟩;replace e:(if a.i_ bW&&b.i_ bW then Res.ok (D.bl (!eqD a b)) else .bad)=.ok d:=e;split at e
 ·rename_i hl;cases e;rw [Bool.and_eq_true] at hl;exact (X7 I bW X.A (by have:bW=12:=rfl;lia) hl.1 hl.2 p q rx ry).2.1 X.prog X.w X.xe _ ⟨.bl _,H,I,rfl,k.bl⟩
 ·exact bx e
theorem aD0 (o:zN) (hu:X.A.units+20<cLine):OpR X (compareOp o.op) (r2 (cV (.ord o)) true):=by
 intro pins s σ H x y v u Q I rx ry ⟨a,b,d,p,q,e,k⟩;replace e:(if a.i_ bW&&b.i_ bW then (match aA9 o a b with|some k=>Res.ok (D.bl k)|none=>.bad) else .bad)=.ok d:=e;split at e
 ·rename_i hl;rw [Bool.and_eq_true] at hl;split at e
  ·rename_i m hm;cases e;have:=aEp I o bW X.A (by have:bW=12:=rfl;lia) hl.1 hl.2 p q rx ry hm X.prog X.w X.xe _ (show EP X pins σ Q (.bool m) s from ⟨.bl _,H,I,rfl,k.bl⟩);cases o <;> exact this
  ·exact bx e
 ·exact bx e
theorem aI3 (hu:X.A.units+20<cLine):OpR X (compareOp .Lt) (r2 (cV (.ord .lt)) true):=aD0 .lt hu
theorem aL0 (hu:X.A.units+20<cLine):OpR X (compareOp .Gt) (r2 (cV (.ord .gt)) true):=aD0 .gt hu
theorem aI4:OpR X (compareOp .Is) (r2 (cV .isN) true):=by
 intro pins s σ H x y v u Q I rx ry ⟨a,b,d,p,q,e,k⟩;have hb:b=.non:=by
  cases b with
  | non=>rfl
  | _=>cases a <;> exact bx e
 subst hb;cases q.inv;refine aH9 pins s σ H x .non v u Q I rx ry ⟨rfl,?_⟩;cases p <;> cases e <;> exact k.bl
theorem aEq:OpR X (compareOp .IsNot) (r2 (cV .notN) true):=by
 intro pins s σ H x y v u Q I rx ry ⟨a,b,d,p,q,e,k⟩;have hb:b=.non:=by
  cases b with
  | non=>rfl
  | _=>cases a <;> exact bx e
 subst hb;cases q.inv;refine aDx pins s σ H x .non v u Q I rx ry ⟨rfl,?_⟩;cases p <;> cases e <;> exact k.bl
end
end
variable [KFrag]
theorem YB (k q:Key):eqD (kD k) (kD q)=decide (k=q):=by
 cases k <;> cases q <;> simp [kD,eqD,Bool.beq_eq_decide_eq]
theorem aD1:∀(k q:List Key),MF (k.map kD) (q.map kD)=decide (k=q)
 | [],[]=>by simp [MF]
 | [],_::_=>by simp [MF]
 | _::_,[]=>by simp [MF]
 | a::k,b::q=>by
  rw [List.map_cons,List.map_cons,MF,YB,aD1 k q];by_cases h:a=b <;> by_cases h':k=q <;> simp [h,h']
theorem aEr (k q:List Key):eqD (.tup (k.map kD)) (.tup (q.map kD))=decide (k=q):=by rw [eqD,aD1]
theorem aB2:∀{kvs:List (Key×V)} {ds:List (D×D)},gQ P H kvs ds->(∃v d,zQ kvs k=some v/\fC ds (kD k)=some d/\Rep P H v d)\/(zQ kvs k=none/\fC ds (kD k)=none)
 | _,_,.nil=>.inr ⟨rfl,rfl⟩
 | _,_,.cons (k:=k') r t=>by
  by_cases h:k'=k
  ·subst h;exact .inl ⟨_,_,oM rfl,by rw [fC,YB,if_pos (by simp)],r⟩
  ·rw [fC,YB,if_neg (by simpa using h),oN h];exact aB2 t
theorem aEs:∀{kvs:List (List Key×V)} {ds:List (D×D)},m9 P H kvs ds->(∃v d,zQ kvs k=some v/\fC ds (.tup (k.map kD))=some d/\Rep P H v d)\/(zQ kvs k=none/\fC ds (.tup (k.map kD))=none)
 | _,_,.nil=>.inr ⟨rfl,rfl⟩
 | _,_,.cons (k:=k') r t=>by
  by_cases h:k'=k
  ·subst h;exact .inl ⟨_,_,oM rfl,by rw [fC,aEr,if_pos (by simp)],r⟩
  ·rw [fC,aEr,if_neg (by simpa using h),oN h];exact aEs t
theorem wY (h:gR d=true) (r:Rep All H v d):∃k,v=kV k/\d=kD k:=by
 cases r <;> simp [gR] at h
 ·exact ⟨.inl _,rfl,rfl⟩
 ·exact ⟨.inr _,rfl,rfl⟩
theorem flat_keys:∀{vs:List V} {ds:List D},ds.all gR=true->bG All H vs ds->∃ks:List Key,vs=ks.map kV/\ds=ks.map kD
 | _,_,_,.nil=>⟨[],rfl,rfl⟩
 | _,_,h,.cons r t=>by
  rw [List.all_cons,Bool.and_eq_true] at h;obtain ⟨k,rfl,rfl⟩:=wY h.1 r;obtain ⟨ks,rfl,rfl⟩:=flat_keys h.2 t;exact ⟨k::ks,rfl,rfl⟩
theorem jW (h:keyOk k=true) (r:Rep All H y k):(∃q,y=kV q/\k=kD q)\/∃(b:Addr) (ks:List Key),y=.ref b/\H b=some (.tup (ks.map kV))/\k=.tup (ks.map kD):=by
 cases k <;> simp [keyOk] at h
 ·exact .inl (wY rfl r)
 ·exact .inl (wY rfl r)
 ·obtain ⟨a,xs,rfl,e,rr⟩:=r.iM;obtain ⟨ks,rfl,rfl⟩:=flat_keys (List.all_eq_true.mpr h) rr;exact .inr ⟨a,ks,rfl,e,rfl⟩
theorem mY (k:Key):isTup (kD k)=false:=by cases k <;> rfl
section
variable {a:Addr}
theorem DX (e:H a=some o):upd (upd H a o') a o=H:=by
 rw [M5]
 funext b
 by_cases h:b=a
 ·subst h;rw [aG,e]
 ·rw [aR h]
theorem mZ (I:Inv X pins σ H s) (e:H a=some (.dK [])):Inv X pins σ (upd H a (.dT [])) s:=by
 obtain ⟨z,hd,vs,rel,o,es,ep,h1,h2,h3,h4,h5,h6⟩:=U0 I.hok e;cases rel;refine I.write (by rw [e];trivial) (.inl rfl) (fun _ _ _ q=>q) ⟨o,h1⟩ ?_;refine ⟨Nat.zero_le _,hd,[],.nil,o,es,ep,h1,h2,h3,?_,List.nodup_nil⟩;cases h5':es.toList with
 | nil=>rfl
 | cons _ _=>rw [h5'] at h5;cases h5
theorem jX (I:Inv X pins σ H s) (e:H a=some (.dT [])):Inv X pins σ (upd H a (.dK [])) s:=by
 obtain ⟨z,hd,vs,rel,o,es,ep,h1,h2,h3,h4,h5,h6⟩:=aEe I.hok e;cases rel;refine I.write (by rw [e];trivial) (.inl rfl) (fun _ _ _ q=>q) ⟨o,h1⟩ ?_;have h0:es.toList=[]:=h4;refine ⟨Nat.zero_le _,hd,[],.nil,o,es,ep,h1,h2,h3,?_,?_,List.nodup_nil⟩
 ·intro x hx;have:x∈es.toList:=by simpa using hx
  rw [h0] at this;cases this
 ·rw [h0];exact .nil
theorem RB:∀{kvs:List (Key×V)} {ds:List (D×D)},gQ P H kvs ds->∀p∈ds,isTup p.1=false
 | _,_,.nil,_,h=>by cases h
 | _,_,.cons r t,p,h=>by
  rcases List.mem_cons.mp h with rfl|h
  ·exact mY _
  ·exact RB t p h
theorem RC:∀{kvs:List (List Key×V)} {ds:List (D×D)},m9 P H kvs ds->∀p∈ds,isTup p.1=true
 | _,_,.nil,_,h=>by cases h
 | _,_,.cons r t,p,h=>by
  rcases List.mem_cons.mp h with rfl|h
  ·rfl
  ·exact RC t p h
theorem aL1 (I:Inv X pins σ H s) (rd:Rep All H x (.dct ds)) (rk:Rep All H y k) (hk:V6 ds k=true) :
  ∃H1 a o,x=.ref a/\Inv X pins σ H1 s/\(∀s',Inv X pins σ H1 s'->Inv X pins σ H s')/\aA8 H1 a y o/\((o=none/\fC ds k=none)\/∃v d,o=some v/\fC ds k=some d/\Rep All H v d):=by
 unfold V6 at hk;rw [Bool.and_eq_true] at hk;obtain ⟨h1,h2⟩:=hk;cases rd with
 | @dK a kvs ds e _ r n=>
  rcases jW h1 rk with ⟨q,rfl,rfl⟩|⟨b,ks,rfl,eb,rfl⟩
  ·refine ⟨H,a,_,rfl,I,fun _ h=>h,.k e,?_⟩;rcases aB2 r with ⟨v,d,g1,g2,g3⟩|⟨g1,g2⟩
   ·exact .inr ⟨v,d,g1,g2,g3⟩
   ·exact .inl ⟨g1,g2⟩
  ·cases r with
   | nil=>
    have e2:=DX (o':=.dT []) e;refine ⟨upd H a (.dT []),a,none,rfl,mZ I e,fun s' I'=>?_,.t (k:=ks) aG (by rw [aR (M6 eb e (by intro z;cases z))];exact eb),.inl ⟨rfl,rfl⟩⟩;have:=jX I' aG;rwa [e2] at this
   | cons r t=>
    rw [List.all_cons,mY] at h2;simp [isTup] at h2
 | @dT a kvs ds e _ r n=>
  rcases jW h1 rk with ⟨q,rfl,rfl⟩|⟨b,ks,rfl,eb,rfl⟩
  ·cases r with
   | nil=>
    have e2:=DX (o':=.dK []) e;refine ⟨upd H a (.dK []),a,none,rfl,jX I e,fun s' I'=>?_,.k (k:=q) aG,.inl ⟨rfl,rfl⟩⟩;have:=mZ I' aG;rwa [e2] at this
   | cons r t=>
    rw [List.all_cons,mY] at h2;simp [isTup] at h2
  ·refine ⟨H,a,_,rfl,I,fun _ h=>h,.t e eb,?_⟩;rcases aEs (k:=ks) r with ⟨v,d,g1,g2,g3⟩|⟨g1,g2⟩
   ·exact .inr ⟨v,d,g1,g2,g3⟩
   ·exact .inl ⟨g1,g2⟩
theorem aB3 (rd:Rep All H x (.dct ds)) (hk:keyOk k=true) (h:fC ds k=some d):V6 ds k=true:=by
 have one:∀{ds:List (D×D)},fC ds k=some d->∃p∈ds,eqD p.1 k=true:=by
  intro ds;induction ds with
  | nil=>intro h;cases h
  | cons p ds ih=>
   intro h;obtain ⟨p1,p2⟩:=p;rw [fC] at h;by_cases hq:eqD p1 k=true
   ·exact ⟨_,List.mem_cons_self ..,hq⟩
   ·rw [if_neg hq] at h;obtain ⟨p,hp,e⟩:=ih h;exact ⟨p,List.mem_cons_of_mem _ hp,e⟩
 obtain ⟨p,hp,he⟩:=one h;unfold V6;rw [hk,Bool.true_and,List.all_eq_true];intro q hq;have same:isTup p.1=isTup k:=by
  obtain ⟨p1,p2⟩:=p;cases p1 <;> cases k <;> simp [eqD,keyOk,isTup] at he hk ⊢
 cases rd with
 | dK e _ r n=>rw [RB r q hq,<-same,RB r p hp];rfl
 | dT e _ r n=>rw [RC r q hq,<-same,RC r p hp];rfl
end
section
variable {X:Cx} {a b c e:Expr} {pos:Pos} {fa fb:FE} {ra rb:Bool}
theorem aI5 (xs:List α) (i:Int):L2.atI xs i=(ixD xs.length i).bind fun j=>xs[j]?:=rfl
theorem bG.atI (r:bG P H xs ds) (h:((ixD ds.length i).bind fun j=>ds[j]?)=some d):∃v,L2.atI xs i=some v/\Rep P H v d:=by
 rw [aI5,r.length];cases hi:ixD ds.length i with
 | none=>rw [hi] at h;cases h
 | some j=>
  rw [hi] at h;obtain ⟨v,h1,h2⟩:=r.get h;exact ⟨v,h1,h2⟩
theorem JH {a:Addr} {y v':V} {u:Value} {Q:VK} (hu:X.A.units+20<cLine) (I:Inv X pins σ H s) (g:aA8 H a y (some v')) (ry:RelV y u) {H':Hp}
  (hs:subscripted slice false (.ref a) u=operate [.ref a,u] (getItem (.ref a) u)) (bk:∀s',Inv X pins σ H s'->Inv X pins σ H' s') (q:Q v' H') :
  wpAny (model X.prog X.w) X.A (subscriptTail value slice (.ref a) u) (EP X pins σ Q) X.xe s:=by
 have hT:=NK I g;unfold subscriptTail;refine wpAny_bind ?_;rw [getitemInPython_of_ne hT.not_modules];refine wpAny_bind (wpAny_specialOf hT PySem.F.slot_dict_getitem.lookup ?_);have fin:wpAny (model X.prog X.w) X.A (subscripted slice false (.ref a) u) (fun r s₃=>wpAny (model X.prog X.w) X.A (letTemporaryGo value (.ref a) r >>= fun _=>pure r) (EP X pins σ Q) X.xe s₃) X.xe s:=by
  rw [hs];exact wpAny_operating (W9 (by lia) I g ry fun w' s3 I3 rw'=>wpAny_bind (wpAny_letTemporaryGo (wpAny_pure ⟨v',H',bk s3 I3,rw',q⟩)))
 first
  | exact wpAny_pure (wpAny_bind fin)
  | exact wpAny_bind (wpAny_pure (wpAny_bind fin))
  | exact wpAny_bind fin
theorem RD:∀{ds:List (D×D)},keyOk k=true->fC ds k=some d->∃p∈ds,isTup p.1=isTup k
 | [],_,h=>by cases h
 | (p1,p2)::ds,hk,h=>by
  rw [fC] at h;by_cases hq:eqD p1 k=true
  ·refine ⟨_,List.mem_cons_self ..,?_⟩;cases p1 <;> cases k <;> simp [eqD,keyOk,isTup] at hq hk ⊢
  ·rw [if_neg hq] at h;obtain ⟨p,hp,e⟩:=RD hk h;exact ⟨p,List.mem_cons_of_mem _ hp,e⟩
theorem aL2 (rd:Rep All H x (.fdc ds)) (rk:Rep All H y k) (hk:keyOk k=true) (h:fC ds k=some d):∃a v,x=.ref a/\aA8 H a y (some v)/\Rep All H v d:=by
 obtain ⟨p,hp,et⟩:=RD hk h;cases rd with
 | @fdK a o kvs ds e r n=>
  rcases jW hk rk with ⟨q,rfl,rfl⟩|⟨b,ks,rfl,eb,rfl⟩
  ·rcases aB2 r with ⟨v,d',g1,g2,g3⟩|⟨g1,g2⟩
   ·rw [g2] at h;cases h;exact ⟨a,v,rfl,.inl ⟨kvs,q,.inr ⟨o,e⟩,rfl,g1.symm⟩,g3⟩
   ·rw [g2] at h;cases h
  ·rw [RB r p hp] at et;cases et
 | @fdT a o kvs ds e r n=>
  rcases jW hk rk with ⟨q,rfl,rfl⟩|⟨b,ks,rfl,eb,rfl⟩
  ·rw [RC r p hp,mY] at et;cases et
  ·rcases aEs r with ⟨v,d',g1,g2,g3⟩|⟨g1,g2⟩
   ·rw [g2] at h;cases h;exact ⟨a,v,rfl,.inr ⟨kvs,ks,b,.inr ⟨o,e⟩,rfl,eb,g1.symm⟩,g3⟩
   ·rw [g2] at h;cases h
theorem aL3 (hK:KFrag.K=X.K) (hu:X.A.units+20<cLine):IxR X (r2 getD false):=by
 intro value slice pins s σ H x y v u Q I rx ry ⟨a,b,d,p,q,e,k⟩ hs;cases a with
 | tup ys=>
  cases b <;> try exact bx e
  have e':=Res.kI e;obtain ⟨l,xs,rfl,ee,rr⟩:=p.iM;cases q;obtain ⟨w,h1,h2⟩:=rr.atI e';exact aHk value slice pins s σ H _ _ v u Q I rx ry ⟨l,xs,_,w,rfl,rfl,.of ee,h1,k.self h2 fun z=>by cases z⟩ hs
 | lst ys=>
  cases b <;> try exact bx e
  have e':=Res.kI e;obtain ⟨l,xs,rfl,ee,rr⟩:=p.nY;cases q;obtain ⟨w,h1,h2⟩:=rr.atI e';exact NB value slice pins s σ H _ _ v u Q I rx ry ⟨l,xs,_,w,rfl,rfl,ee,h1,k.self h2 fun z=>by cases z⟩ hs
 | cel ca ys=>
  cases b <;> try exact bx e
  have e':=Res.kI e;obtain ⟨_,rfl,ee,pp,rr⟩:=p.inv;cases q;obtain ⟨w,h1,h2⟩:=rr.atI e';exact NB value slice pins s σ H _ _ v u Q I rx ry ⟨_,_,_,w,rfl,rfl,.inl (.inl ee),h1,k.self h2 fun z=>by cases z⟩ hs
 | scr ys=>
  cases b <;> try exact bx e
  have e':=Res.kI e;obtain ⟨_,_,rfl,ee,rr⟩:=p.inv;cases q;obtain ⟨w,h1,h2⟩:=rr.atI e';exact NB value slice pins s σ H _ _ v u Q I rx ry ⟨_,_,_,w,rfl,rfl,ee.sq hK,h1,k.self h2 fun z=>by cases z⟩ hs
 | str z=>
  cases b <;> try exact bx e
  rename_i i;replace e:(if decide (z.length<=lim) then Res.ofOpt (((ixD z.cps.toList.length i).bind fun j=>z.cps.toList[j]?).map fun c=>D.str ⟨#[c]⟩) else .bad)=.ok d:=e;split at e
  ·rename_i hl;have e':=Res.kI e;obtain ⟨cc,h1,h2⟩:=Option.map_eq_some_iff.mp e';subst h2;cases p;cases q;exact aHl value slice pins s σ H _ _ v u Q I rx ry ⟨z,_,cc,rfl,rfl,mX hl,h1,k.str⟩ hs
  ·cases e
 | dct kvs=>
  have e':keyOk b=true/\fC kvs b=some d:=by
   replace e:(if keyOk b then Res.ofOpt (fC kvs b) else .bad)=.ok d:=by cases b <;> exact e
   split at e
   ·rename_i hl;exact ⟨hl,Res.kI e⟩
   ·exact bx e
  obtain ⟨H1,a1,o,rfl,I1,bk,g,hc⟩:=aL1 I p q (aB3 p e'.1 e'.2);cases rx;rcases hc with ⟨rfl,h2⟩|⟨w,dd,rfl,h2,h3⟩
  ·rw [h2] at e';cases e'.2
  ·rw [h2] at e';cases e'.2;exact JH hu I1 g ry hs bk (k.self h3 fun z=>by cases z)
 | fdc kvs=>
  have e':keyOk b=true/\fC kvs b=some d:=by
   replace e:(if keyOk b then Res.ofOpt (fC kvs b) else .bad)=.ok d:=by cases b <;> exact e
   split at e
   ·rename_i hl;exact ⟨hl,Res.kI e⟩
   ·exact bx e
  obtain ⟨a1,w,rfl,g,h3⟩:=aL2 p q e'.1 e'.2;cases rx;exact JH hu I g ry hs (fun _ h=>h) (k.self h3 fun z=>by cases z)
 | _=>cases b <;> exact bx e
theorem bQ {X:Cx} {a b:Expr} {pos:Pos} {fa fb:FE} {ra rb:Bool} (ha:PE X a (gE fa ra)) (hb:PE X b (gE fb rb)) (hK:KFrag.K=X.K:=by assumption) (hu:X.A.units+20<cLine:=by assumption) (hs:M_ b:=by exact fun _ _=>rfl):PE X (.Subscript a b pos) (gE (b2 getD fa fb) false):=aKz (aL3 hK hu) ha hb hs
noncomputable def gO (f:List D->Res (Option Int)):TO:=fun σ H Q=>∃ρ i,ER H σ ρ/\f ρ=.ok i/\∀H',bV H H'->Q i H'
theorem PO.imp {X:Cx} {e:Option PySem.Expr} {t t':TO} (h:PO X e t) (i:∀σ H Q,t' σ H Q->t σ H Q):PO X e t':=fun pins s σ H Q I q=>h pins s σ H Q I (i σ H Q q)
theorem nZ:PO X none (gO kJ):=PO.imp aEa fun σ H Q ⟨ρ,i,E,h,q⟩=>by cases h;exact q H (bV.refl H)
theorem eN (ha:PE X a (gE fa ra)):PO X (some a) (gO (dC fa)):=PO.imp (aEb ha) fun σ H Q ⟨ρ,i,E,h,q⟩=>by
 obtain ⟨x,h1,h⟩:=bA h;obtain ⟨j,h2,h⟩:=bA h;cases h;have e:=aHy h2;subst e;exact ⟨ρ,_,E,h1,fun v H' s r _=>by cases r;exact ⟨j,rfl,q H' s⟩⟩
theorem aD2 (n d:Nat) (o:Option Int):HT.sIx n d o=aAa n d o:=by
 cases o with
 | none=>rfl
 | some v=>
  show (if v<0 then (v+(n:Int)).toNat else min v.toNat n)=(if v<0 then (max (v+(n:Int)) 0).toNat else (min v (n:Int)).toNat);split <;> lia
theorem bG.cut (r:bG P H xs ds) (lo hi:Option Int):bG P H (W6 xs lo hi) (cutD ds lo hi):=by
 unfold W6 cutD;rw [r.length];simp only [aD2];exact (r.drop _).take _
theorem lX:D.aN ds=true↔∀d∈ds,d.pure=true:=by
 induction ds with
 | nil=>simp [D.aN]
 | cons d ds ih=>rw [D.aN,Bool.and_eq_true,ih];simp
def rSl:V->Option Int->Option Int->Hp->VK->Prop:=fun x lo hi H Q=>∃a d,Rep All H x a/\aK8 a lo hi=.ok d/\kR H d true Q
theorem aL4 (hK:KFrag.K=X.K):SlR X rSl:=by
 intro pins s σ H x v vl vu lo hi sl Q I rx hs pl pu ⟨a,d,p,e,k⟩;cases a <;> simp only [aK8] at e <;> (try (cases e;done))
 ·split at e
  ·cases e
  ·rename_i hw;cases e;obtain ⟨l,xs,rfl,ee,rr⟩:=p.iM;refine aHj pins s σ H _ v vl vu lo hi sl Q I rx hs pl pu ⟨l,xs,rfl,.of ee,?_,fun p hp=>?_⟩
   ·simp only [aD2,rr.length];simp only [Bool.not_eq_true',Bool.or_eq_true,not_or,Bool.not_eq_false',decide_eq_true_eq] at hw;exact hw.2
   ·have sp:bV H (upd H p (.tup (W6 xs lo hi))):=bV.upd hp;have hp2:D.aN ‹List D›=true:=by
     simp only [Bool.or_eq_true,not_or,Bool.not_eq_true'] at hw;simpa using hw.1
    exact k _ _ sp (.tup aG ((rr.cut lo hi).same sp)) fun z=>.tup aG (((rr.bM hp2).cut lo hi).same sp)
 ·split at e
  ·rename_i hl;cases e;obtain ⟨l,xs,rfl,ee,rr⟩:=p.nY;refine W8 pins s σ H _ v vl vu lo hi sl Q I rx hs pl pu ⟨l,xs,rfl,ee,fun p hp=>?_⟩;have sp:bV H (upd H p (.lst (W6 xs lo hi))):=bV.upd hp;exact k _ _ sp (.lst aG trivial ((rr.cut lo hi).same sp)) fun z=>.lst aG hp (((rr.bM hl).cut lo hi).same sp)
  ·cases e
 ·split at e
  ·rename_i hl;cases e;cases p with
   | @frz l xs ds ee rr=>
    refine W8 pins s σ H _ v vl vu lo hi sl Q I rx hs pl pu ⟨l,xs,rfl,ee.sq hK,fun p hp=>?_⟩;have sp:bV H (upd H p (.lst (W6 xs lo hi))):=bV.upd hp;exact k _ _ sp (.lst aG trivial ((rr.cut lo hi).same sp)) fun z=>.lst aG hp (((rr.bM hl).cut lo hi).same sp)
  ·cases e
end
end Mi
namespace PySem.Mm
open PySem PyProof.Rows PySem.W
theorem wC {prog:Program} {w:World} {A:Around} {E:Value->Shared->Prop} {s:Shared} {Q:Value->Shared->Prop} {K:Type} [DecidableEq K] {knd:KeyKind prog w K} {d:Addr} {kvs:List (K×Value)} {ep n:Nat} (hh:A.handled=none) (lo:(d==sysModules)=false)
  (hm:s.heap.DictAt knd d kvs ep) (hn:kvs.length=n) (hl:n<=2 ^ 24)
  (q:∀h' tk acc c,(∀b o,s.heap.get? b=some o->h'.get? b=some o)->h'.get? s.heap.objs.size=some {cls:=.type "list",dict:=none,data:=.seq acc c,slots:=#[]}->
   ItemsOf (fun i v=>∃k x,kvs[i]?=some (k,x)/\knd.is k v=true) acc n->Q (.ref s.heap.objs.size) {s with heap:=h',toks:=tk}):wpAny (model prog w) A (call (.type "list") [.ref d]) Q E s:=by
 subst hn;exact kdl_call (kdl_dict lo) hh hm (kdl_size hl) q
end PySem.Mm
namespace Mi
open PySem L2 PySem.SeqAt PySem.Spec PyProof.Rows
section
variable [KFrag]
section
variable {a b e:Expr} {x:Str} {id T:String}
theorem lY (r:bG P H xs [d]) (vr:Vals xs us):∃v u,xs=[v]/\us=[u]/\Rep P H v d/\RelV v u:=by
 cases r with
 | cons r t=>
  cases t;cases vr with
  | cons v vt=>
   cases vt;exact ⟨_,_,rfl,rfl,r,v⟩
theorem RG {fr:Bool} (h:gE (aY f fs) fr σ H Q):tCB (rs f fr) (gA fs rr) σ H Q:=by
 obtain ⟨ρ,d,E,h,q⟩:=h;obtain ⟨ds,h1,h2⟩:=bA h;exact ⟨ρ,ds,E,h1,fun vs H1 s1 r1 _=>⟨ds,d,r1,h2,q.imp s1 id⟩⟩
theorem cC {fr:Bool} (hc:nR X (.builtin id) (rs f fr)) (hg:Gl X x) (hm:X.mg x=none) (hv:bootBuiltins x=some (.builtin id)) (ha:PA X (e::es) (gA fs rr)) (hn:x ≠ "__name__":=by decide) (hdb:nDb x:=by decide)
  (he:starEach (e::es) X.env=(false,eval e X.env)::starEach es X.env:=by rfl) (hpl:(backTo pos (starEach es X.env)).any (·.1)=false:=by rfl):PE X (.Call (.Name x p) (e::es) [] pos) (gE (aY f fs) fr):=
 PE.imp (wW hc hg hm hv ha hn hdb he hpl) fun _ _ _=>RG
theorem dZ {fr:Bool} (hc:nR X (.type T) (rs f fr)) (hg:Gl X x) (hm:X.mg x=none) (hv:bootBuiltins x=some (.type T)) (ha:PA X (e::es) (gA fs rr)) (hn:x ≠ "__name__":=by decide) (hdb:nDb x:=by decide)
  (he:starEach (e::es) X.env=(false,eval e X.env)::starEach es X.env:=by rfl) (hpl:(backTo pos (starEach es X.env)).any (·.1)=false:=by rfl):PE X (.Call (.Name x p) (e::es) [] pos) (gE (aY f fs) fr):=
 PE.imp (W4 hc hg hm hv ha hn hdb he hpl) fun _ _ _=>RG
theorem fJ (hK:KFrag.K=X.K):nR X (.builtin "len") (rs iK true):=by
 intro pins s σ H xs us Q I vr ⟨ds,d,r,e,k⟩;unfold iK at e;split at e
 ·cases e;obtain ⟨vv,uu,rfl,rfl,r,v⟩:=lY r vr;obtain ⟨l,ys,rfl,hl,rr⟩:=r.iM;cases v;exact iZ pins s σ H [.ref l] [.ref l] Q I (.cons rfl .nil) ⟨l,ys,rfl,.inr (.of hl),by rw [rr.length];exact k.int⟩
 ·cases e;obtain ⟨vv,uu,rfl,rfl,r,v⟩:=lY r vr;obtain ⟨l,ys,rfl,hl,rr⟩:=r.nY;cases v;exact iZ pins s σ H [.ref l] [.ref l] Q I (.cons rfl .nil) ⟨l,ys,rfl,.inl hl,by rw [rr.length];exact k.int⟩
 ·cases e;obtain ⟨vv,uu,rfl,rfl,r,v⟩:=lY r vr;cases r with
  | @frz l xs ds ee rr=>
   cases v;exact iZ pins s σ H [.ref l] [.ref l] Q I (.cons rfl .nil) ⟨l,xs,rfl,.inl (ee.sq hK),by rw [rr.length];exact k.int⟩
 ·cases e;obtain ⟨vv,uu,rfl,rfl,r,v⟩:=lY r vr;obtain ⟨_,rfl,ee,pp,rr⟩:=r.inv;cases v;exact iZ pins s σ H [.ref _] [.ref _] Q I (.cons rfl .nil) ⟨_,_,rfl,.inl (.inl (.inl ee)),by rw [rr.length];exact k.int⟩
 ·split at e
  ·rename_i hl;cases e;obtain ⟨vv,uu,rfl,rfl,r,v⟩:=lY r vr;cases r.inv;exact JB pins s σ H _ _ Q I (.cons v .nil) ⟨_,rfl,mX hl,k.int⟩
  ·exact bx e
 ·exact bx e
theorem gQ.keys:∀{kvs:List (Key×V)} {ds:List (D×D)},gQ P H kvs ds->bG P' H (kvs.map fun p=>kV p.1) (jH ds)
 | _,_,.nil=>.nil
 | _,_,.cons (k:=k) _ t=>.cons (by cases k <;> first|exact .int _|exact .str _) t.keys
theorem list_dict (hc:X.calm=true) (I:Inv X pins σ H s) (e:H l=some (.dK kvs))
  (q:∀p s',H p=none->Inv X pins σ (upd H p (.lst (kvs.map fun p=>kV p.1))) s'->(∀l0 o0,H l0=some o0->l0≠p)->Q (.ref p) s'):wpAny (model X.prog X.w) X.A (call (.type "list") [.ref l]) Q X.xe s:=by
 obtain ⟨z,hd,vs,rel,dd⟩:=U0 I.hok e;obtain ⟨ep,da⟩:=dd.dictAt;have hlen:kvs.length=vs.length:=Paired.length rel;refine Mm.wC (I.ok.hd hc) hd da rfl (by rw [<-hlen];rw [sizeLine_eq] at z;lia) fun h' tk acc' c' kp e1 it=>?_
 obtain ⟨i1,i2⟩:=it;have hfr:H s.heap.objs.size=none:=I.hok.fresh (Nat.le_refl _);refine q _ _ hfr (I.laid kp (Nat.le_refl _) ?_) fun l0 o0 h0=>bI h0 hfr
 refine ⟨by rw [List.length_map];exact z,acc'.toList,c',?_,by simpa using e1⟩;have gen:∀(kvs:List (Key×V)) (vs:List (Key×Value)) (xs:List Value),KV kvs vs->xs.length=vs.length->(∀(j:Nat) (v:Value),xs[j]?=some v->∃k x,vs[j]?=some (k,x)/\(bT X.prog X.w).is k v=true)->Vals (kvs.map fun p=>kV p.1) xs:=by
  intro kvs vs xs rel;induction rel generalizing xs with
  | nil=>intro hl _;cases xs with|nil=>exact .nil|cons _ _=>simp at hl
  | @cons p q ps qs hpq t ih=>
   intro hl g;cases xs with
   | nil=>simp at hl
   | cons x xs=>
    refine .cons ?_ (ih xs (by simpa using hl) fun j v hv=>g (j+1) v (by simpa using hv));obtain ⟨k,x',h1,h2⟩:=g 0 x rfl;have h1':q=(k,x'):=by simpa using h1
    show RelV (kV p.1) x;rw [hpq.1,h1'];rcases cJ h2 with ⟨i,t,rfl,rfl⟩|⟨i,t,rfl,rfl⟩
    ·exact ⟨t,rfl⟩
    ·exact ⟨t,rfl⟩
 exact gen kvs vs acc'.toList rel (by simpa using i1) fun j v hv=>i2 j v (by simpa using hv)
theorem YC (hc:X.calm=true):nR X (.type "list") (rs XS true):=by
 intro pins s σ H xs us Q I vr ⟨ds,d,r,e,k⟩;unfold XS at e;split at e
 ·split at e
  ·rename_i hl;cases e;obtain ⟨vv,uu,rfl,rfl,r,v⟩:=lY r vr;obtain ⟨l,ys,rfl,hl',rr⟩:=r.iM;cases v;refine wA pins s σ H [.ref l] [.ref l] Q I (.cons rfl .nil) ⟨l,ys,rfl,.inr (.of hl'),fun p hp=>?_⟩;have sp:bV H (upd H p (.lst ys)):=bV.upd hp;exact k _ _ sp (.lst aG trivial (rr.same sp)) fun _=>.lst aG hp ((rr.bM hl).same sp)
  ·exact bx e
 ·split at e
  ·rename_i hl;cases e;obtain ⟨vv,uu,rfl,rfl,r,v⟩:=lY r vr;obtain ⟨l,ys,rfl,hl',rr⟩:=r.nY;cases v;refine wA pins s σ H [.ref l] [.ref l] Q I (.cons rfl .nil) ⟨l,ys,rfl,.inl hl',fun p hp=>?_⟩;have sp:bV H (upd H p (.lst ys)):=bV.upd hp;exact k _ _ sp (.lst aG trivial (rr.same sp)) fun _=>.lst aG hp ((rr.bM hl).same sp)
  ·exact bx e
 ·split at e
  ·rename_i hl;cases e;obtain ⟨vv,uu,rfl,rfl,r,v⟩:=lY r vr;cases r with
   | @dK l kvs ds e _ r n=>
    cases v;refine list_dict hc I e fun p s' hp I' _=>⟨.ref p,_,I',rfl,?_⟩
    have sp:bV H (upd H p (.lst (kvs.map fun p=>kV p.1))):=bV.upd hp;exact k _ _ sp (.lst aG trivial (r.keys.same sp)) fun _=>.lst aG hp (r.keys.same sp)
   | @dT l kvs ds e _ r n=>
    cases v;cases r with
    | cons r t=>simp [isTup] at hl
    | nil=>
     have e2:=DX (o':=.dK []) e;refine list_dict hc (jX I e) aG fun p s' hp I' hne=>?_
     have hp':p≠l:=fun z=>by subst z;rw [aG] at hp;cases hp
     have hpn:H p=none:=by rw [aR hp'] at hp;exact hp
     have hcm:upd (upd (upd H l (.dK [])) p (.lst [])) l (.dT [])=upd H p (.lst []):=by
      funext b
      by_cases hb:b=l
      ·subst hb;rw [aG,aR (Ne.symm hp'),e]
      ·rw [aR hb];by_cases hb2:b=p
       ·subst hb2;rw [aG,aG]
       ·rw [aR hb2,aR hb2,aR hb]
     have I2:=mZ I' (by rw [aR (Ne.symm hp'),aG]);have I3:Inv X pins σ (upd H p (.lst [])) s':=by
      have:Inv X pins σ (upd (upd (upd H l (.dK [])) p (.lst [])) l (.dT [])) s':=I2;rwa [hcm] at this
     have sp:bV H (upd H p (.lst [])):=bV.upd hpn;exact ⟨.ref p,_,I3,rfl,k _ _ sp (.lst aG trivial .nil) fun _=>.lst aG hpn .nil⟩
  ·exact bx e
 ·exact bx e
theorem kY:nR X (.type "tuple") (rs nD false):=by
 intro pins s σ H xs us Q I vr ⟨ds,d,r,e,k⟩;unfold nD at e;split at e
 ·cases e;obtain ⟨vv,uu,rfl,rfl,r,v⟩:=lY r vr;obtain ⟨l,ys,rfl,hl',rr⟩:=r.iM;cases v;exact oK pins s σ H [.ref l] [.ref l] Q I (.cons rfl .nil) ⟨l,ys,rfl,.inr ⟨.of hl',k.self (.tup hl' rr) fun z=>by cases z⟩⟩
 ·cases e;obtain ⟨vv,uu,rfl,rfl,r,v⟩:=lY r vr;obtain ⟨l,ys,rfl,hl',rr⟩:=r.nY;cases v;refine oK pins s σ H [.ref l] [.ref l] Q I (.cons rfl .nil) ⟨l,ys,rfl,.inl ⟨hl',fun p hp=>?_⟩⟩;have sp:bV H (upd H p (.tup ys)):=bV.upd hp;exact k _ _ sp (.tup aG (rr.same sp)) fun z=>by cases z
 ·exact bx e
theorem isi (I:Inv X pins σ H s) (r:Rep All H v d) (ru:RelV v u) (h:aKy t d=.ok k)
  (q:∀tk,Q (.bool k) {s with toks:=tk}):wpAny (model X.prog X.w) X.A (call (.builtin "isinstance") [u,.type t.nm]) Q X.xe s:=by
 have q0:Q (.bool k) s:=q s.toks;cases r with
 | non=>cases ru;cases t <;> cases h <;> first|exact IsiPair.NoneType_int (q _)|exact IsiPair.NoneType_str (q _)|exact IsiPair.NoneType_bool (q _)|exact IsiPair.NoneType_list (q _)|exact IsiPair.NoneType_tuple (q _)|exact IsiPair.NoneType_dict (q _)
 | bl b=>cases ru;cases t <;> cases h <;> first|exact IsiPair.bool_int q0|exact IsiPair.bool_str (q _)|exact IsiPair.bool_bool q0|exact IsiPair.bool_list (q _)|exact IsiPair.bool_tuple (q _)|exact IsiPair.bool_dict (q _)
 | int b=>obtain ⟨tt,rfl⟩:=ru;cases t <;> cases h <;> first|exact IsiPair.int_int q0|exact IsiPair.int_str (q _)|exact IsiPair.int_bool (q _)|exact IsiPair.int_list (q _)|exact IsiPair.int_tuple (q _)|exact IsiPair.int_dict (q _)
 | str b=>obtain ⟨tt,rfl⟩:=ru;cases t <;> cases h <;> first|exact IsiPair.str_int (q _)|exact IsiPair.str_str q0|exact IsiPair.str_bool (q _)|exact IsiPair.str_list (q _)|exact IsiPair.str_tuple (q _)|exact IsiPair.str_dict (q _)
 | tup e rr=>
  cases ru;obtain ⟨its,vr,o,ho,hc,_⟩:=lU I e;cases t <;> cases h <;> first|exact IsiPair.tuple_int ho hc (q _)|exact IsiPair.tuple_str ho hc (q _)|exact IsiPair.tuple_bool ho hc (q _)|exact IsiPair.tuple_list ho hc (q _)|exact IsiPair.tuple_tuple ho hc q0|exact IsiPair.tuple_dict ho hc (q _)
 | lst e p rr=>
  cases ru;obtain ⟨its,vr,o,ho,hc,_⟩:=wB I (.of e);cases t <;> cases h <;> first|exact IsiPair.list_int ho hc (q _)|exact IsiPair.list_str ho hc (q _)|exact IsiPair.list_bool ho hc (q _)|exact IsiPair.list_list ho hc q0|exact IsiPair.list_tuple ho hc (q _)|exact IsiPair.list_dict ho hc (q _)
 | frz e rr=>cases t <;> exact bx h
 | fdK e rr n=>cases t <;> exact bx h
 | fdT e rr n=>cases t <;> exact bx h
 | exc n e q=>cases t <;> exact bx h
 | ins n e q=>cases t <;> exact bx h
 | cel e p rr=>cases t <;> exact bx h
 | dK e p rr n=>
  cases ru;obtain ⟨_,_,_,_,o,_,_,ho,hx,_⟩:=U0 I.hok e;have hc:=hx.1;cases t <;> cases h <;> first|exact IsiPair.dict_int ho hc (q _)|exact IsiPair.dict_str ho hc (q _)|exact IsiPair.dict_bool ho hc (q _)|exact IsiPair.dict_list ho hc (q _)|exact IsiPair.dict_tuple ho hc (q _)|exact IsiPair.dict_dict ho hc q0
 | dT e p rr n=>
  cases ru;obtain ⟨_,_,_,_,o,_,_,ho,hx,_⟩:=aEe I.hok e;have hc:=hx.1;cases t <;> cases h <;> first|exact IsiPair.dict_int ho hc (q _)|exact IsiPair.dict_str ho hc (q _)|exact IsiPair.dict_bool ho hc (q _)|exact IsiPair.dict_list ho hc (q _)|exact IsiPair.dict_tuple ho hc (q _)|exact IsiPair.dict_dict ho hc q0
def aN7 (t:Ty):List V->Hp->VK->Prop:=fun xs H Q=>∃v d k,xs=[v,.ty t.nm]/\Rep All H v d/\aKy t d=.ok k/\Q (.bl k) H
theorem aI6 (t:Ty):nR X (.builtin "isinstance") (aN7 t):=by
 intro pins s σ H xs us Q I vr ⟨v,d,k,e,r,h,q⟩;subst e;cases vr with
 | cons rv vt=>
  cases vt with
  | cons rt vt=>
   cases vt;cases rt;exact isi I r rv h fun tk=>⟨.bl k,H,I.tok tk,rfl,q⟩
theorem JK (t:Ty) (ha:PE X a (gE fa ra)) (hg:Gl X "isinstance") (hm:X.mg "isinstance" = none) (hv:bootBuiltins "isinstance" = some (.builtin "isinstance")) (gy:Gl X y) (my:X.mg y=none) (vy:bootBuiltins y=some (.type t.nm))
  (hy:y ≠ "__name__":=by decide) (hyd:(y==("__debug__" : Str))=false:=by decide)
  (he:starEach [a,.Name y p2] X.env=(false,eval a X.env)::starEach [.Name y p2] X.env:=by rfl) (he2:starEach [.Name y p2] X.env=(false,eval (.Name y p2) X.env)::starEach [] X.env:=by rfl)
  (hpl:(backTo pos (starEach [.Name y p2] X.env)).any (·.1)=false:=by rfl):PE X (.Call (.Name "isinstance" p) [a,.Name y p2] [] pos) (gE (b1 (DR t) fa) true):=
 PE.imp (wW (aI6 t) hg hm hv (cA ha (cA (WL gy my vy (v:=.ty t.nm) rfl hy hyd) lD he2) he) (by decide) (by decide) he hpl) fun σ H Q ⟨ρ,d,E,h,q⟩=>by
  obtain ⟨x,h1,h⟩:=bA h;obtain ⟨k,h2,h⟩:=bA h;cases h;exact ⟨ρ,x,E,h1,fun v H1 s1 r1 _=>⟨v,x,k,rfl,r1,h2,(q.imp s1 id).bl⟩⟩
noncomputable def spD (f:List D->Res D) (n:Nat):Sp:=fun vs H Q _=>∃ds d,ds.length=n/\bG All H vs ds/\f ds=.ok d/\kR H d true Q
theorem aEt {E:XK} (h:spD f n vs H Q E):vs.length=n:=by
 obtain ⟨ds,d,h1,r,_⟩:=h;rw [r.length,h1]
theorem aEu (F:jQ X.prog X.w X.K X.mg X.base CX0 k fad fd ps (spD f n)) (hr:iI k X.A) (hg:Gl X x) (hm:X.mg x=some (.ref fad)) (hk:PySem.W.keepIn X.K (.ref fad)=true) (hb:Binds X.K fd ps [])
  (ha:PA X (e::es) (gA fs rr)) (hdb:nDb x:=by decide) (he:starEach (e::es) X.env=(false,eval e X.env)::starEach es X.env:=by rfl) (hpl:(backTo pos (starEach es X.env)).any (·.1)=false:=by rfl) :
  PE X (.Call (.Name x p) (e::es) [] pos) (gE (aY (dO n f) fs) true):=
 PE.imp (aE5 F hr hg hm hk hb .nil DN ha hdb he hpl) fun σ H Q ⟨ρ,d,E,h,q⟩=>by
  obtain ⟨ds,h1,h⟩:=bA h;unfold dO at h;split at h
  ·rename_i hl;exact ⟨ρ,ds,E,h1,fun vs H1 s1 r1 _=>⟨ds,d,of_decide_eq_true hl,by rw [List.append_nil];exact r1,h,q.imp s1 id⟩⟩
  ·exact bx h
end
end
noncomputable def JL (x:Str):List D:=x.cps.toList.map fun c=>D.str ⟨#[c]⟩
section
variable [KFrag]
noncomputable def aL5 (x:Str):It:=⟨fun i _=>i<x.cps.size,fun i H v H'=>H'=H/\∃c,x.cps[i]?=some c/\v=.str ⟨#[c]⟩,fun i _=>x.cps.size<=i⟩
structure ItQ (K:PySem.W.Frag) (P:Addr->Prop) (J:It) (H:Hp) (items:List D):Prop where
 it:∀(P':Addr->Prop) (H':Hp),U5 P H H'->(∀a o,H a=some o->P a->P' a)->(∀i,items.length<=i->J.stop i H')/\∀i d,items[i]?=some d->J.go i H'/\∀x H'',J.yld i H' x H''->bV H' H''/\Rep P' H'' x d
section
variable {K:PySem.W.Frag} {P P':Addr->Prop} {J:It} {H H':Hp} {items:List D}
theorem ItQ.keep' (h:ItQ K P J H items) (k:U5 P H H') (m:∀a o,H a=some o->P a->P' a):ItQ K P' J H' items:=
 ⟨fun P2 H2 k2 m2=>h.it P2 H2 (fun a o e hp=>k2 a o (k a o e hp) (hp.imp (m a o e) id)) fun a o e hp=>m2 a o (k a o e (.inl hp)) (m a o e hp)⟩
theorem ItQ.keep (h:ItQ K P J H items) (k:U5 P H H') (m:∀a,P a->P' a):ItQ K P' J H' items:=h.keep' k fun a _ _=>m a
theorem ItQ.stop (h:ItQ K P J H items) (hi:items.length<=i):J.stop i H:=(h.it P H (fun _ _ e _=>e) fun _ _ _ hp=>hp).1 i hi
theorem ItQ.go (h:ItQ K P J H items) (hi:items[i]?=some d):J.go i H/\∀x H',J.yld i H x H'->bV H H'/\Rep P H' x d:=(h.it P H (fun _ _ e _=>e) fun _ _ _ hp=>hp).2 i d hi
theorem ItQ.lst (a:Addr) (e:J=Itl K a) (r:Rep P H (.ref a) (.lst items)):ItQ K P J H items:=by
 refine ⟨fun P H kk mm=>?_⟩;have r:=r.aEo kk mm;refine ⟨fun i hi=>?_,fun i d hi=>?_⟩
 ·subst e;obtain ⟨a',xs,e,hq,rr⟩:=r.nY;cases e;exact ⟨xs,hq,by rw [rr.length];exact hi⟩
 ·subst e;obtain ⟨a',xs,e,hq,rr⟩:=r.nY;cases e;obtain ⟨v,h1,h2⟩:=rr.get hi;refine ⟨⟨xs,v,hq,h1⟩,fun x H' ⟨e,hy⟩=>?_⟩;subst e;refine ⟨bV.refl _,?_⟩;have:=hy xs hq;rw [h1] at this;cases this;exact h2
theorem ItQ.tup (a:Addr) (e:J=Itt K a) (r:Rep P H (.ref a) (.tup items)):ItQ K P J H items:=by
 refine ⟨fun P H kk mm=>?_⟩;have r:=r.aEo kk mm;refine ⟨fun i hi=>?_,fun i d hi=>?_⟩
 ·subst e;obtain ⟨a',xs,e,hq,rr⟩:=r.iM;cases e;exact ⟨xs,.of hq,by rw [rr.length];exact hi⟩
 ·subst e;obtain ⟨a',xs,e,hq,rr⟩:=r.iM;cases e;obtain ⟨v,h1,h2⟩:=rr.get hi;refine ⟨⟨xs,v,.of hq,h1⟩,fun x H' ⟨e,hy⟩=>?_⟩;subst e;refine ⟨bV.refl _,?_⟩;have:=hy xs (.of hq);rw [h1] at this;cases this;exact h2
theorem ItQ.rng (lo:Int) (n:Nat) (e:J=Itr lo n) (r:items=(List.range n).map fun (k:Nat)=>D.int (lo+k)):ItQ K P J H items:=by
 refine ⟨fun P H k m=>?_⟩;refine ⟨fun i hi=>?_,fun i d hi=>?_⟩
 ·subst e r;show n<=i;simpa using hi
 ·subst e r;have hlt:i<n:=by
   have:=(List.getElem?_eq_some_iff.mp hi).1;simpa using this
  refine ⟨hlt,fun x H' ⟨e,hy⟩=>?_⟩;subst e;have e2:D.int (lo+(i:Int))=d:=by simpa [hlt] using hi
  rw [hy,<-e2];exact ⟨bV.refl _,.int _⟩
theorem ItQ.chs (z:Str) (e:J=aL5 z) (r:items=JL z):ItQ K P J H items:=by
 refine ⟨fun P H k m=>?_⟩;refine ⟨fun i hi=>?_,fun i d hi=>?_⟩
 ·subst e r;show z.cps.size<=i;simpa [JL] using hi
 ·subst e r;have hlt:i<z.cps.size:=by
   have:=(List.getElem?_eq_some_iff.mp hi).1;simpa [JL] using this
  refine ⟨hlt,fun x H' ⟨e,c,hc,hv⟩=>?_⟩;subst e hv;refine ⟨bV.refl _,?_⟩;have e2:D.str ⟨#[c]⟩=d:=by
   unfold JL at hi;rw [List.getElem?_map,Array.getElem?_toList,hc] at hi;simpa using hi
  rw [<-e2];exact .str _
end
noncomputable def gI (K:PySem.W.Frag) (f:FI):TI:=fun σ H R=>∃ρ items k,ER H σ ρ/\f ρ=.ok (items,k)/\∀J H1,bV H H1->ItQ K All J H1 items->(k=true->ItQ K (New H) J H1 items)->R J H1
def gIV (K:PySem.W.Frag) (i:Nat):TI:=fun σ H R=>∃v d items,σ[i]?=some (some v)/\Rep All H v d/\x_ d=.ok items/\∀J,(∀P:Addr->Prop,Rep P H v d->ItQ K P J H items)->R J H
section
variable {X:Cx} {tg l a b:Expr} {rr:Bool} {fs:FA} {p pos:Pos}
theorem RJ (I1:Inv X pins σ H1 s1) (r:Rep All H1 v d) (ru:RelV v u) (hi:x_ d=.ok items)
  (q:∀J,(∀P:Addr->Prop,Rep P H1 v d->ItQ X.K P J H1 items)->R J H1):wpAny (model X.prog X.w) X.A (pyIter u) (PIE X pins σ tg R) X.xe s1:=by
 cases d <;> simp only [x_] at hi <;> cases hi
 ·obtain ⟨a,xs,rfl,e,rr⟩:=r.iM;cases ru;obtain ⟨its,rv,p,hz⟩:=I1.tuple (.of e);refine wpAny_pyIter_tuple (show s1.heap.IsTuple a its.toArray from p) ?_;refine ⟨s1.heap.objs.size,[s1.heap.objs.size],_,_,H1,rfl,I1.kept fun b o e=>Heap.get?_push_of_some _ e,T4 a _,⟨_,Heap.get?_push_size _ rfl,rfl,rfl⟩,fun b hb=>?_,q _ fun P r=>.tup a rfl r⟩;have e:b=s1.heap.objs.size:=by simpa using hb
  subst e;exact I1.aGl (Nat.le_refl _) (I1.hok.fresh (Nat.le_refl _))
 ·obtain ⟨a,xs,rfl,e,rr⟩:=r.nY;cases ru;obtain ⟨its,rv,p,hz⟩:=I1.list e;refine wpAny_pyIter_list p.isList ?_;refine ⟨s1.heap.objs.size,[s1.heap.objs.size],_,_,H1,rfl,I1.kept fun b o e=>Heap.get?_push_of_some _ e,WT a _,⟨_,Heap.get?_push_size _ rfl,rfl,rfl⟩,fun b hb=>?_,q _ fun P r=>.lst a rfl r⟩;have e:b=s1.heap.objs.size:=by simpa using hb
  subst e;exact I1.aGl (Nat.le_refl _) (I1.hok.fresh (Nat.le_refl _))
theorem aI7 (hN:X.N[i]?=some x) (hv:Vis X.env.scope x) (hd:nDb x:=by decide) (hcd:nCd x:=by decide):PI X tg (.Name x pos) (gIV X.K i):=by
 intro pins s σ H R I ⟨v,d,items,hσ,r,hi,q⟩;exact thn (dF hN hv hd hcd pins s σ H (fun w H1=>w=v/\H1=H) I ⟨v,hσ,rfl,rfl⟩) fun u s1 ⟨w,H1,I1,ru,e1,e2⟩=>by
  subst e1 e2;exact RJ I1 r ru hi q
theorem VB (h:xY i=true):-(2 ^ 62)<=i/\i<2 ^ 62:=by
 simp only [xY,Bool.and_eq_true,decide_eq_true_eq] at h;exact h
theorem PI.imp (h:PI X tg l w) (i:∀σ H R,w' σ H R->w σ H R):PI X tg l w':=fun pins s σ H R I q=>h pins s σ H R I (i σ H R q)
theorem gW (hg:Gl X "range") (hm:X.mg "range" = none) (ha:PA X [a] (gA fs rr)) (hs:starEach [a] X.env=[(false,eval a X.env)]:=by rfl):PI X tg (.Call (.Name "range" p) [a] [] pos) (gI X.K (jJ fs iV)):=
 PI.imp (WX hg hm ha hs) fun σ H R ⟨ρ,items,k,E,h,q⟩=>by
  obtain ⟨xs,h1,h⟩:=bA h;unfold iV at h;split at h
  ·split at h
   ·rename_i hb;cases h;obtain ⟨b1,b2⟩:=VB hb;refine ⟨ρ,_,E,h1,fun vs H1 s1 r1 _=>?_⟩;cases r1 with
    | cons r t=>
     cases t;cases r.inv;exact ⟨_,rfl,b1,b2,q _ H1 s1 (.rng 0 _ rfl rfl) fun _=>.rng 0 _ rfl rfl⟩
   ·exact bx h
  ·exact bx h
end
theorem aB4 (n:Nat) (ρ bs:List D) (i:Nat) (h:i<n):(MK n ρ++bs).getD i .uD=ρ.getD i .uD:=by
 rw [List.getD_eq_getElem?_getD,List.getElem?_append_left (by simp [MK];exact h)];simp [MK,h]
theorem RK (n:Nat) (ρ:List D):(MK n ρ).length=n:=by simp [MK]
def TgC (g:TG) (t:D->Res (List D)) (n m:Nat):Prop:=∀(v:V) (d:D) (bs:List D) (σ:L2.St) (H:Hp) (Q:L2.St->Hp->Prop),σ.length=n->Rep All H v d->t d=.ok bs->
 (∀σ2,Ext (σ++List.replicate m none) σ2->(∀j b,bs[j]?=some b->∃w,σ2[n+j]?=some (some w)/\Rep All H w b)->Q σ2 H)->g v (σ++List.replicate m none) H Q
theorem ER.ext (E:ER H σ ρ) (hn:σ.length=n) (x:Ext (σ++List.replicate m none) σ2) (hb:∀j b,bs[j]?=some b->∃w,σ2[n+j]?=some (some w)/\Rep All H w b):ER H σ2 (MK n ρ++bs):=by
 intro i hi;by_cases h:i<n
 ·rw [aB4 n ρ bs i h] at hi ⊢;obtain ⟨v,h1,h2⟩:=E i hi;exact ⟨v,x.2 i v (by rw [List.getElem?_append_left (by rw [hn];exact h)];exact h1),h2⟩
 ·have e:(MK n ρ++bs).getD i .uD=bs.getD (i-n) .uD:=by
   rw [List.getD_eq_getElem?_getD,List.getElem?_append_right (by rw [RK];lia),RK,<-List.getD_eq_getElem?_getD]
  rw [e] at hi ⊢;cases hq:bs[i-n]? with
  | none=>rw [List.getD_eq_getElem?_getD,hq] at hi;exact absurd rfl hi
  | some b=>
   obtain ⟨w,h1,h2⟩:=hb (i-n) b hq;rw [List.getD_eq_getElem?_getD,hq];exact ⟨w,by rw [<-h1];congr 1;lia,h2⟩
theorem yH {K:PySem.W.Frag} {n m:Nat} {g:TG} {tc:TT} (tg:TgC g t n m) (hc:∀σ H Q,gT c σ H Q->tc σ H Q) {σ:L2.St} {H:Hp} {Q:VK} (hn:σ.length=n) (h:gE (gC n it t c f k) true σ H Q) :
  N5 (gI K it) g tc (gE f k) m σ H Q:=by
 obtain ⟨ρ,d,E,h,q⟩:=h;obtain ⟨⟨items,kk⟩,h1,h⟩:=bA h;split at h
 ·rename_i hlim;obtain ⟨ys,h2,h⟩:=bA h;cases h;refine ⟨ρ,items,kk,E,h1,fun J H1 s1 hJ _ p hp=>?_⟩;have hp0:H p=none:=s1.free hp;refine ⟨fun i n' vs H'=>n'=items.length-i/\i<=items.length/\H' p=some (.lst vs)/\bV H1 H'/\∃acc,acc.length<=i/\bG (fun a=>H a=none/\a≠p) H' vs acc/\jK (q_ n t c f k ρ) acc (items.drop i)=.ok ys,⟨items.length,?_⟩,?_⟩
  ·exact ⟨rfl,Nat.zero_le _,aG,bV.upd hp,[],Nat.zero_le _,.nil,h2⟩
  ·rintro i n' vs H' ⟨rfl,hi,hH,sm,acc,hal,racc,hf⟩;refine ⟨hH,?_⟩;have hJ':ItQ K All J H' items:=hJ.keep (.same sm) fun _ z=>z
   rcases Nat.lt_or_ge i items.length with hlt|hge
   ·refine .inr ?_;have e:items[i]?=some items[i]:=List.getElem?_eq_getElem hlt;obtain ⟨g1,g2⟩:=hJ'.go e;have hl1:items.length<=lim:=of_decide_eq_true hlim;refine ⟨g1,?_,fun x H2 hy=>?_⟩
    ·rw [racc.length];exact Nat.lt_of_le_of_lt hal (Nat.lt_of_lt_of_le hlt (Nat.le_trans hl1 (by rw [sizeLine_eq];decide)))
    ·obtain ⟨sH,rx⟩:=g2 x H2 hy;have hH:=sH p _ hH;have sm:=sm.trans sH;have racc:=racc.same sH;rw [List.drop_eq_getElem_cons hlt] at hf;obtain ⟨acc2,hs,hf⟩:=bA hf;obtain ⟨bs,hb,hs⟩:=bA hs;obtain ⟨ok,hok,hs⟩:=bA hs;refine tg x items[i] bs σ H2 _ hn rx hb fun σ2 hx hbs=>⟨hx,hc _ _ _ ?_⟩
     have E2:ER H2 σ2 (MK n ρ++bs):=(E.same (s1.trans sm)).ext hn hx hbs;refine ⟨_,ok,E2,hok,fun H4 s4=>?_⟩;cases ok with
     | true=>
      rw [if_pos rfl];rw [if_pos rfl] at hs;obtain ⟨y,hy2,hs⟩:=bA hs;split at hs
      ·rename_i hk;cases hs;refine ⟨_,y,E2.same s4,hy2,fun w H5 s5 r5 n5=>⟨s5 p _ (s4 p _ hH),items.length-(i+1),by lia,rfl,hlt,aG,?_,acc++[y],?_,?_,hf⟩⟩
       ·exact fun b o e=>by
         rw [aR (bI e hp)];exact s5 b o (s4 b o (sm b o e))
       ·rw [List.length_append,List.length_singleton];lia
       ·have hp5:H5 p=some (.lst vs):=s5 p _ (s4 p _ hH);have ry:Rep (fun a=>H a=none/\a≠p) H5 w y:=by
         rw [Bool.or_eq_true] at hk;rcases hk with hk|hk
         ·exact (n5 hk).mono fun a ha=>⟨((s1.trans sm).trans s4).free ha,fun z=>by subst z;have h0:=s4 _ _ hH;rw [show H4 _=none from ha] at h0;cases h0⟩
         ·exact r5.bM hk
        have all:bG (fun a=>H a=none/\a≠p) H5 (vs++[w]) (acc++[y]):=(racc.same (s4.trans s5)).snoc ry;refine all.keep (fun b o e hb=>?_) fun _ z=>z
        rw [aR]
        ·exact e
        ·rcases hb with hb|hb
         ·exact hb.2
         ·intro z;subst z;rw [hp5] at e;cases e;cases hb
      ·exact bx hs
     | false=>
      rw [if_neg (by simp)];rw [if_neg (by simp)] at hs;cases hs;exact ⟨items.length-(i+1),by lia,rfl,hlt,s4 p _ hH,sm.trans s4,acc,by lia,racc.same s4,hf⟩
   ·refine .inl ⟨hJ'.stop hge,?_⟩;rw [List.drop_eq_nil_of_le hge] at hf;cases hf;exact q _ _ (s1.trans sm) (.lst hH trivial racc.all) fun _=>.lst hH hp0 (racc.mono fun a z=>z.1)
 ·exact bx h
def gIx:List Nat->TGs
 | []=>aM1
 | i::is=>aH1 (xM i) (gIx is)
noncomputable def lZ:List Nat->List V->L2.St->L2.St
 | i::is,v::vs,σ=>lZ is vs (σ.set i (some v))
 | _,_,σ=>σ
theorem N_:∀(is:List Nat) (vs:List V) (σ:L2.St),vs.length=is.length->Q (lZ is vs σ) H->gIx is vs σ H Q
 | [],[],σ,_,q=>⟨rfl,q⟩
 | i::is,v::vs,σ,h,q=>⟨v,vs,rfl,N_ is vs (σ.set i (some v)) (by simpa using h) q⟩
 | [],_::_,_,h,_=>by simp at h
 | _::_,[],_,h,_=>by simp at h
theorem JM:∀(is:List Nat) (vs:List V) (σ:L2.St),(lZ is vs σ).length=σ.length
 | [],_,_=>by simp [lZ]
 | _::_,[],_=>by simp [lZ]
 | i::is,v::vs,σ=>by rw [lZ,JM is vs];simp
theorem yI:∀(is:List Nat) (vs:List V) (σ:L2.St) (k:Nat),k∉is->(lZ is vs σ)[k]?=σ[k]?
 | [],_,_,_,_=>by simp [lZ]
 | _::_,[],_,_,_=>by simp [lZ]
 | i::is,v::vs,σ,k,h=>by
  rw [List.mem_cons,not_or] at h;rw [lZ,yI is vs _ k h.2,List.getElem?_set_ne (Ne.symm h.1)]
theorem RL:∀(is:List Nat) (vs:List V) (σ:L2.St) (j i:Nat) (v:V),is.Nodup->(∀i∈is,i<σ.length)->is[j]?=some i->vs[j]?=some v->(lZ is vs σ)[i]?=some (some v)
 | [],_,_,_,_,_,_,_,h,_=>by simp at h
 | _::_,[],_,_,_,_,_,_,_,h=>by simp at h
 | a::is,w::vs,σ,0,i,v,hn,hl,h1,h2=>by
  have e1:a=i:=by simpa using h1
  have e2:w=v:=by simpa using h2
  subst e1 e2;rw [lZ,yI is vs _ a (List.nodup_cons.mp hn).1,List.getElem?_set_self (hl a (List.mem_cons_self ..))]
 | a::is,w::vs,σ,j+1,i,v,hn,hl,h1,h2=>by
  rw [lZ];exact RL is vs _ j i v (List.nodup_cons.mp hn).2 (fun i hi=>by rw [List.length_set];exact hl i (List.mem_cons_of_mem _ hi)) (by simpa using h1) (by simpa using h2)
theorem n6 (n:Nat):TgC (xM n) yC n 1:=by
 intro v d bs σ H Q hn r h q;cases h;have hl:(σ++List.replicate 1 (none:Option V)).length=n+1:=by simp [hn]
 refine q _ ⟨by simp,fun i w hi=>?_⟩ fun j b hj=>?_
 ·have:i≠n:=fun z=>by
   subst z;rw [List.getElem?_append_right (by lia)] at hi;simp [hn] at hi
  rw [List.getElem?_set_ne (Ne.symm this)];exact hi
 ·have e:j=0:=by
   have:=(List.getElem?_eq_some_iff.mp hj).1;simp at this;exact this
  subst e;have e:d=b:=by simpa using hj
  subst e;exact ⟨v,by rw [Nat.add_zero,List.getElem?_set_self (by lia)],r⟩
theorem YD (K:PySem.W.Frag) (n m:Nat):TgC (aKm K m (gIx (List.range' n m))) (aEn m) n m:=by
 intro v d bs σ H Q hn r h q;cases d <;> simp only [aEn] at h <;> (try (exact bx h;done))
 split at h
 ·rename_i hm;cases h;have hm':=of_decide_eq_true hm;obtain ⟨a,xs,rfl,e,rr⟩:=r.iM;refine ⟨a,xs,rfl,.of e,by rw [rr.length];exact hm',N_ _ _ _ (by rw [rr.length,hm'];simp) ?_⟩;refine q _ ⟨by rw [JM],fun i w hi=>?_⟩ fun j b hj=>?_
  ·rw [yI]
   ·exact hi
   ·intro hmem;have:=List.mem_range'_1.mp hmem;rw [List.getElem?_append_right (by lia)] at hi;rw [List.getElem?_replicate] at hi;split at hi <;> cases hi
  ·obtain ⟨w,h1,h2⟩:=rr.get hj;have hjm:j<m:=by rw [<-hm'];exact (List.getElem?_eq_some_iff.mp hj).1
   refine ⟨w,RL _ _ _ j (n+j) w (List.nodup_range' ..) (fun i hi=>?_) ?_ h1,h2⟩
   ·have:=List.mem_range'_1.mp hi;simp [hn];lia
   ·rw [List.getElem?_range' hjm];simp
 ·exact bx h
section
theorem aEv (S:dH X.N X.env.scope scope ownN) (hn:X.N.length=n) (hm:ownN.length=m) (hcalm:X.calm=true) (hi:PI X tg iter (gI X.K it)) (ht:TgC g t n m) (hg:∀X',cW X X' scope ownN->PG X' tg g) (he:∀X',cW X X' scope ownN->PE X' elt (gE fe re))
  (hs:∀x,foldedSetIterable iter X.env x=pure x):PE X (.ListComp elt [⟨tg,iter,[],0⟩] scope pos) (gE (gC n it t jU fe re) true):=by
 intro pins s σ H Q I h;subst hm;exact aAz S hcalm hi hg he hs pins s σ H Q I (yH ht (fun σ H Q h=>by obtain ⟨ρ,b,E,h,q⟩:=h;cases h;exact q H (bV.refl H)) (I.len.trans hn) h)
theorem YF (S:dH X.N X.env.scope scope ownN) (hn:X.N.length=n) (hm:ownN.length=m) (hcalm:X.calm=true) (hi:PI X tg iter (gI X.K it)) (ht:TgC g t n m) (hg:∀X',cW X X' scope ownN->PG X' tg g) (hc:∀X',cW X X' scope ownN->PT X' c (gT gc)) (he:∀X',cW X X' scope ownN->PE X' elt (gE fe re))
  (hs:∀x,foldedSetIterable iter X.env x=pure x):PE X (.ListComp elt [⟨tg,iter,[c],0⟩] scope pos) (gE (gC n it t gc fe re) true):=by
 intro pins s σ H Q I h;subst hm;exact X6 S hcalm hi hg hc he hs pins s σ H Q I (yH ht (fun σ H Q h=>h) (I.len.trans hn) h)
end
end
variable [KFrag]
theorem gQ.bM:∀{v:List (Key×V)} {d:List (D×D)},gQ P H v d->D.aN (d.map (·.2))=true->gQ P' H v d
 | _,_,.nil,_=>.nil
 | _,_,.cons r t,h=>by
  rw [List.map_cons,D.aN,Bool.and_eq_true] at h;exact .cons (r.bM h.1) (t.bM h.2)
theorem m9.bM:∀{v:List (List Key×V)} {d:List (D×D)},m9 P H v d->D.aN (d.map (·.2))=true->m9 P' H v d
 | _,_,.nil,_=>.nil
 | _,_,.cons r t,h=>by
  rw [List.map_cons,D.aN,Bool.and_eq_true] at h;exact .cons (r.bM h.1) (t.bM h.2)
theorem Rep.aL6 (r:Rep P H (.ref a) d) (h:inner d=true) (hp:P' a):Rep P' H (.ref a) d:=by
 cases r with
 | tup e r=>cases h
 | lst e p r=>exact .lst e hp (r.bM h)
 | cel e p r=>exact .cel e hp (r.bM h)
 | frz e r=>cases h
 | dK e p r n=>exact .dK e hp (r.bM h) n
 | dT e p r n=>exact .dT e hp (r.bM h) n
 | fdK e r n=>cases h
 | fdT e r n=>cases h
 | exc n e q=>cases h
 | ins n e q=>cases h
def Own (own:Nat->Bool) (σ:L2.St) (a:Addr):Prop:=∃i,own i=true/\σ[i]?=some (some (.ref a))
structure ES (own:Nat->Bool) (H:Hp) (σ:L2.St) (ρ:List D):Prop where
 len:σ.length=ρ.length
 at_:∀i,ρ.getD i .uD≠.uD->∃v,σ[i]?=some (some v)/\(own i=false->Rep (fun a=>¬Own own σ a) H v (ρ.getD i .uD))
 own:∀i v,own i=true->σ[i]?=some (some v)->∃a o,v=.ref a/\Rep All H v (ρ.getD i .uD)/\inner (ρ.getD i .uD)=true/\H a=some o/\U4 o=true/\∀j,own j=true->σ[j]?=some (some (.ref a))->j=i
variable {own:Nat->Bool}
theorem ES.er (e:ES own H σ ρ):ER H σ ρ:=fun i hi=>by
 obtain ⟨v,h1,h2⟩:=e.at_ i hi;cases ho:own i with
 | false=>exact ⟨v,h1,(h2 ho).all⟩
 | true=>
  obtain ⟨a,o,_,h3,_⟩:=e.own i v ho h1;exact ⟨v,h1,h3⟩
theorem ES.live (e:ES own H σ ρ) (h:Own own σ a):∃o,H a=some o/\U4 o=true:=by
 obtain ⟨i,hi,hs⟩:=h;obtain ⟨b,o,eb,_,_,h3,h4,_⟩:=e.own i _ hi hs;cases eb;exact ⟨o,h3,h4⟩
theorem ES.same (e:ES own H σ ρ) (s:bV H H'):ES own H' σ ρ:=by
 refine ⟨e.len,fun i hi=>?_,fun i v hi hv=>?_⟩
 ·obtain ⟨v,h1,h2⟩:=e.at_ i hi;exact ⟨v,h1,fun ho=>(h2 ho).same s⟩
 ·obtain ⟨a,o,h1,h2,h3,h4,h5,h6⟩:=e.own i v hi hv;exact ⟨a,o,h1,h2.same s,h3,s _ _ h4,h5,h6⟩
def KU (own:Nat->Bool) (σ:L2.St) (H:Hp) (σ':L2.St) (H':Hp):Prop:=∀a o,H a=some o->¬Own own σ a->H' a=some o/\¬Own own σ' a
theorem KU.trans (a:KU own σ H σ1 H1) (b:KU own σ1 H1 σ2 H2):KU own σ H σ2 H2:=fun c o e n=>let ⟨e1,n1⟩:=a c o e n;b c o e1 n1
theorem KU.same (s:bV H H'):KU own σ H σ H':=fun a o e n=>⟨s a o e,n⟩
theorem KU.keep (k:KU own σ H σ' H') (e:ES own H σ ρ):U5 (fun a=>¬Own own σ a) H H':=fun a o h hp=>by
 by_cases ho:Own own σ a
 ·obtain ⟨o',h1,h2⟩:=e.live ho;rw [h] at h1;cases h1;rcases hp with hp|hp
  ·exact absurd ho hp
  ·rw [h2] at hp;cases hp
 ·exact (k a o h ho).1
theorem KU.rep (k:KU own σ H σ' H') (e:ES own H σ ρ) (r:Rep (fun a=>¬Own own σ a) H v d):Rep (fun a=>¬Own own σ' a) H' v d:=r.aEo (k.keep e) fun a o h n=>(k a o h n).2
def kRt (own:Nat->Bool) (D:Ends) (σ:L2.St) (H:Hp) (d:Mi.D):Prop:=if own rtX=true then ∃d0 ρ',d=.tup (d0::ρ')/\∀v σ' H',KU own σ H σ' H'->ES own H' σ' ρ'->Rep (fun a=>(Own own σ a\/H a=none)/\∀i b xs,ρ'.getD i .uD=.cel b xs->a≠b) H' v d0->D.rt v H'
  else ∀v H',(∀a o,H a=some o->¬Own own σ a->H' a=some o)->Rep (fun a=>Own own σ a\/H a=none) H' v d->D.rt v H'
theorem kRt.old {D:Ends} (h:kRt own D σ H d) (hx:own rtX=false):∀v H',(∀a o,H a=some o->¬Own own σ a->H' a=some o)->Rep (fun a=>Own own σ a\/H a=none) H' v d->D.rt v H':=by
 unfold kRt at h;rw [if_neg (by rw [hx];simp)] at h;exact h
theorem kRt.mk {D:Ends} (hx:own rtX=false) (h:∀v H',(∀a o,H a=some o->¬Own own σ a->H' a=some o)->Rep (fun a=>Own own σ a\/H a=none) H' v d->D.rt v H'):kRt own D σ H d:=by
 unfold kRt;rw [if_neg (by rw [hx];simp)];exact h
def kS (own:Nat->Bool) (D:Ends) (σ:L2.St) (H:Hp):Fl->Prop
 | .nx ρ=>∀σ' H',KU own σ H σ' H'->ES own H' σ' ρ->D.nx σ' H'
 | .bk ρ=>∀σ' H',KU own σ H σ' H'->ES own H' σ' ρ->D.bk σ' H'
 | .ct ρ=>∀σ' H',KU own σ H σ' H'->ES own H' σ' ρ->D.ct σ' H'
 | .rt d=>kRt own D σ H d
theorem kS.step {D:Ends} {σ σ':L2.St} {H H':Hp} {fl:Fl} (k:KU own σ H σ' H') (h:kS own D σ H fl):kS own D σ' H' fl:=by
 cases fl with
 | nx ρ=>exact fun σ2 H2 k2 e=>h σ2 H2 (k.trans k2) e
 | bk ρ=>exact fun σ2 H2 k2 e=>h σ2 H2 (k.trans k2) e
 | ct ρ=>exact fun σ2 H2 k2 e=>h σ2 H2 (k.trans k2) e
 | rt d=>
  have old:∀a,(Own own σ' a\/H' a=none)->Own own σ a\/H a=none:=fun a ha=>by
   cases q:H a with
   | none=>exact .inr rfl
   | some o=>
    refine .inl (Classical.byContradiction fun n=>?_);obtain ⟨e1,n1⟩:=k a o q n;rcases ha with ha|ha
    ·exact n1 ha
    ·rw [e1] at ha;cases ha
  have h:kRt own D σ H d:=h;show kRt own D σ' H' d;unfold kRt at h ⊢;by_cases hx:own rtX=true
  ·rw [if_pos hx] at h ⊢;obtain ⟨d0,ρ',e,g⟩:=h;exact ⟨d0,ρ',e,fun v σ2 H2 k2 E2 r=>g v σ2 H2 (k.trans k2) E2 (r.mono fun a ha=>⟨old a ha.1,ha.2⟩)⟩
  ·rw [if_neg hx] at h ⊢;exact fun v H2 hk r=>h v H2 (fun a o e n=>let ⟨e1,n1⟩:=k a o e n;hk a o e1 n1) (r.mono fun a ha=>old a ha)
noncomputable def tS (own:Nat->Bool) (f:FS):TS:=fun D σ H=>∃ρ fl,ES own H σ ρ/\f ρ=.ok fl/\kS own D σ H fl
theorem PS.imp {st:Stmt} (h:PS X st t) (i:∀D σ H,t' D σ H->t D σ H):PS X st t':=fun pins s σ H D I q=>h pins s σ H D I (i D σ H q)
theorem PSs.imp {st:List Stmt} {t t':TS} (h:PSs X st t) (i:∀D σ H,t' D σ H->t D σ H):PSs X st t':=fun pins s σ H D I q=>h pins s σ H D I (i D σ H q)
section
variable {X:Cx} {a b c e:Expr} {pos pos':Pos} {fe:FE} {re:Bool} {gc:FT} {f g:FS} {st:Stmt} {rest s1 s2:List Stmt}
theorem cD:PSs X [] (tS own jL):=PSs.imp WN fun D σ H ⟨ρ,fl,E,h,q⟩=>by
 cases h;exact q σ H (fun a o e n=>⟨e,n⟩) E
theorem aEw {D:Ends} (h:tS own (bH f g) D σ H):aH0 (tS own f) (tS own g) D σ H:=by
 obtain ⟨ρ,fl,E,h,q⟩:=h;obtain ⟨r,h1,h2⟩:=bA h;refine ⟨ρ,r,E,h1,?_⟩;cases r with
 | nx ρ'=>exact fun σ' H' k E'=>⟨ρ',fl,E',h2,q.step k⟩
 | bk ρ'=>cases h2;exact q
 | ct ρ'=>cases h2;exact q
 | rt d=>cases h2;exact q
theorem aD (h1:PS X st (tS own f)) (h2:PSs X rest (tS own g)):PSs X (st::rest) (tS own (bH f g)):=PSs.imp (oG h1 h2) fun _ _ _=>aEw
theorem aO (h1:PS X st (tS own f)):PSs X [st] (tS own f):=lH h1
theorem gD (hc:PT X c (gT gc)) (ha:PSs X s1 (tS own f)) (hb:PSs X s2 (tS own g)):PS X (.If c s1 s2 pos) (tS own (sIf gc f g)):=PS.imp (aKl hc ha hb) fun D σ H ⟨ρ,fl,E,h,q⟩=>by
 obtain ⟨k,h1,h2⟩:=bA h;refine ⟨ρ,k,E.er,h1,fun H' s=>?_⟩;cases k with
 | true=>rw [if_pos rfl];rw [if_pos rfl] at h2;exact ⟨ρ,fl,E.same s,h2,q.step (.same s)⟩
 | false=>rw [if_neg (by simp)];rw [if_neg (by simp)] at h2;exact ⟨ρ,fl,E.same s,h2,q.step (.same s)⟩
theorem cR (he:PE X e (gE fe re)) (hx:own rtX=false:=by rfl):PS X (.Return (some e) pos) (tS own (kO fe re)):=PS.imp (aCp he) fun D σ H ⟨ρ,fl,E,h,q⟩=>by
 obtain ⟨d,h1,h2⟩:=bA h;split at h2
 ·rename_i hk;cases h2;refine ⟨ρ,d,E.er,h1,fun v H' s r n=>q.old hx v H' (fun a o e _=>s a o e) ?_⟩;rw [Bool.or_eq_true] at hk;rcases hk with hk|hk
  ·exact (n hk).mono fun a ha=>.inr ha
  ·exact r.bM hk
 ·exact bx h2
theorem DY (ho:own i=true) (hN:X.N[i]?=some x) (hv:Vis X.env.scope x) (hd:nDb x:=by decide) (hcd:nCd x:=by decide) (hx:own rtX=false:=by rfl):PS X (.Return (some (.Name x pos')) pos) (tS own (XX i)):=
 PS.imp (aCp (dF hN hv hd hcd)) fun D σ H ⟨ρ,fl,E,h,q⟩=>by
 obtain ⟨d,h1,h2⟩:=bA h;cases h2;obtain ⟨v,hv,r,e⟩:=E.er.var h1;obtain ⟨a,o,rfl,r2,hin,_⟩:=E.own i v ho hv;rw [e] at hin;exact ⟨_,hv,q.old hx _ H (fun a o e _=>e) (r.aL6 hin (.inl ⟨i,ho,hv⟩))⟩
theorem n8 (ho:own i=false) (a:Addr):Own own (σ.set i (some v)) a↔Own own σ a:=by
 constructor
 ·rintro ⟨j,hj,e⟩;have:i≠j:=fun z=>by subst z;rw [ho] at hj;cases hj
  rw [List.getElem?_set_ne this] at e;exact ⟨j,hj,e⟩
 ·rintro ⟨j,hj,e⟩;have:i≠j:=fun z=>by subst z;rw [ho] at hj;cases hj
  exact ⟨j,hj,by rw [List.getElem?_set_ne this];exact e⟩
theorem dG {ρ:List D}:(ρ.set i d).getD j .uD=if i=j/\i<ρ.length then d else ρ.getD j .uD:=by
 rw [List.getD_eq_getElem?_getD,List.getD_eq_getElem?_getD,List.getElem?_set];by_cases h:i=j
 ·subst h;by_cases h2:i<ρ.length
  ·simp [h2]
  ·simp [h2]
 ·simp [h]
theorem ES.set (E:ES own H σ ρ) (ho:own i=false) (r:Rep (fun a=>¬Own own σ a) H v d):ES own H (σ.set i (some v)) (ρ.set i d):=by
 have hO:(fun a=>¬Own own (σ.set i (some v)) a)=fun a=>¬Own own σ a:=funext fun a=>by rw [n8 ho]
 refine ⟨by simp [E.len],fun j hj=>?_,fun j w hj hw=>?_⟩
 ·rw [dG] at hj ⊢;rw [hO];by_cases h:i=j/\i<ρ.length
  ·rw [if_pos h];obtain ⟨rfl,hl⟩:=h;exact ⟨v,by rw [List.getElem?_set_self (by rw [E.len];exact hl)],fun _=>r⟩
  ·rw [if_neg h] at hj ⊢;obtain ⟨w,h1,h2⟩:=E.at_ j hj;by_cases hij:i=j
   ·subst hij;have:i<σ.length:=(List.getElem?_eq_some_iff.mp h1).1;rw [E.len] at this;exact absurd ⟨rfl,this⟩ h
   ·exact ⟨w,by rw [List.getElem?_set_ne hij];exact h1,h2⟩
 ·have hij:i≠j:=fun z=>by subst z;rw [ho] at hj;cases hj
  rw [List.getElem?_set_ne hij] at hw;rw [dG,if_neg fun z=>hij z.1];obtain ⟨a,o,h1,h2,h3,h4,h5,h6⟩:=E.own j w hj hw;refine ⟨a,o,h1,h2,h3,h4,h5,fun k hk hs=>h6 k hk ?_⟩;have hik:i≠k:=fun z=>by subst z;rw [ho] at hk;cases hk
  rwa [List.getElem?_set_ne hik] at hs
theorem ES.aN8 {i:Nat} {a:Addr} {o:HO} {d:D} (E:ES own H σ ρ) (s:bV H H') (ho:own i=true) (hn:H a=none) (r:Rep All H' (.ref a) d) (hin:inner d=true) (ha:H' a=some o) (hm:U4 o=true) :
  ES own H' (σ.set i (some (.ref a))) (ρ.set i d)/\KU own σ H (σ.set i (some (.ref a))) H':=by
 have hO:∀b,H b≠none->¬Own own σ b->¬Own own (σ.set i (some (.ref a))) b:=fun b hb n ⟨j,hj,e⟩=>by
  by_cases hij:i=j
  ·subst hij;by_cases hl:i<σ.length
   ·rw [List.getElem?_set_self hl] at e;cases e;exact hb hn
   ·rw [List.getElem?_set,if_pos rfl,if_neg hl] at e;cases e
  ·rw [List.getElem?_set_ne hij] at e;exact n ⟨j,hj,e⟩
 refine ⟨⟨by simp [E.len],fun j hj=>?_,fun j w hj hw=>?_⟩,fun b ob e n=>⟨s b ob e,hO b (by rw [e];simp) n⟩⟩
 ·rw [dG] at hj ⊢;by_cases h:i=j/\i<ρ.length
  ·rw [if_pos h];obtain ⟨rfl,hl⟩:=h;exact ⟨.ref a,by rw [List.getElem?_set_self (by rw [E.len];exact hl)],fun z=>by rw [ho] at z;cases z⟩
  ·rw [if_neg h] at hj ⊢;obtain ⟨w,h1,h2⟩:=E.at_ j hj;by_cases hij:i=j
   ·subst hij;have:i<σ.length:=(List.getElem?_eq_some_iff.mp h1).1;rw [E.len] at this;exact absurd ⟨rfl,this⟩ h
   ·exact ⟨w,by rw [List.getElem?_set_ne hij];exact h1,fun hj=>((h2 hj).dom.same s).mono fun b ⟨n,hb⟩=>hO b hb n⟩
 ·by_cases hij:i=j
  ·subst hij;have hl:i<σ.length:=by
    have:=(List.getElem?_eq_some_iff.mp hw).1;simpa using this
   rw [List.getElem?_set_self hl] at hw;cases hw;rw [dG,if_pos ⟨rfl,by rw [<-E.len];exact hl⟩];refine ⟨a,o,rfl,r,hin,ha,hm,fun k hk hs=>?_⟩;by_cases hik:i=k
   ·exact hik.symm
   ·rw [List.getElem?_set_ne hik] at hs;obtain ⟨o',h1,_⟩:=E.live ⟨k,hk,hs⟩;rw [hn] at h1;cases h1
  ·rw [List.getElem?_set_ne hij] at hw;rw [dG,if_neg fun z=>hij z.1];obtain ⟨b,ob,h1,h2,h3,h4,h5,h6⟩:=E.own j w hj hw;refine ⟨b,ob,h1,h2.same s,h3,s _ _ h4,h5,fun k hk hs=>?_⟩;by_cases hik:i=k
   ·subst hik;by_cases hl:i<σ.length
    ·rw [List.getElem?_set_self hl] at hs;cases hs;rw [hn] at h4;cases h4
    ·rw [List.getElem?_set,if_pos rfl,if_neg hl] at hs;cases hs
   ·rw [List.getElem?_set_ne hik] at hs;exact h6 k hk hs
theorem aI8 (r:Rep P H v d) (hin:inner d=true):∃a o,v=.ref a/\P a/\H a=some o/\U4 o=true:=by
 cases r with
 | lst e p r=>exact ⟨_,_,rfl,p,e,rfl⟩
 | cel e p r=>exact ⟨_,_,rfl,p,e,rfl⟩
 | dK e p r n=>exact ⟨_,_,rfl,p,e,rfl⟩
 | dT e p r n=>exact ⟨_,_,rfl,p,e,rfl⟩
 | fdK e r n=>cases hin
 | fdT e r n=>cases hin
 | _=>cases hin
theorem aEx (E:ES own H σ ρ) (r:Rep (New H) H' v d):Rep (fun a=>¬Own own σ a) H' v d:=r.mono fun a ha ho=>by
 obtain ⟨o,h1,_⟩:=E.live ho;rw [show H a=none from ha] at h1;cases h1
theorem OD (ho:own i=o) (h:tS own (cG o i fe re) D' σ H):aGk (gE fe re) (xM i) D' σ H:=by
 obtain ⟨ρ,fl,E,h,q⟩:=h;obtain ⟨d,h1,h2⟩:=bA h;cases o with
 | true=>
  simp only [if_true] at h2;split at h2
  ·rename_i hk;cases h2;refine ⟨ρ,d,E.er,h1,fun v H' s r n=>?_⟩;rw [Bool.and_eq_true] at hk;obtain ⟨a,ob,rfl,hn,ha,hm⟩:=aI8 (n hk.1) hk.2;obtain ⟨E2,k⟩:=E.aN8 s ho hn r hk.2 ha hm;exact q _ H' k E2
  ·exact bx h2
 | false=>
  simp only [Bool.false_eq_true,if_false] at h2;split at h2
  ·rename_i hk;cases h2;refine ⟨ρ,d,E.er,h1,fun v H' s r n=>?_⟩;rw [Bool.or_eq_true] at hk;have r2:Rep (fun a=>¬Own own σ a) H' v d:=by
    rcases hk with hk|hk
    ·exact aEx E (n hk)
    ·exact r.bM hk
   exact q _ H' (fun a ob e hn=>⟨s a ob e,by rw [n8 ho];exact hn⟩) ((E.same s).set ho r2)
  ·exact bx h2
theorem bD (ho:own i=o) (hN:X.N.Nodup) (hi:X.N[i]?=some x) (hx:Loc X.env.scope x) (he:PE X e (gE fe re)) (hs:swapsWith e (some (.Name x pos')) pos.line X.env=pure false:=by rfl) (hf:X.fn x=true\/X.env.scope.names.lookup x=some .local:=by first|exact .inl rfl|exact .inr rfl|assumption) :
  PS X (.Assign [.Name x pos'] e pos) (tS own (cG o i fe re)):=PS.imp (aCq hN hi hx he hs hf) fun _ _ _=>OD ho
theorem aN9 {i:Nat} {x:Str} {o:Bool} (he:PE X e (gE fe re)) (ho:own i=o:=by rfl) (hN:X.N.Nodup:=by assumption) (hi:X.N[i]?=some x:=by exact rfl) (hx:Loc X.env.scope x:=by trivial) (hs:swapsWith e (some (.Name x pos')) pos.line X.env=pure false:=by rfl) (hf:X.fn x=true\/X.env.scope.names.lookup x=some .local:=by first|exact .inl rfl|exact .inr rfl|assumption):PS X (.Assign [.Name x pos'] e pos) (tS own (cG o i fe re)):=bD ho hN hi hx he hs hf
theorem ES.mut {i:Nat} {a:Addr} {o:HO} {d:D} (E:ES own H σ ρ) (ho:own i=true) (hi:σ[i]?=some (some (.ref a))) (hm:U4 o=true) (r:Rep All (upd H a o) (.ref a) d) (hin:inner d=true) :
  ES own (upd H a o) σ (ρ.set i d)/\KU own σ H σ (upd H a o):=by
 have hOa:Own own σ a:=⟨i,ho,hi⟩
 obtain ⟨a',oa,ea,_,_,hHa,hma,huq⟩:=E.own i _ ho hi;cases ea;have k:KU own σ H σ (upd H a o):=fun b ob e n=>⟨by rw [aR (fun z=>by subst z;exact n hOa)];exact e,n⟩
 have hl:i<ρ.length:=by rw [<-E.len];exact (List.getElem?_eq_some_iff.mp hi).1
 refine ⟨⟨by simp [E.len],fun j hj=>?_,fun j w hj hw=>?_⟩,k⟩
 ·rw [dG] at hj ⊢;by_cases h:i=j/\i<ρ.length
  ·obtain ⟨rfl,_⟩:=h;exact ⟨_,hi,fun z=>by rw [ho] at z;cases z⟩
  ·rw [if_neg h] at hj ⊢;obtain ⟨w,h1,h2⟩:=E.at_ j hj;exact ⟨w,h1,fun hj=>k.rep E (h2 hj)⟩
 ·by_cases hij:i=j
  ·subst hij;rw [hi] at hw;cases hw;rw [dG,if_pos ⟨rfl,hl⟩];exact ⟨a,o,rfl,r,hin,aG,hm,huq⟩
  ·rw [dG,if_neg fun z=>hij z.1];obtain ⟨b,ob,h1,h2,h3,h4,h5,h6⟩:=E.own j w hj hw;subst h1;have hba:b≠a:=fun z=>by subst z;exact hij (h6 i ho hi)
   refine ⟨b,ob,rfl,?_,h3,by rw [aR hba];exact h4,h5,h6⟩;refine (h2.aL6 (P':=fun c=>c=b) h3 rfl).keep (fun c oc hc hp=>?_) fun _ _=>trivial
   rw [aR]
   ·exact hc
   ·intro z;subst z;rcases hp with hp|hp
    ·exact hba hp.symm
    ·rw [hHa] at hc;cases hc;rw [hma] at hp;cases hp
theorem ES.ownAt (E:ES own H σ ρ) (ho:own i=true) (hd:ρ.getD i .uD≠.uD):∃a o,σ[i]?=some (some (.ref a))/\Rep All H (.ref a) (ρ.getD i .uD)/\inner (ρ.getD i .uD)=true/\H a=some o/\U4 o=true:=by
 obtain ⟨v,h1,_⟩:=E.at_ i hd;obtain ⟨a,o,rfl,h2,h3,h4,h5,_⟩:=E.own i v ho h1;exact ⟨a,o,h1,h2,h3,h4,h5⟩
theorem oU {a:Addr} (r:Rep All H (.ref a) (.lst xs)):∃vs,H a=some (.lst vs)/\bG All H vs xs:=by
 cases r with
 | lst e _ r=>exact ⟨_,e,r⟩
theorem bG.upd {a:Addr} {xs:List D} {o:HO} {ob:HO} (r:bG All H vs xs) (hp:D.aN xs=true) (ha:H a=some ob) (hm:U4 ob=true):bG All (upd H a o) vs xs:=by
 refine (r.bM (P':=fun _=>False) hp).keep (fun c oc hc h=>?_) fun _ h=>h.elim
 rw [aR]
 ·exact hc
 ·intro z;subst z;rcases h with h|h
  ·exact h
  ·rw [ha] at hc;cases hc;rw [hm] at h;cases h
theorem l_:D.aN (xs++ys)=(D.aN xs&&D.aN ys):=by
 induction xs with
 | nil=>simp [D.aN]
 | cons x xs ih=>rw [List.cons_append,D.aN,D.aN,ih,Bool.and_assoc]
theorem mC (ho:own i=true) (hN:X.N[i]?=some x) (hv:Vis X.env.scope x) (he:PE X e (gE fe re)) (hd:nDb x:=by decide) (hcd:nCd x:=by decide)
  (hbase:attributeBase (.Name x p1) "append" X.env (eval (.Name x p1) X.env)=eval (.Name x p1) X.env:=by rfl)
  (hs1:starEach [e] X.env=(false,eval e X.env)::starEach [] X.env:=by rfl)
  (hfew:((backTo cpos (starEach [e] X.env)).all (fun x=>!x.1)&&(backToKw cpos (keywordEach [] X.env)).all (fun x=>x.1.isSome)
   && decide (([e]:List Expr).length+([]:List Keyword).length+(if ([]:List Keyword).isEmpty then 0 else 1)<30))=true:=by rfl)
  (hline:(apos.endLine==cpos.line)=true:=by rfl)
  (hs:swapsWith (.Call (.Attribute (.Name x p1) "append" apos) [e] [] cpos) none pos.line X.env=pure false:=by rfl) :
  PS X (.Expr (.Call (.Attribute (.Name x p1) "append" apos) [e] [] cpos) pos) (tS own (nW i fe)):=
 PS.imp (lJ (aHo PySem.F.plainAttrs_list PySem.F.slot_list_append PySem.F.type_list_append xV (dF hN hv hd hcd) (cA he lD hs1) hbase hfew hline hs1 rfl) hs) fun D' σ H ⟨ρ,fl,E,h,q⟩=>by
 obtain ⟨d,h1,h2⟩:=bA h;split at h2
 ·rename_i xs hx;split at h2
  ·rename_i hk;cases h2;rw [Bool.and_eq_true] at hk;obtain ⟨a,o,hσ,r,hin,ha,hm⟩:=E.ownAt ho (by rw [hx];intro z;cases z);rw [hx] at r hin;obtain ⟨vs,hl,rr⟩:=oU r;refine ⟨_,hσ,.inl ⟨rfl,vs,.of hl⟩,ρ,d,E.er,h1,fun v H' s rv _=>⟨a,vs,v,rfl,rfl,s _ _ hl,by rw [rr.length];exact X8 hk.1,?_⟩⟩;have E':=E.same s;have hl':=s _ _ hl;obtain ⟨E2,k2⟩:=E'.mut ho hσ rfl (.lst aG trivial (((rr.same s).snoc rv).upd (by rw [l_];simp only [Bool.and_eq_true];exact ⟨hin,by simp [D.aN,hk.2]⟩) hl' rfl)) (by show D.aN (xs++[d])=true;rw [l_];simp only [Bool.and_eq_true];exact ⟨hin,by simp [D.aN,hk.2]⟩);exact q _ _ ((KU.same s).trans k2) E2
  ·exact bx h2
 ·exact bx h2
end
end Mi
namespace L2
open PySem PySem.Spec PyProof.Rows
section
variable {X:Cx} {scope:Scope} {own:List Str}
theorem aB5 {y:Str} {py:Pos} {iy:Nat} (hNn:X.N.Nodup) (hiy:X.N[iy]?=some y) (hxy:Loc X.env.scope y) (hfy:X.fn y=true\/X.env.scope.names.lookup y=some .local) {pins:List (Addr×Obj)} {σ:St} {D:Ends} {p C:Addr} {H5:Hp} {s6:Shared} {m6:Str->Option Value} (f:Inv X pins σ H5 s6) (k:WP X pins H5 C) (n:s6.heap.Ns C m6) (q:xM iy (.ref p) σ H5 D.nx):compPost (model X.prog X.w) X.A X.xe (some (assign (.Name y py) X.env)) (fun _ s'=>SP X pins D .next s') (.ref p) C (.ok .next) s6:=by
 obtain ⟨oC,esC,epC,hoC,hdC,_⟩:=id n;have finP:=f.M8 (pins':=pins++[(C,oC)]) fun p hp=>(List.mem_append.mp hp).elim (fun z=>f.pin p (List.mem_append_right _ z)) fun z=>by
  have z':p=(C,oC):=by simpa using z
  subst z';exact ⟨hoC,k.1,k.2.1,k.2.2.1,fun v z=>by rw [hdC] at z;cases z⟩
 refine thn (aQ (pos:=py) hNn hiy hxy hfy _ _ σ H5 (.ref p) (.ref p) D.nx finP rfl q) fun _ s7 ⟨σ7,H7,I7,q7⟩=>?_
 obtain ⟨g7,hC7,_⟩:=I7.pin (C,oC) (List.mem_append_right _ (List.mem_append_right _ (by simp)));refine ⟨m6,n.at' fun o e=>?_,fun h' sb=>⟨σ7,H7,Inv.turned (t':=s7.toks) I7.oH (fun b o hb e=>sb.extBut b o hb e) hC7 k.2.1 k.2.2.2.1 k.2.2.2.2.1 k.2.2.2.2.2,q7⟩⟩;rw [hoC] at e;cases e;exact g7
theorem aI9 {elt iter tg:Expr} {ifs:List Expr} {wi:TI} {g:TG} {tc:TT} {te:TE} {pos:Pos} (S:dH X.N X.env.scope scope own) (hcalm:X.calm=true) (hi:PI X tg iter wi)
  (hg:∀X',cW X X' scope own->PG X' tg g) (hc:(ifs=[]/\tc=fun _ H Q=>Q true H)\/∃c,ifs=[c]/\∀X',cW X X' scope own->PT X' c tc) (he:∀X',cW X X' scope own->PE X' elt te)
  (hs:∀x,foldedSetIterable iter X.env x=pure x) {y:Str} {py pos2:Pos} {iy:Nat} (hNn:X.N.Nodup) (hiy:X.N[iy]?=some y) (hxy:Loc X.env.scope y) (hfy:X.fn y=true\/X.env.scope.names.lookup y=some .local) (hsw:swapsWith (.ListComp elt [⟨tg,iter,ifs,0⟩] scope pos) (some (.Name y py)) pos2.line X.env=pure true):PS X (.Assign [.Name y py] (.ListComp elt [⟨tg,iter,ifs,0⟩] scope pos) pos2) (aGk (N5 wi g tc te own.length) (xM iy)):=by
 intro pins s σ H D I h;rw [exec_Assign_Name_used _ _ _ _ hsw];refine wpAny_bind (wpAny_standAt (wpAny_bind ?_));show wpAny _ X.A (do let _ <- comprehension (.ListComp elt [⟨tg,iter,ifs,0⟩] scope pos) scope X.env _ (newList []) false (eval iter X.env) (some (assign (.Name y py) X.env))) _ _ s;exact wpAny_bind (wpAny_mono (N6 (QQ:=fun _ s'=>SP X pins D .next s') S hcalm hi hg hc he hs I h (aB5 hNn hiy hxy hfy)) (fun _ s' hq=>wpAny_pure (wpAny_pure hq)) fun _ _ e=>e)
theorem YG {elt iter tg c:Expr} {wi:TI} {g:TG} {tc:TT} {te:TE} {pos:Pos} (S:dH X.N X.env.scope scope own) (hcalm:X.calm=true) (hi:PI X tg iter wi)
  (hg:∀X',cW X X' scope own->PG X' tg g) (hc:∀X',cW X X' scope own->PT X' c tc) (he:∀X',cW X X' scope own->PE X' elt te)
  (hs:∀x,foldedSetIterable iter X.env x=pure x) {y:Str} {py pos2:Pos} {iy:Nat} (hNn:X.N.Nodup) (hiy:X.N[iy]?=some y) (hxy:Loc X.env.scope y) (hfy:X.fn y=true\/X.env.scope.names.lookup y=some .local) (hsw:swapsWith (.ListComp elt [⟨tg,iter,[c],0⟩] scope pos) (some (.Name y py)) pos2.line X.env=pure true):PS X (.Assign [.Name y py] (.ListComp elt [⟨tg,iter,[c],0⟩] scope pos) pos2) (aGk (N5 wi g tc te own.length) (xM iy)):=
 aI9 S hcalm hi hg (.inr ⟨c,rfl,hc⟩) he hs hNn hiy hxy hfy hsw
theorem aB6 {elt iter tg:Expr} {wi:TI} {g:TG} {te:TE} {pos:Pos} (S:dH X.N X.env.scope scope own) (hcalm:X.calm=true) (hi:PI X tg iter wi)
  (hg:∀X',cW X X' scope own->PG X' tg g) (he:∀X',cW X X' scope own->PE X' elt te)
  (hs:∀x,foldedSetIterable iter X.env x=pure x) {y:Str} {py pos2:Pos} {iy:Nat} (hNn:X.N.Nodup) (hiy:X.N[iy]?=some y) (hxy:Loc X.env.scope y) (hfy:X.fn y=true\/X.env.scope.names.lookup y=some .local) (hsw:swapsWith (.ListComp elt [⟨tg,iter,[],0⟩] scope pos) (some (.Name y py)) pos2.line X.env=pure true):PS X (.Assign [.Name y py] (.ListComp elt [⟨tg,iter,[],0⟩] scope pos) pos2) (aGk (N5 wi g (fun _ H Q=>Q true H) te own.length) (xM iy)):=
 aI9 S hcalm hi hg (.inl ⟨rfl,rfl⟩) he hs hNn hiy hxy hfy hsw
end
end L2
namespace Mi
open PySem L2 PySem.SeqAt PySem.Spec PyProof.Rows
section
variable [KFrag]
variable {own:Nat->Bool}
section
variable {X:Cx} {a b c e:Expr} {pos pos':Pos} {fb fe:FE} {re:Bool} {f g:FS} {st:Stmt} {s1 s2:List Stmt}
variable {scope:Scope} {ownN:List Str} {elt iter tg:Expr} {it:FI} {t:D->Res (List D)} {gt:TG}
theorem aEy (S:dH X.N X.env.scope scope ownN) (hn:X.N.length=n) (hm:ownN.length=m) (hcalm:X.calm=true) (hi:PI X tg iter (gI X.K it)) (ht:TgC gt t n m) (hg:∀X',cW X X' scope ownN->PG X' tg gt) (he:∀X',cW X X' scope ownN->PE X' elt (gE fe re))
  (hs:∀x,foldedSetIterable iter X.env x=pure x) (ho:own iy=o) (hNn:X.N.Nodup) (hiy:X.N[iy]?=some y) (hxy:Loc X.env.scope y) (hfy:X.fn y=true\/X.env.scope.names.lookup y=some .local) (hsw:swapsWith (.ListComp elt [⟨tg,iter,[],0⟩] scope pos) (some (.Name y py)) pos2.line X.env=pure true) :
  PS X (.Assign [.Name y py] (.ListComp elt [⟨tg,iter,[],0⟩] scope pos) pos2) (tS own (cG o iy (gC n it t jU fe re) true)):=by
 intro pins s σ H D I h;subst hm;refine aB6 S hcalm hi hg he hs hNn hiy hxy hfy hsw pins s σ H D I ?_;exact yH ht (fun σ H Q h=>by obtain ⟨ρ,b,E,h,q⟩:=h;cases h;exact q H (bV.refl H)) (I.len.trans hn) (OD ho h)
theorem D_ [DecidableEq κ] {k:κ} {v:V} (e:p.1=k) (h:k∉r.map (·.1)):putK (p::r) k v=(k,v)::r:=by
 unfold putK;rw [if_pos (by simp [e]),List.map_cons,if_pos e,e]
 congr 1
 have:∀q∈r,(fun kv:κ×V=>if kv.1=k then (kv.1,v) else kv) q=id q:=fun q hq=>by
  have:q.1≠k:=fun z=>h (List.mem_map.mpr ⟨q,hq,z⟩)
  simp [this]
 rw [List.map_congr_left this,List.map_id]
theorem EY [DecidableEq κ] {k:κ} {v:V} (e:¬p.1=k):putK (p::r) k v=p::putK r k v:=by
 unfold putK;rw [List.any_cons,decide_eq_false e,Bool.false_or];split
 ·rw [List.map_cons,if_neg e]
 ·rfl
theorem jY [DecidableEq κ]:∀{kvs:List (κ×V)},(kvs.map (·.1)).Nodup->((putK kvs k v).map (·.1)).Nodup:=fun {kvs} h=>by
 by_cases hk:zQ kvs k=none
 ·exact aEh v h hk
 ·unfold putK;rw [if_pos (by rw [oO];exact Option.isSome_iff_ne_none.mpr hk),List.map_map];have:(fun x:κ×V=>x.1) ∘ (fun kv:κ×V=>if kv.1=k then (kv.1,v) else kv)=fun x=>x.1:=by
   funext q
   simp only [Function.comp];split <;> rfl
  rw [this];exact h
theorem E_ (rv:Rep P H v d):∀{kvs:List (Key×V)} {ds:List (D×D)},gQ P H kvs ds->(kvs.map (·.1)).Nodup->gQ P H (putK kvs k v) (putD ds (kD k) d)
 | _,_,.nil,_=>.cons rv .nil
 | _,_,.cons (k:=k') (v:=v') r t,hn=>by
  rw [List.map_cons] at hn;obtain ⟨h1,h2⟩:=List.nodup_cons.mp hn;rw [putD,YB];by_cases h:k'=k
  ·subst h;rw [if_pos (by simp),D_ rfl h1];exact .cons rv t
  ·rw [if_neg (by simpa using h),EY h];exact .cons r (E_ rv t h2)
theorem FJ (rv:Rep P H v d):∀{kvs:List (List Key×V)} {ds:List (D×D)},m9 P H kvs ds->(kvs.map (·.1)).Nodup->m9 P H (putK kvs k v) (putD ds (.tup (k.map kD)) d)
 | _,_,.nil,_=>.cons rv .nil
 | _,_,.cons (k:=k') (v:=v') r t,hn=>by
  rw [List.map_cons] at hn;obtain ⟨h1,h2⟩:=List.nodup_cons.mp hn;rw [putD,aEr];by_cases h:k'=k
  ·subst h;rw [if_pos (by simp),D_ rfl h1];exact .cons rv t
  ·rw [if_neg (by simpa using h),EY h];exact .cons r (FJ rv t h2)
theorem gQ.length:∀{kvs:List (Key×V)} {ds:List (D×D)},gQ P H kvs ds->kvs.length=ds.length
 | _,_,.nil=>rfl
 | _,_,.cons _ t=>by rw [List.length_cons,List.length_cons,gQ.length t]
theorem m9.length:∀{kvs:List (List Key×V)} {ds:List (D×D)},m9 P H kvs ds->kvs.length=ds.length
 | _,_,.nil=>rfl
 | _,_,.cons _ t=>by rw [List.length_cons,List.length_cons,m9.length t]
theorem FN {a:Addr} (ha:H a=some ob) (hm:U4 ob=true):U5 (fun _=>False) H (L2.upd H a o):=fun c oc hc h=>by
 rw [aR]
 ·exact hc
 ·intro z;subst z;rcases h with h|h
  ·exact h.elim
  ·rw [ha] at hc;cases hc;rw [hm] at h;cases h
theorem m5 (hd:d.pure=true):∀{ds:List (D×D)},D.aN (ds.map (·.2))=true->D.aN ((putD ds k d).map (·.2))=true
 | [],_=>by simp [putD,D.aN,hd]
 | (q,w)::r,h=>by
  rw [List.map_cons,D.aN,Bool.and_eq_true] at h;rw [putD];split
  ·rw [List.map_cons,D.aN,Bool.and_eq_true];exact ⟨hd,h.2⟩
  ·rw [List.map_cons,D.aN,Bool.and_eq_true];exact ⟨h.1,m5 hd h.2⟩
theorem aL7 {ad:Addr} {y v:V} {ds:List (D×D)} {k d:D} (I:Inv X pins σ H s) (rd:Rep All H (.ref ad) (.dct ds)) (hin:D.aN (ds.map (·.2))=true) (rk:Rep All H y k) (hk:V6 ds k=true) (hl:ds.length<sizeLine) (rv:Rep All H v d) (hd:d.pure=true) :
  ∃H1 o,Inv X pins σ H1 s/\aCv H1 ad y v (L2.upd H ad o)/\U4 o=true/\Rep All (L2.upd H ad o) (.ref ad) (.dct (putD ds k d)):=by
 unfold V6 at hk;rw [Bool.and_eq_true] at hk;obtain ⟨h1,h2⟩:=hk;have rv':Rep (fun _=>False) H v d:=rv.bM hd;cases rd with
 | @dK _ kvs ds e _ r n=>
  have hlen:=r.length;rcases jW h1 rk with ⟨q,rfl,rfl⟩|⟨b,ks,rfl,eb,rfl⟩
  ·refine ⟨H,.dK (putK kvs q v),I,.k e (by lia),rfl,.dK aG trivial ?_ (jY n)⟩;exact (E_ rv' (r.bM hin) n).keep (FN e rfl) fun _ z=>z.elim
  ·cases r with
   | nil=>
    refine ⟨L2.upd H ad (.dT []),.dT (putK [] ks v),mZ I e,?_,rfl,.dT aG trivial ?_ (jY List.nodup_nil)⟩
    ·have:=aCv.t (H:=L2.upd H ad (.dT [])) (a:=ad) (b:=b) (kvs:=[]) (k:=ks) (v:=v) aG (by rw [aR (M6 eb e (by intro z;cases z))];exact eb) hl;rwa [M5] at this
    ·exact (FJ (k:=ks) rv' .nil List.nodup_nil).keep (FN e rfl) fun _ z=>z.elim
   | cons r t=>
    rw [List.all_cons,mY] at h2;simp [isTup] at h2
 | @dT _ kvs ds e _ r n=>
  have hlen:=r.length;rcases jW h1 rk with ⟨q,rfl,rfl⟩|⟨b,ks,rfl,eb,rfl⟩
  ·cases r with
   | nil=>
    refine ⟨L2.upd H ad (.dK []),.dK (putK [] q v),jX I e,?_,rfl,.dK aG trivial ?_ (jY List.nodup_nil)⟩
    ·have:=aCv.k (H:=L2.upd H ad (.dK [])) (a:=ad) (kvs:=[]) (k:=q) (v:=v) aG hl;rwa [M5] at this
    ·exact (E_ (k:=q) rv' .nil List.nodup_nil).keep (FN e rfl) fun _ z=>z.elim
   | cons r t=>
    rw [List.all_cons,mY] at h2;simp [isTup] at h2
  ·refine ⟨H,.dT (putK kvs ks v),I,.t e eb (by lia),rfl,.dT aG trivial ?_ (jY n)⟩;exact (FJ rv' (r.bM hin) n).keep (FN e rfl) fun _ z=>z.elim
theorem RM (hu:X.A.units+20<cLine) (ho:own i=true) (hN:X.N[i]?=some x) (hvi:Vis X.env.scope x) (hk:PE X k (gE fk rk)) (hv:PE X value (gE fv rv))
  (hs:swapsWith value (some (.Subscript (.Name x p1) k pos')) pos.line X.env=pure false:=by rfl) (hd:nDb x:=by decide) (hcd:nCd x:=by decide) :
  PS X (.Assign [.Subscript (.Name x p1) k pos'] value pos) (tS own (aAx i fk fv)):=by
 intro pins s σ H D' I ⟨ρ,fl,E,h,q⟩;obtain ⟨d,h0,h⟩:=bA h;obtain ⟨kd,h1,h2⟩:=bA h;split at h2
 ·rename_i kvs hx;split at h2
  ·rename_i hg;cases h2;simp only [Bool.and_eq_true] at hg;obtain ⟨⟨hg1,hg2⟩,hg3⟩:=hg;obtain ⟨a,o,hσ,r,hin,ha,hm⟩:=E.ownAt ho (by rw [hx];intro z;cases z);rw [hx] at r hin;refine wpAny_Assign_Subscript (thn (hv pins s σ H (fun v H1=>bV H H1/\Rep All H1 v d) I ⟨ρ,d,E.er,h0,fun v H1 s1 r1 _=>⟨s1,r1⟩⟩) fun rr s1 ⟨v,H1,I1,rv1,sm1,rp1⟩=>
    thn (dF hN hvi hd hcd pins s1 σ H1 (fun w H2=>w=.ref a/\H2=H1) I1 ⟨_,hσ,rfl,rfl⟩) fun u s2 ⟨xx,H2,I2,rx,ex,eH⟩=>
    thn (hk pins s2 σ H2 (fun w H3=>bV H2 H3/\Rep All H3 w kd) I2 ⟨ρ,kd,by rw [eH];exact E.er.same sm1,h1,fun v H1 s1 r1 _=>⟨s1,r1⟩⟩) fun iv s3 ⟨y,H3,I3,ry,sm3,rp3⟩=>?_) hs
   subst ex eH;obtain rfl:u=Value.ref a:=rx;have sm:=sm1.trans sm3;obtain ⟨H4,o4,I4,g,hmo,rp⟩:=aL7 I3 (r.same sm) hin rp3 hg2 (X8 hg1) (rp1.same sm3) hg3;obtain ⟨E2,k2⟩:=(E.same sm).mut ho hσ hmo rp (m5 hg3 hin);exact XH (by lia) I4 g ry rv1 fun s4 I5=>⟨σ,_,I5,q _ _ ((KU.same sm).trans k2) E2⟩
  ·exact bx h2
 ·exact bx h2
def TgS (own:Nat->Bool) (g:TG) (t:D->List D->Res (List D)):Prop:=∀(v:V) (d:D) (ρ ρ':List D) (σ:L2.St) (H:Hp) (Q:L2.St->Hp->Prop),ES own H σ ρ->Rep (fun a=>¬Own own σ a) H v d->t d ρ=.ok ρ'->
 (∀σ',ES own H σ' ρ'->(∀a,Own own σ' a↔Own own σ a)->Q σ' H)->g v σ H Q
theorem gY (ho:own i=false):TgS own (xM i) (tg1 i):=fun v d ρ ρ' σ H Q E r h q=>by
 cases h;exact q _ (E.set ho r) fun a=>n8 ho a
theorem ES.sets:∀{is:List Nat} {vs:List V} {ds:List D} {σ:L2.St} {ρ:List D},(∀i∈is,own i=false)->ES own H σ ρ->bG (fun a=>¬Own own σ a) H vs ds->ES own H (lZ is vs σ) (X3 is ds ρ)/\∀a,Own own (lZ is vs σ) a↔Own own σ a
 | [],_,_,_,_,_,E,_=>by simp only [lZ,X3];exact ⟨E,fun _=>trivial⟩
 | i::is,_,_,σ,ρ,h,E,.nil=>by simp only [lZ,X3];exact ⟨E,fun _=>trivial⟩
 | i::is,_,_,σ,ρ,h,E,.cons (v:=v) r t=>by
  have ho:=h i (List.mem_cons_self ..);have hO:(fun a=>¬Own own (σ.set i (some v)) a)=fun a=>¬Own own σ a:=funext fun a=>by rw [n8 ho]
  obtain ⟨h1,h2⟩:=ES.sets (fun j hj=>h j (List.mem_cons_of_mem _ hj)) (E.set ho r) (by rw [hO];exact t);exact ⟨h1,fun a=>(h2 a).trans (n8 ho a)⟩
theorem gZ (K:PySem.W.Frag) (ho:∀i∈is,own i=false):TgS own (aKm K is.length (gIx is)) (tgN is):=fun v d ρ ρ' σ H Q E r h q=>by
 cases d <;> simp only [tgN] at h <;> (try (exact bx h;done))
 split at h
 ·rename_i hl;cases h;have hl':=of_decide_eq_true hl;obtain ⟨a,xs,rfl,e,rr⟩:=r.iM;obtain ⟨h1,h2⟩:=E.sets ho rr;exact ⟨a,xs,rfl,.of e,by rw [rr.length];exact hl',N_ _ _ _ (by rw [rr.length];exact hl') (q _ h1 h2)⟩
 ·exact bx h
theorem ItQ.ku {K:PySem.W.Frag} (h:ItQ K (fun a=>¬Own own σ a) J H items) (k:KU own σ H σ' H') (E:ES own H σ ρ):ItQ K (fun a=>¬Own own σ' a) J H' items:=h.keep' (k.keep E) fun a o e n=>(k a o e n).2
theorem RN {K:PySem.W.Frag} {g:TG} {t:D->List D->Res (List D)} {body:FS} {D':Ends} {J:It} {items:List D} {σ:L2.St} {H1:Hp} {ρ:List D} {fl:Fl} (tg:TgS own g t) (E:ES own H1 σ ρ) (hJ:ItQ K (fun a=>¬Own own σ a) J H1 items) (hf:o8 t body items ρ=.ok fl) (q:kS own D' σ H1 fl) :
  ∃W:Nat->Nat->L2.St->Hp->Prop,(∃m,W 0 m σ H1)/\∀i m σ H,W i m σ H->
   (J.stop i H/\D'.nx σ H)\/(J.go i H/\∃N:L2.St->Hp->Prop,(∀σ' H',N σ' H'->∃m',m'<m/\W (i+1) m' σ' H')/\∀x H',J.yld i H x H'->g x σ H' fun σ2 H2=>tS own body {D' with nx:=N,ct:=N,bk:=D'.nx} σ2 H2):=by
 refine ⟨fun i m σ' H'=>m=items.length-i/\i<=items.length/\ItQ K (fun a=>¬Own own σ' a) J H' items/\∃ρ',ES own H' σ' ρ'/\o8 t body (items.drop i) ρ'=.ok fl/\kS own D' σ' H' fl,⟨items.length,rfl,Nat.zero_le _,hJ,ρ,E,hf,q⟩,?_⟩;rintro i m σ' H' ⟨rfl,hi,hJ',ρ',E',hf',q'⟩;rcases Nat.lt_or_ge i items.length with hlt|hge
 ·refine .inr ?_;have e:items[i]?=some items[i]:=List.getElem?_eq_getElem hlt;obtain ⟨g1,g2⟩:=hJ'.go e;rw [List.drop_eq_getElem_cons hlt] at hf';obtain ⟨ρ1,h1,hf2⟩:=bA hf';obtain ⟨r,h2,hf3⟩:=bA hf2;refine ⟨g1,fun σ2 H2=>ItQ K (fun a=>¬Own own σ2 a) J H2 items/\∃ρ',ES own H2 σ2 ρ'/\o8 t body (items.drop (i+1)) ρ'=.ok fl/\kS own D' σ2 H2 fl,fun σ2 H2 ⟨n1,n2⟩=>⟨items.length-(i+1),by lia,rfl,hlt,n1,n2⟩,fun x H2 hy=>?_⟩;obtain ⟨sH,rx⟩:=g2 x H2 hy;have ks:KU own σ' H' σ' H2:=fun a o e n=>⟨sH a o e,n⟩
  have hJ':=hJ'.ku ks E';have q':=q'.step ks;have E':=E'.same sH;refine tg x items[i] ρ' ρ1 σ' H2 _ E' rx h1 fun σ2 E2 hO=>?_
  have k0:KU own σ' H2 σ2 H2:=fun a o e n=>⟨e,by rw [hO];exact n⟩
  have hJ2:=hJ'.ku k0 E';have q2:=q'.step k0;refine ⟨ρ1,r,E2,h2,?_⟩;cases r with
  | nx ρ2=>exact fun σ3 H3 k3 E3=>⟨hJ2.ku k3 E2,ρ2,E3,hf3,q2.step k3⟩
  | ct ρ2=>exact fun σ3 H3 k3 E3=>⟨hJ2.ku k3 E2,ρ2,E3,hf3,q2.step k3⟩
  | bk ρ2=>cases hf3;exact fun σ3 H3 k3 E3=>q2 σ3 H3 k3 E3
  | rt d=>cases hf3;exact q2
 ·refine .inl ⟨hJ'.stop hge,?_⟩;rw [List.drop_eq_nil_of_le hge] at hf';cases hf';exact q' σ' H' (fun a o e n=>⟨e,n⟩) E'
theorem gF {tg iter:Expr} {body:List Stmt} {g:TG} {t:D->List D->Res (List D)} {it:FI} {fb:FS} (hp:PassesOwn (model X.prog X.w) X.A X.env X.xe) (hc:X.calm=true) (hi:PI X tg iter (gI X.K it)) (ht:TgS own g t) (hg:PG X tg g) (hb:PSs X body (tS own fb))
  (hs:∀x,foldedSetIterable iter X.env x=pure x:=by intro _;rfl):PS X (.For tg iter body [] pos) (tS own (zP it t fb)):=PS.imp (aCr hp hc hi hg hb hs) fun D' σ H ⟨ρ,fl,E,h,q⟩=>by
 obtain ⟨⟨items,k⟩,h1,h2⟩:=bA h;split at h2
 ·rename_i hk;exact ⟨ρ,items,k,E.er,h1,fun J H1 s1 _ hJ=>RN ht (E.same s1) ((hJ hk).keep (fun _ _ e _=>e) fun a ha ho=>by
   obtain ⟨o,e1,_⟩:=E.live ho;rw [show H a=none from ha] at e1;cases e1) h2 (q.step (.same s1))⟩
 ·exact bx h2
theorem yJ {g:TG} {t:D->List D->Res (List D)} {i:Nat} {x:Str} {px:Pos} {fb:FS} (ho:own i=false) (hp:PassesOwn (model X.prog X.w) X.A X.env X.xe) (hc:X.calm=true) (hN:X.N[i]?=some x) (hv:Vis X.env.scope x) (ht:TgS own g t) (hg:PG X tg g) (hb:PSs X body (tS own fb))
  (hs:∀z,foldedSetIterable (.Name x px) X.env z=pure z:=by intro _;rfl) (hd:nDb x:=by decide) (hcd:nCd x:=by decide):PS X (.For tg (.Name x px) body [] pos) (tS own (yD i t fb)):=PS.imp (aCr hp hc (aI7 hN hv hd hcd) hg hb hs) fun D' σ H ⟨ρ,fl,E,h,q⟩=>by
 obtain ⟨d,h1,h⟩:=bA h;obtain ⟨items,h2,h3⟩:=bA h;obtain ⟨v,hv,r,e⟩:=E.er.var h1;have hne:ρ.getD i .uD≠.uD:=fun z=>by
  rw [z] at e;subst e;exact Rep.uD r
 obtain ⟨w,hw,hr⟩:=E.at_ i hne;rw [hv] at hw;cases hw;have r2:=hr ho;rw [e] at r2;exact ⟨v,d,items,hv,r,h2,fun J hJ=>RN ht E (hJ _ r2) h3 q⟩
theorem RP {N ps:List Str} (hst:start N vs=vs.map some++List.replicate (N.length-ps.length) none) (hl:ds.length=ps.length) (r:bG All H vs ds) (hown:∀i,i<ps.length->own i=false) (noown:∀a,¬Own own (start N vs) a):ES own H (start N vs) (ds++List.replicate (N.length-ps.length) .uD):=by
 refine ⟨by rw [hst];simp [r.length],fun i hi=>?_,fun i v hi hv=>?_⟩
 ·have hlt:i<ds.length:=Nat.lt_of_not_le fun hge=>hi (by
   rw [List.getD_eq_getElem?_getD,List.getElem?_append_right hge,List.getElem?_replicate];split <;> rfl)
  have e:(ds++List.replicate (N.length-ps.length) D.uD).getD i .uD=ds[i]:=by
   rw [List.getD_eq_getElem?_getD,List.getElem?_append_left hlt,List.getElem?_eq_getElem hlt];rfl
  obtain ⟨v,g1,g2⟩:=r.get (i:=i) (d:=ds[i]) (by simp [hlt]);refine ⟨v,by rw [hst,List.getElem?_append_left (by simp [r.length,hlt])];simp [g1],fun _=>?_⟩;rw [e];exact g2.mono fun a _=>noown a
 ·exfalso;rw [hst] at hv;by_cases h:i<ps.length
  ·rw [hown i h] at hi;cases hi
  ·rw [List.getElem?_append_right (by simp [r.length,hl];lia)] at hv;rw [List.getElem?_replicate] at hv;split at hv <;> cases hv
theorem YH {N ps:List Str} {f:FS} {vs:List V} {H:Hp} {Q:VK} {E:XK} (hx:own rtX=false) (hown:∀i,i<ps.length->own i=false) (h0:spD (fnS ps.length N.length f) ps.length vs H Q E):tS own f {nx:=fun _ H'=>Q .non H',rt:=Q} (start N vs) H:=by
 obtain ⟨ds,d,hl,r,h,q⟩:=h0
 ·obtain ⟨fl,h1,h2⟩:=bA h;have hst:start N vs=vs.map some++List.replicate (N.length-ps.length) none:=by
   show vs.map some++List.replicate (N.length-vs.length) none=_;rw [r.length,hl]
  have noown:∀a,¬Own own (start N vs) a:=fun a ⟨i,hi,e⟩=>by
   rw [hst] at e;by_cases h:i<ps.length
   ·rw [hown i h] at hi;cases hi
   ·rw [List.getElem?_append_right (by simp [r.length,hl];lia)] at e;rw [List.getElem?_replicate] at e;split at e <;> cases e
  have E0:ES own H (start N vs) (ds++List.replicate (N.length-ps.length) .uD):=RP hst hl r hown noown;refine ⟨_,fl,E0,h1,?_⟩;have sm:∀{σ':L2.St} {H':Hp},KU own (start N vs) H σ' H'->bV H H':=fun k a o e=>(k a o e (noown a)).1
  cases fl with
  | nx ρ'=>cases h2;exact fun σ' H' k E'=>q .non H' (sm k) .non fun _=>.non
  | rt d'=>
   cases h2;refine kRt.mk hx fun v H' hk rp=>q v H' (fun a o e=>hk a o e (noown a)) rp.all fun _=>rp.mono fun a ha=>?_
   rcases ha with ha|ha
   ·exact absurd ha (noown a)
   ·exact ha
  | bk ρ'=>exact bx h2
  | ct ρ'=>exact bx h2
theorem YJ {w:World} {K:PySem.W.Frag} {mg:Str->Option Value} {base:Heap} {x qual:Str} {st:Stmt} {fad:Addr} {fd:FuncData} {N ps:List Str} {k:Nat} {f:FS} (F:Fun K x qual st fad fd) (S:bL N ps (aK st)) (own:Nat->Bool) (hown:∀i,i<ps.length->own i=false) (hNl:ps.length<=N.length)
  (hbody:∀(cdv:Value) (A:Around) (outer:List Env) (s:Shared) (H:Hp) (E:XK),iI k (A.deeper (envOfC qual (aK st) s.heap.objs.size fad cdv))->PSs (CG CX0 P w K mg base N qual (aK st) fad cdv A outer s H E).nox (cN st) (tS own f)) (hx:own rtX=false:=by rfl):jQ P w K mg base CX0 (k+1) fad fd ps (spD (fnS ps.length N.length f) ps.length):=
 F.ok S (fun vs H Q E h=>aEt h) fun cdv A outer s H vs Q E hr h=>⟨_,hbody cdv A outer s H E hr,YH hx hown h⟩
end
end
variable [KFrag]
structure aL8 where
 s₀:Shared
 H₀:Hp
 env:Env
 outer:List Env
 stack:List Env
 ex:List Addr
 fn:Str->Bool
 pn:List (Addr×Obj)
abbrev mkC (X:Cx) (scope:Scope) (ownN:List Str) (y:aL8):Cx:=
 {X with N:=X.N.map (kW ownN)++ownN,s₀:=y.s₀,H₀:=y.H₀,env:={y.env with scope:=relabel scope X.env},outer:=y.outer,stack:=y.stack,ex:=y.ex,fn:=y.fn,pn:=y.pn,xe:=fun _ _=>False}
theorem nG (cc:cW X X' scope ownN):∃y,X'=mkC X scope ownN y:=by
 refine ⟨⟨X'.s₀,X'.H₀,X'.env,X'.outer,X'.stack,X'.ex,X'.fn,X'.pn⟩,?_⟩;obtain ⟨h1,h2,h3,h4,h5,h6,h7,h8,h9,h10⟩:=cc;cases X' with
 | mk a b c d e f g h i j k l m n o p q=>
  cases j;dsimp only at *;subst h1 h2 h3 h4 h5 h6 h7 h8 h9 h10;rfl
section
theorem wZ (S:dH X.N X.env.scope scope ownN) (hn:X.N.length=n) (hm:ownN.length=m) (hcalm:X.calm=true) (hi:PI X tg iter (gI X.K it)) (ht:TgC g t n m) (hg:∀y,PG (mkC X scope ownN y) tg g) (he:∀y,PE (mkC X scope ownN y) elt (gE fe re))
  (hs:∀x,foldedSetIterable iter X.env x=pure x):PE X (.ListComp elt [⟨tg,iter,[],0⟩] scope pos) (gE (gC n it t jU fe re) true):=
 aEv S hn hm hcalm hi ht (fun X' cc=>by obtain ⟨y,rfl⟩:=nG cc;exact hg y) (fun X' cc=>by obtain ⟨y,rfl⟩:=nG cc;exact he y) hs
theorem sI (S:dH X.N X.env.scope scope ownN) (hn:X.N.length=n) (hm:ownN.length=m) (hcalm:X.calm=true) (hi:PI X tg iter (gI X.K it)) (ht:TgC g t n m) (hg:∀y,PG (mkC X scope ownN y) tg g) (hc:∀y,PT (mkC X scope ownN y) c (gT gc)) (he:∀y,PE (mkC X scope ownN y) elt (gE fe re))
  (hs:∀x,foldedSetIterable iter X.env x=pure x):PE X (.ListComp elt [⟨tg,iter,[c],0⟩] scope pos) (gE (gC n it t gc fe re) true):=
 YF S hn hm hcalm hi ht (fun X' cc=>by obtain ⟨y,rfl⟩:=nG cc;exact hg y) (fun X' cc=>by obtain ⟨y,rfl⟩:=nG cc;exact hc y) (fun X' cc=>by obtain ⟨y,rfl⟩:=nG cc;exact he y) hs
theorem aB7 (S:dH X.N X.env.scope scope ownN) (hn:X.N.length=n) (hm:ownN.length=m) (hcalm:X.calm=true) (hi:PI X tg iter (gI X.K it)) (ht:TgC g t n m) (hg:∀y,PG (mkC X scope ownN y) tg g) (he:∀y,PE (mkC X scope ownN y) elt (gE fe re))
  (hs:∀x,foldedSetIterable iter X.env x=pure x) (ho:own iy=o) (hNn:X.N.Nodup) (hiy:X.N[iy]?=some y) (hxy:Loc X.env.scope y) (hfy:X.fn y=true\/X.env.scope.names.lookup y=some .local) (hsw:swapsWith (.ListComp elt [⟨tg,iter,[],0⟩] scope pos) (some (.Name y py)) pos2.line X.env=pure true) :
  PS X (.Assign [.Name y py] (.ListComp elt [⟨tg,iter,[],0⟩] scope pos) pos2) (tS own (cG o iy (gC n it t jU fe re) true)):=
 aEy S hn hm hcalm hi ht (fun X' cc=>by obtain ⟨y,rfl⟩:=nG cc;exact hg y) (fun X' cc=>by obtain ⟨y,rfl⟩:=nG cc;exact he y) hs ho hNn hiy hxy hfy hsw
end
def eO (P:Program) (w:World) (K:PySem.W.Frag) (mg:Str->Option Value) (base:Heap) (k:Nat) (x:Str) (n:Nat) (f:List D->Res D):Prop:=
 ∃(fad:Addr) (fd:FuncData) (ps:List Str),jQ P w K mg base CX0 k fad fd ps (spD f n)/\mg x=some (.ref fad)/\PySem.W.keepIn K (.ref fad)=true/\Binds K fd ps []
section
theorem bR (C:eO X.prog X.w X.K X.mg X.base k x n f) (hr:iI k' X.A) (hkk:k<=k') (hg:Gl X x) (ha:PA X (e::es) (gA fs rr)) (hdb:nDb x:=by decide) (he:starEach (e::es) X.env=(false,eval e X.env)::starEach es X.env:=by rfl) (hpl:(backTo pos (starEach es X.env)).any (·.1)=false:=by rfl) :
  PE X (.Call (.Name x p) (e::es) [] pos) (gE (aY (dO n f) fs) true):=by
 obtain ⟨fad,fd,ps,F,hm,hk,hb⟩:=C;exact aEu F (hr.mono hkk) hg hm hk hb ha hdb he hpl
theorem jZ {K:PySem.W.Frag} {st:Stmt} {fad:Addr} {fd:FuncData} {N ps:List Str} {fs:FS} (F:Fun K x x st fad fd) (hm:mg x=some (.ref fad)) (hb:Binds K fd ps []) (S:bL N ps (aK st)) (own:Nat->Bool) (hown:∀i,i<ps.length->own i=false) (hNl:ps.length<=N.length)
  (hbody:∀(cdv:Value) (A:Around) (outer:List Env) (s:Shared) (H:Hp) (E:XK),iI k (A.deeper (envOfC x (aK st) s.heap.objs.size fad cdv))->PSs (CG CX0 P w K mg base N x (aK st) fad cdv A outer s H E).nox (cN st) (tS own fs)) (hx:own rtX=false:=by rfl):eO P w K mg base (k+1) x ps.length (fnS ps.length N.length fs):=
 ⟨fad,fd,ps,YJ F S own hown hNl hbody hx,hm,F.kp,hb⟩
end
theorem yK (hr:iI k A):A.units+20<cLine:=Nat.lt_of_le_of_lt (Nat.add_le_add_left (by decide:20<=64) _) hr.units
structure Bt (mg:Str->Option Value):Prop where
 len:mg "len" = none
 min:mg "min" = none
 max:mg "max" = none
 list:mg "list" = none
 tuple:mg "tuple" = none
 sorted:mg "sorted" = none
 range:mg "range" = none
 isi:mg "isinstance" = none
 int:mg "int" = none
 bool:mg "bool" = none
 str:mg "str" = none
 dict:mg "dict" = none
 all:mg "all" = none
 enum:mg "enumerate" = none
 sum:mg "sum" = none
 zip:mg "zip" = none
 abs:mg "abs" = none
 reversed:mg "reversed" = none
theorem fK:bootBuiltins "len" = some (.builtin "len"):=by decide +kernel
theorem fL:bootBuiltins "isinstance" = some (.builtin "isinstance"):=by decide +kernel
theorem sJ:bootBuiltins "list" = some (.type "list"):=by decide +kernel
theorem k_:bootBuiltins "tuple" = some (.type "tuple"):=by decide +kernel
theorem aIa:bootBuiltins "int" = some (.type "int"):=by decide +kernel
theorem aEz:bootBuiltins "bool" = some (.type "bool"):=by decide +kernel
theorem aD3:bootBuiltins "str" = some (.type "str"):=by decide +kernel
theorem ints_rep:∀ns:List Int,bG P H (ns.map V.int) (ns.map D.int)
 | []=>.nil
 | n::ns=>.cons (.int n) (ints_rep ns)
end Mi
namespace Mi
open PySem L2
theorem YK {ns:List Int} {E:XK} (main:∀ns:List Int,ns.length<=63->f [.scr (ns.map D.int)]=.ok (.bl true)) (hl:ns.length<=63) (hO:Only H) (hS:SqL K H a (ns.map V.int)):@spD ⟨K⟩ f 1 [.ref a] H (fun v _=>v=.bl true) E:=by
 letI:KFrag:=⟨K⟩
 refine ⟨[.scr (ns.map D.int)],.bl true,rfl,.cons (.frz ?_ (ints_rep ns)) .nil,main ns hl,fun v H' s r n=>by cases r.inv;rfl⟩;rcases hS with (h|⟨o,h⟩)|h
 ·rcases hO a with z|⟨o,xs,z⟩
  ·rw [h] at z;cases z
  ·rw [h] at z;cases z
 ·exact .inl ⟨o,h⟩
 ·exact .inr h
open PySem.SeqAt PySem.Spec PyProof.Rows
def sO:D->D->Res D
 | .str x,.int n=>if decide (0<=n)&&decide (n<=100000)&&decide (x.length*n.toNat<=lim) then .ok (.str (Txt.mul x n)) else .bad
 | a,b=>aX .mul a b
def aIb:D->Option Int->Option Int->Res D
 | .str x,lo,hi=>if decide (x.length<=lim) then .ok (.str (Txt.slice x lo hi)) else .bad
 | d,lo,hi=>aK8 d lo hi
def m_ (a:FE) (lo hi:List D->Res (Option Int)):FE:=fun ρ=>do let x <- a ρ;let l <- lo ρ;let h <- hi ρ;aIb x l h
def JN:D->Res (List D)
 | .str x=>if decide (x.length<=lim) then .ok (JL x) else .bad
 | d=>x_ d
def cF (a:FE) (fr:Bool):FI:=fun ρ=>do let x <- a ρ;let xs <- JN x;pure (xs,fr||x.pure)
variable [KFrag]
section
variable {X:Cx}
theorem lA:OpR X (binaryOp .Mult) (r2 sO true):=by
 intro pins s σ H x y v u Q I rx ry ⟨a,b,d,p,q,e,k⟩;by_cases hs:∃z n,a=.str z/\b=.int n
 ·obtain ⟨z,n,rfl,rfl⟩:=hs;simp only [sO] at e;split at e
  ·rename_i hl;cases e;simp only [Bool.and_eq_true,decide_eq_true_eq] at hl;obtain ⟨⟨h0,h1⟩,h2⟩:=hl;cases p.inv;cases q.inv;obtain ⟨t,rfl⟩:=rx;obtain ⟨t',rfl⟩:=ry;have hz:z.length*n.toNat<=sizeLine:=Nat.le_trans h2 (by rw [sizeLine_eq];decide);refine SB.mul ⟨?_,fun h3 _=>?_,fun _ _=>?_⟩ fun t2 k2=>⟨.str _,H,I.tok k2,⟨t2,rfl⟩,k.str⟩
   ·rw [decide_eq_false (by lia),decide_eq_false (by lia)];rfl
   ·have hn:0<n:=by lia
    have h4:(z.length:Int)*n<=2 ^ 63-1:=by
     have h5:((z.length*n.toNat:Nat):Int)<=1000000:=by
      have:lim=1000000:=by unfold lim;exact Eq.refl _
      lia
     rw [Int.natCast_mul,Int.toNat_of_nonneg h0] at h5;lia
    have h6:=(Int.le_ediv_iff_mul_le hn).mpr h4;lia
   ·unfold Builtin.Str.tooLong;exact decide_eq_false (by lia)
  ·exact bx e
 ·have he:sO a b=aX .mul a b:=by
   unfold sO;split
   ·exact absurd ⟨_,_,rfl,rfl⟩ hs
   ·rfl
  rw [he] at e;exact aI2 pins s σ H x y v u Q I rx ry ⟨a,b,d,p,q,e,k⟩
theorem part_of (h:IsPart v o):∃l:Option (Int×Tok),partValue l=v/\l.map (·.1)=o:=by
 cases h with
 | none=>exact ⟨none,rfl,rfl⟩
 | int i t=>exact ⟨some (i,t),rfl,rfl⟩
theorem aIc (hK:KFrag.K=X.K):SlR X (fun x lo hi H Q=>∃a d,Rep All H x a/\aIb a lo hi=.ok d/\kR H d true Q):=by
 intro pins s σ H x v vl vu lo hi sl Q I rx hs pl pu ⟨a,d,p,e,k⟩;by_cases hz:∃z,a=.str z
 ·obtain ⟨z,rfl⟩:=hz;simp only [aIb] at e;split at e
  ·rename_i hl;cases e;cases p.inv;obtain ⟨t,rfl⟩:=rx;obtain ⟨l,e1,e2⟩:=part_of pl;obtain ⟨m,e3,e4⟩:=part_of pu;subst e1 e2 e3 e4;refine ⟨"str",_,F.slot_str_getitem.lookup,typeIs_str _ _ _,?_⟩;obtain ⟨o,ho,hc,hd⟩:=hs;refine wpAny_getItem_str_slice (st:=none) ⟨o,ho,hc,hd⟩ rfl ?_;have hle:(Txt.slice z (l.map (·.1)) (m.map (·.1))).length<=sizeLine:=Nat.le_trans (Txt.slice_le ..) (mX hl);have q:∀(t':Tok) (k2:Nat),EP X pins σ Q (.str (Txt.slice z (l.map (·.1)) (m.map (·.1))) t') {s with toks:=k2}:=fun t' k2=>⟨.str _,H,I.tok k2,⟨t',rfl⟩,k.str⟩
   show Made.post (if ((1:Int)==1&&(Builtin.Str.strSliceIndices (l.map (·.1)) (m.map (·.1)) 1 z.length).length==z.length)=true then .val (.str z t) else .str ⟨((Builtin.Str.strSliceIndices (l.map (·.1)) (m.map (·.1)) 1 z.length).filterMap (z.cps[·]?)).toArray⟩) _ s;unfold Txt.slice at hle q;split
   ·rename_i hh;have:=q t s.toks;rw [if_pos hh] at this;exact this
   ·rename_i hh;rw [if_neg hh] at hle;have:=q s.toks (s.toks+1);rw [if_neg hh] at this;exact ⟨hle,this⟩
  ·exact bx e
 ·have he:aIb a lo hi=aK8 a lo hi:=by
   unfold aIb;split
   ·exact absurd ⟨_,rfl⟩ hz
   ·rfl
  rw [he] at e;exact aL4 hK pins s σ H x v vl vu lo hi sl Q I rx hs pl pu ⟨a,d,p,e,k⟩
theorem mD {lo hi:Option Expr} {p2:Pos} {fl fh:List D->Res (Option Int)} (hK:KFrag.K=X.K) (he:PE X e (gE fe re)) (hl:PO X lo (gO fl)) (hh:PO X hi (gO fh)):PE X (.Subscript e (.Slice lo hi none p2) pos) (gE (m_ fe fl fh) true):=
 PE.imp (aAp (aIc hK) he hl hh) fun σ H Q ⟨ρ,d,E,h,q⟩=>by
  obtain ⟨x,h1,h⟩:=bA h;obtain ⟨l,h2,h⟩:=bA h;obtain ⟨u,h3,h⟩:=bA h;exact ⟨ρ,x,E,h1,fun v H1 s1 r1 _=>⟨ρ,l,E.same s1,h2,fun H2 s2=>⟨ρ,u,E.same (s1.trans s2),h3,fun H3 s3=>⟨x,d,r1.same (s2.trans s3),h,q.imp ((s1.trans s2).trans s3) id⟩⟩⟩⟩
theorem aB8 {K:PySem.W.Frag} (x:Str) (t:Tok) (it:Addr):Turn P w K tg (aL5 x) [it] it (fun i h=>h.IsStrIter it (strIterType x) x t i) where
 mem:=by simp
 obj:=fun i h st b hb=>by
  have e:b=it:=by simpa using hb
  subst e;obtain ⟨o,e,c,d⟩:=st;exact ⟨o,e,fun v z=>by rw [d] at z;cases z⟩
 keep:=fun i h h' st k=>by
  obtain ⟨o,e,r⟩:=st;exact ⟨o,k it (by simp) o e,r⟩
 item:=by
  intro Y hP hw hK hc i pins s σ H E I hf st hg;subst hP hw hK;obtain ⟨f0,f1,f2,f3,f4,f5⟩:=hf it (by simp);have hx:x.cps[i]?=some x.cps[i]:=Array.getElem?_eq_getElem hg;have fin:∀(h':Heap) (ty:String),(["enumerate", "zip", "dict_itemiterator", "dict_reverseitemiterator", "odict_iterator", "itertools.zip_longest", "itertools.pairwise"].contains ty=false)->strIterType x=ty->h'.IsStrIter it ty x t (i+1)->Heap.SameBut it s.heap h'->
    ∃u,some (Value.str ⟨#[x.cps[i]]⟩ s.toks)=some u/\wpAny (model Y.prog Y.w) Y.A (letOwnedTupleGo tg (.ref it) u) (fun _ s2=>∃v H',Inv Y pins σ H' s2/\RelV v u/\(aL5 x).yld i H v H'/\s2.heap.IsStrIter it (strIterType x) x t (i+1)/\∀b∈[it],H' b=none) E {s with heap:=h',toks:=s.toks+1}:=by
   intro h' ty hn hty st' sb;have I1:Inv Y pins σ H {s with heap:=h',toks:=s.toks+1}:=I.turned (fun b o hb e=>(sb.2 b hb).trans e) f0 f1 f3 f4 f5;obtain ⟨o,e,c,d⟩:=id st';exact ⟨_,rfl,WQ e c d hn ⟨.str ⟨#[x.cps[i]]⟩,H,I1,⟨_,rfl⟩,⟨rfl,_,hx,rfl⟩,by rw [hty];exact st',fun b hb=>(hf b hb).1⟩⟩
  cases ha:x.cps.all (·<128)
  ·have hty:strIterType x = "str_iterator":=by simp [strIterType,ha]
   rw [hty] at st;exact wpAny_pyNext_wide_item st hx fun h' st' sb=>fin h' _ (by decide) hty st' sb
  ·have hty:strIterType x = "str_ascii_iterator":=by simp [strIterType,ha]
   rw [hty] at st;exact wpAny_pyNext_ascii_item st hx fun h' st' sb=>fin h' _ (by decide) hty st' sb
 done:=by
  intro Y hP hw hK hc i pins s σ H E I hf st hg;subst hP hw hK;obtain ⟨f0,f1,f2,f3,f4,f5⟩:=hf it (by simp);have hx:x.cps[i]?=none:=Array.getElem?_eq_none hg;cases ha:x.cps.all (·<128)
  ·have hty:strIterType x = "str_iterator":=by simp [strIterType,ha]
   rw [hty] at st;exact wpAny_pyNext_wide_end (I.ok.hd hc) st hx fun h' eb=>⟨rfl,I.turned (fun b o hb e=>eb b o hb e) f0 f1 f3 f4 f5⟩
  ·have hty:strIterType x = "str_ascii_iterator":=by simp [strIterType,ha]
   rw [hty] at st;exact wpAny_pyNext_ascii_end (I.ok.hd hc) st hx fun h' eb=>⟨rfl,I.turned (fun b o hb e=>eb b o hb e) f0 f1 f3 f4 f5⟩
 self:=fun _ _ _ _ _ st h=>by
  cases ha:x.cps.all (·<128)
  ·have hty:strIterType x = "str_iterator":=by simp [strIterType,ha]
   rw [hty] at st;exact wpAny_pyIter_striter_wide st h
  ·have hty:strIterType x = "str_ascii_iterator":=by simp [strIterType,ha]
   rw [hty] at st;exact wpAny_pyIter_striter_ascii st h
section
variable {tg l:Expr}
theorem YL (I1:Inv X pins σ H1 s1) (r:Rep All H1 v d) (ru:RelV v u) (hi:JN d=.ok items)
  (q:∀J,(∀P:Addr->Prop,Rep P H1 v d->ItQ X.K P J H1 items)->R J H1):wpAny (model X.prog X.w) X.A (pyIter u) (PIE X pins σ tg R) X.xe s1:=by
 by_cases hz:∃z,d=.str z
 ·obtain ⟨z,rfl⟩:=hz;simp only [JN] at hi;split at hi
  ·cases hi;cases r.inv;obtain ⟨t,rfl⟩:=ru;refine wpAny_pyIter_strU ?_;refine ⟨s1.heap.objs.size,[s1.heap.objs.size],_,_,H1,rfl,I1.kept fun b o e=>Heap.get?_push_of_some _ e,aB8 z t _,⟨_,Heap.get?_push_size _ rfl,rfl,rfl⟩,fun b hb=>?_,q _ fun P r=>.chs z rfl rfl⟩;have e:b=s1.heap.objs.size:=by simpa using hb
   subst e;exact I1.aGl (Nat.le_refl _) (I1.hok.fresh (Nat.le_refl _))
  ·exact bx hi
 ·have he:JN d=x_ d:=by
   unfold JN;split
   ·exact absurd ⟨_,rfl⟩ hz
   ·rfl
  rw [he] at hi;exact RJ I1 r ru hi q
theorem g8 (hl:PE X l (gE fl rl)):PI X tg l (gI X.K (cF fl rl)):=by
 intro pins s σ H R I ⟨ρ,items,k,E,h,q⟩;obtain ⟨d,h1,h⟩:=bA h;obtain ⟨its,h2,h⟩:=bA h;cases h;refine thn (hl pins s σ H _ I ⟨ρ,d,E,h1,fun v H1 s1 r1 n1=>(show (∃d',Rep All H1 v d/\d'=d/\∀J,(∀P:Addr->Prop,Rep P H1 v d->ItQ X.K P J H1 items)->R J H1) from ⟨d,r1,rfl,fun J hJ=>q J H1 s1 (hJ _ r1) fun hk=>hJ _ ?_⟩)⟩) fun u s1 ⟨v,H1,I1,ru,d',r1,e,q1⟩=>YL I1 r1 ru h2 q1
 rw [Bool.or_eq_true] at hk;rcases hk with hk|hk
 ·exact n1 hk
 ·exact r1.bM hk
end
end
end Mi
namespace Mi
open PySem L2
theorem bN:lim=1000000:=by unfold lim;exact Eq.refl _
theorem JP (h:ρ.length=n):MK n ρ=ρ:=by
 subst h;apply List.ext_getElem
 ·simp [MK]
 ·intro i h1 h2;simp [MK,h2]
theorem eQ (h:ds.length=n):dO n f ds=f ds:=by
 unfold dO;rw [if_pos (by simp [h])]
theorem aM (h1:a ρ=.ok x) (h2:b ρ=.ok y) (h3:f x y=.ok z):b2 f a b ρ=.ok z:=by
 unfold b2;rw [h1,Res.aW,h2,Res.aW,h3]
theorem bO (h:f ρ=.ok d):cG false i f true ρ=.ok (.nx (ρ.set i d)):=by
 unfold cG;rw [h,Res.aW];rfl
theorem OJ (h:f ρ=.ok d) (hp:d.pure=true):cG false i f false ρ=.ok (.nx (ρ.set i d)):=by
 unfold cG;rw [h,Res.aW];simp only [hp,Bool.false_or,Bool.false_eq_true,if_false,if_true]
theorem iQ (h:f ρ=.ok d) (hp:inner d=true):cG true i f true ρ=.ok (.nx (ρ.set i d)):=by
 unfold cG;rw [h,Res.aW];simp only [hp,Bool.and_self,if_true]
theorem aL (h1:f ρ=.ok (.nx ρ')) (h2:g ρ'=r):bH f g ρ=r:=by
 unfold bH;rw [h1,Res.aW];exact h2
theorem aIe (h1:c ρ=.ok k) (h2:(if k then f ρ else g ρ)=r):sIf c f g ρ=r:=by
 unfold sIf;rw [h1,Res.aW];exact h2
theorem MN (h1:c ρ=.ok true) (h2:f ρ=r):sIf c f g ρ=r:=aIe h1 (by rw [if_pos rfl];exact h2)
theorem nA (h1:c ρ=.ok false) (h2:g ρ=r):sIf c f g ρ=r:=aIe h1 (by rw [if_neg (by simp)];exact h2)
theorem fU (h1:f ρ=.ok (.bl k)):bTB f ρ=.ok k:=by
 unfold bTB;rw [h1,Res.aW];rfl
theorem aF (h1:a ρ=.ok x) (h2:b ρ=.ok xs):aC a b ρ=.ok (x::xs):=by
 unfold aC;rw [h1,Res.aW,h2,Res.aW];rfl
theorem a_ (h1:a ρ=.ok xs) (h2:f xs=.ok d):aY f a ρ=.ok d:=by
 unfold aY;rw [h1,Res.aW,h2]
theorem CP (h:a ρ=.ok xs) (hl:xs.length<=lim):eZ a ρ=.ok (.tup xs):=by
 unfold eZ;rw [h,Res.aW,if_pos (decide_eq_true hl)];rfl
theorem iD (h:f ρ=.ok d) (hp:(k||d.pure)=true):kO f k ρ=.ok (.rt d):=by
 unfold kO;rw [h,Res.aW,if_pos hp]
theorem fV (h1:it ρ=.ok (xs,true)) (h2:o8 t body xs ρ=r):zP it t body ρ=r:=by
 unfold zP;rw [h1,Res.aW];exact h2
theorem yL (h1:h_ i ρ=.ok d) (h2:x_ d=.ok xs) (h3:o8 t body xs ρ=r):yD i t body ρ=r:=by
 unfold yD;rw [h1,Res.aW,h2,Res.aW];exact h3
theorem JQ (h:f ρ=.ok [.int n]) (h1:0<=n) (h2:n<=1000000):jJ f iV ρ=.ok ((List.range n.toNat).map fun (k:Nat)=>D.int (0+(k:Int)),true):=by
 unfold jJ;rw [h,Res.aW];have:xY n=true:=by
  simp only [xY,Bool.and_eq_true,decide_eq_true_eq];lia
 simp only [iV,this,if_true]
theorem RQ (h1:g ρ=.ok d) (h2:f ρ=.ok k) (h3:ρ.getD i .uD=.dct kvs) (h4:kvs.length<lim) (h5:V6 kvs k=true) (h6:d.pure=true):aAx i f g ρ=.ok (.nx (ρ.set i (.dct (putD kvs k d)))):=by
 unfold aAx;rw [h1,Res.aW,h2,Res.aW,h3];simp only [decide_eq_true h4,h5,h6,Bool.and_self,if_true]
theorem nH (h1:f ρ=.ok d) (h3:ρ.getD i .uD=.lst xs) (h4:xs.length<lim) (h5:d.pure=true):nW i f ρ=.ok (.nx (ρ.set i (.lst (xs++[d])))):=by
 unfold nW;rw [h1,Res.aW,h3];simp only [decide_eq_true h4,h5,Bool.and_self,if_true]
theorem bZ (h1:t x ρ=.ok ρ1) (h2:body ρ1=.ok (.nx ρ2)) (h3:o8 t body xs ρ2=r):o8 t body (x::xs) ρ=r:=by
 rw [o8,h1,Res.aW,h2,Res.aW];exact h3
theorem aF0 (L:List D) (i:Int) (h0:0<=i) (h1:i<L.length):∃(h:i.toNat<L.length),getD (.lst L) (.int i)=.ok L[i.toNat]:=by
 have hlt:i.toNat<L.length:=by lia
 refine ⟨hlt,?_⟩;show Res.ofOpt ((ixD L.length i).bind fun j=>L[j]?)=_;unfold ixD;rw [if_pos h0,if_pos h1];simp only [Option.bind_some];rw [List.getElem?_eq_getElem hlt];rfl
theorem O3 (h1:it ρ=.ok (xs,kk)) (h2:xs.length<=lim) (h3:jK (q_ n t c f k ρ) [] xs=.ok ys):gC n it t c f k ρ=.ok (.lst ys):=by
 unfold gC;rw [h1,Res.aW];simp only [decide_eq_true h2,if_true];rw [h3];rfl
theorem yM (hρ:ρ.length=n) (h1:c (ρ++[x])=.ok b) (h2:b=true->f (ρ++[x])=.ok y/\(k||y.pure)=true):q_ n yC c f k ρ acc x=.ok (if b then acc++[y] else acc):=by
 unfold q_;show (do let ok <- c (MK n ρ++[x]);_)=_;rw [JP hρ,h1,Res.aW];cases b with
 | true=>
  obtain ⟨e1,e2⟩:=h2 rfl;rw [if_pos rfl,e1,Res.aW,if_pos e2,if_pos rfl];rfl
 | false=>
  rw [if_neg (by simp),if_neg (by simp)];rfl
theorem dU (a b:Int):aX .add (.int a) (.int b)=.ok (.int (a+b)):=rfl
theorem aIf (a b:Int):aX .sub (.int a) (.int b)=.ok (.int (a-b)):=rfl
theorem aIg (a b:Int) (h:iJ b=true):aX .mul (.int a) (.int b)=.ok (.int (a*b)):=by
 show (if iJ a||iJ b then Res.ok (D.int (a*b)) else .bad)=_;rw [h,Bool.or_true,if_pos rfl]
theorem aF1 (a b:Int) (h:iJ a=true):aX .mul (.int a) (.int b)=.ok (.int (a*b)):=by
 show (if iJ a||iJ b then Res.ok (D.int (a*b)) else .bad)=_;rw [h,Bool.true_or,if_pos rfl]
theorem dJ (a b:Int) (h1:0<b) (h2:b<1073741824):aX .fdiv (.int a) (.int b)=.ok (.int (a / b)):=by
 show (if decide (0<b)&&decide (b<1073741824) then Res.ok (D.int (a / b)) else .bad)=_;rw [decide_eq_true h1,decide_eq_true h2,Bool.and_self,if_pos rfl]
theorem d7 (a b:Int) (h1:0<b):aX .mod (.int a) (.int b)=.ok (.int (a % b)):=by
 show (if decide (0<b) then Res.ok (D.int (a % b)) else .bad)=_;rw [decide_eq_true h1,if_pos rfl]
theorem aF2 (a b:Str) (h:a.length+b.length<=lim):aX .add (.str a) (.str b)=.ok (.str (a++b)):=by
 show (if decide (a.length+b.length<=lim) then Res.ok (D.str (a++b)) else .bad)=_;rw [decide_eq_true h,if_pos rfl]
theorem mF (a b:List D) (h:a.length+b.length<=lim) (ha:D.aN a=true) (hb:D.aN b=true):aX .add (.lst a) (.lst b)=.ok (.lst (a++b)):=by
 show (if decide (a.length+b.length<=lim)&&D.aN a&&D.aN b then Res.ok (D.lst (a++b)) else .bad)=_;rw [decide_eq_true h,ha,hb,Bool.and_self,Bool.and_self,if_pos rfl]
theorem YM (ns:List Int) (lo hi:Option Int):cutD (ns.map D.int) lo hi=(cutD ns lo hi).map D.int:=by
 unfold cutD;rw [List.length_map,List.map_take,List.map_drop]
open PySem.SeqAt PySem.Spec PyProof.Rows
section
variable [KFrag]
theorem PS.nox {X:Cx} {st:Stmt} {t:TS} (h:PS X.nox st t):PS X st t:=fun pins s σ H D I hw=>
 wpAny_mono (h pins s σ H D (I.wish _) hw) (fun _ _ q=>SP.lG q) fun _ _ z=>False.elim z
end
open PySem.W PySem.Builtin PySem.Builtin.ObjectAttr PySem.Builtin.Getset_descriptor
def ExcAt (a C:Addr) (h:Heap):Prop:=∃o,h.get? a=some o/\o.cls=.ref C
structure XC (K:Frag) (C:Addr):Prop where
 cl:(clsIn K C).isSome=true
 ga:findIn K (.ref C) "__getattribute__" = some (some (.builtin "BaseException.__getattribute__"))
 gh:findIn K (.ref C) "__getattr__" = some none
 kc:findIn K (.ref C) "__class__" = some (some (.builtin "object.__class__"))
 kg:specialIn K (.builtin "object.__class__") "__get__" = some (some (.builtin "getset_descriptor.__get__"))
 kt:takesIn K (.builtin "object.__class__")=some true
 ob:mroIn K C (.type "object")=some true
 be:mroIn K C (.type "BaseException")=some true
section
variable {prog:Program} {w:World} {A:Around} {E:Value->Shared->Prop} {s:Shared} {K:Frag} {x C:Addr}
theorem CQ {M:Model} {h:Heap} (p:ExcAt x C h):Looks M h (typeOf (.ref x)) (.ref C):=by
 obtain ⟨o,h1,h2⟩:=p;rw [<-h2];exact (Looks.ld h1).andThen .now
theorem aB9 {M:Model} {h:Heap} (X:K.In h) (c:XC K C):Looks M h (find (.ref x) (.ref C) "__class__") (.bind (.builtin "getset_descriptor.__get__") (.builtin "object.__class__")):=by
 refine (looks_findIn (M:=M) X c.kc).andThen ((looks_specialIn (M:=M) X c.kg).andThen ?_);have L:Looks M h (dataDescriptor? (some (.builtin "object.__class__")) (some (.builtin "getset_descriptor.__get__"))) (some (.builtin "getset_descriptor.__get__",.builtin "object.__class__")):=(looks_takesIn (M:=M) X c.kt).andThen .now;exact L.andThen (Looks.tag .now)
theorem aF3 {R:Result->Shared->Prop} {tp:Value} (X:K.In s.heap) (p:ExcAt x C s.heap) (c:XC K C) (h:R (.ok (.ret (.ref C))) s) :
  codeAny (model prog w) A (.call (.builtin "getset_descriptor.__get__") ⟨[.builtin "object.__class__",.ref x,tp],[]⟩) R s:=by
 obtain ⟨hh,g,d,t,os⟩:=s;have L0:=CQ (M:=model prog w) p;have L1:=looks_mroIn (M:=model prog w) X c.ob;refine codeAny_call_builtin KF.slot_gs.plain KF.entry_gs (KF.slot_gs.check _ _ _ _ _ _ _ _ KF.type_class (KF.args_gs _ _ _) ?_)
 (unfold Builtin.«getset_descriptor.__get__» descrGet;rw [dga_obj];refine wpAny_bind (wpAny_pure ?_);unfold descrGetter descrCheckInstance descrNameAndClass isInstance;simp only [KF.owner_class])
 repeat lk
 refine ⟨Code.quiet_builtin _ (by decide +kernel),codeAny_builtin KF.entry_class ?_⟩
 (unfold Builtin.«object.__class__» shownTypeOf;repeat lk)
 exact h
theorem YQ {tk:Tok} {Q:Fin->Shared->Prop} (X:K.In s.heap) (p:ExcAt x C s.heap) (c:XC K C) (h:Q (.done (.ret (.ref C))) s) :
  wpAny (model prog w) A (Builtin.«object.__getattribute__» ⟨[.ref x,.str "__class__" tk],[]⟩) Q E s:=by
 obtain ⟨hh,g,d,t,os⟩:=s;have L0:=CQ (M:=model prog w) p;have L1:=aB9 (M:=model prog w) (x:=x) X c;unfold Builtin.«object.__getattribute__»;refine wpAny_bind (wpAny_pure ?_);refine wpAny_bind (wpAny_pure ?_);refine wpAny_bind (L0.at (wpAny_bind (L1.at ?_)));show wpAny _ _ (holding [_] (call _ [_,.ref x,.ref C]) >>= ret) _ _ _;exact wpAny_bind (wpAny_holding (wpAny_call (aF3 X p c (wpAny_pure h))))
theorem JR {M:Model} {nv:Value} {Q:Unit->Shared->Prop} (X:K.In s.heap) (p:ExcAt x C s.heap) (c:XC K C) (h:Q () s):wpAny M A (checkBuiltinCall "BaseException.__getattribute__" ⟨[.ref x,nv],[]⟩) Q E s:=by
 obtain ⟨hh,g,d,t,os⟩:=s;have L0:Looks M hh (isInstance (.ref x) (.type "BaseException")) true:=(CQ (M:=M) p).andThen (looks_mroIn (M:=M) X c.be);have e1:builtinKind "BaseException.__getattribute__" = some .slot:=by decide +kernel
 have e2:splitId "BaseException.__getattribute__" = some ("BaseException", "__getattribute__"):=by decide +kernel
 have ha:=F.args_bexc_ga (.ref x) nv;simp only [checkBuiltinCall,e1,e2];refine wpAny_bind (L0.at ?_)
 repeat (any_goals (first|assumption|wp_step))
theorem aF4 {Q:Option Value->Shared->Prop} (X:K.In s.heap) (p:ExcAt x C s.heap) (c:XC K C) (h:Q (some (.ref C)) {s with toks:=s.toks+1}):wpAny (model prog w) A (getAttr? (.ref x) "__class__") Q E s:=by
 obtain ⟨hh,g,d,t,os⟩:=s;have L0:=CQ (M:=model prog w) p;have L1:=looks_findIn (M:=model prog w) X c.ga;have L2:=looks_findIn (M:=model prog w) X c.gh;have e2:(Value.builtin "BaseException.__getattribute__" == Value.builtin "object.__getattribute__")=false:=by decide +kernel
 have e1:(onTheHeap (Value.ref C)&&Value.builtin "BaseException.__getattribute__" == Value.builtin "object.__getattribute__")=false:=by rw [e2];rfl
 unfold getAttr? getAttrBy? getAttrBy;refine wpAny_bind (wpAny_mkText (wpAny_bind (wpAny_attempt (wpAny_holding (wpAny_bind (L0.at (wpAny_bind (L1.at ?_))))))));dsimp only;rw [e1,if_neg (by decide)];unfold getAttrByItsOwn hookBefore callGetattribute boundAndCalled;rw [if_pos (show onTheHeap (Value.ref C)=true from rfl)];refine wpAny_bind (L2.at (wpAny_bind (wpAny_attempt (wpAny_holding ?_))));rw [if_neg (by decide)];refine wpAny_bind (wpAny_of_eq (F.excAttr_ValueError.ga.bind (.ref x)) ?_);refine wpAny_call (codeAny_call_builtin F.excAttr_ValueError.ga.plain F.entry_bexc_ga (JR (K:=K) (C:=C) X p c (YQ (K:=K) (C:=C) X p c ?_)));show wpAny _ _ (handedOut (.ref C)) _ _ _;exact wpAny_pure (wpAny_pure h)
theorem aBa (c:XC K C):KitX K (.ref x) (.ref C) (ExcAt x C) where
 ty:=fun _ _ _ p=>CQ p
 it:=fun M h X _=>by
  obtain ⟨cd,hc⟩:=Option.isSome_iff_exists.mp c.cl;unfold clsIn at hc;split at hc
  ·rename_i ho;intro A' Q' E' s' k q
   (unfold isType loadHead;exact wpAny_bind (wpAny_loadPart (k _ _ (X _ _ ho)) (wpAny_pure q)))
  ·cases hc
 ne:=fun h tp dd its n sl X e=>by
  obtain ⟨cd,hc⟩:=Option.isSome_iff_exists.mp c.cl;unfold clsIn at hc;split at hc
  ·rename_i ho;refine Bool.eq_false_iff.mpr fun q=>?_
   have z:C=tp:=Value.ref.inj (beq_iff_eq.mp q);subst z;cases (X _ _ ho).symm.trans e
  ·cases hc
 ca:=fun X p h=>aF4 X p c h
end
end Mi
namespace Mi
open PySem L2 PySem.W PySem.SeqAt PySem.Spec PyProof.Rows
noncomputable abbrev mrk (X:Cx) (v:Value):Cx:={X with A:=X.A.mark (some v),calm:=false}
section
variable {X:Cx} {pins:List (Addr×Obj)} {σ:L2.St} {H H2:Hp} {s:Shared} {h h6:Heap} {a:Addr}
theorem YS (I:Inv X pins σ H s) (v:Value):Inv (mrk X v) pins σ H s:=
 ⟨⟨I.ok.mod,I.ok.kind,I.ok.glob,I.ok.blt,I.ok.above,I.ok.inj,I.ok.has,I.ok.cab,(fun z=>nomatch z),I.ok.frames,I.ok.stk,I.ok.exf,I.ok.bs,I.ok.bsz,I.ok.noex,I.ok.exfs,I.ok.T3,I.ok.frf⟩,I.os,I.bare,I.base,I.loc,I.cell,I.free,I.freeC,I.pin,I.hok,I.len⟩
theorem YT {v:Value} (ok:X.Ok) (I:Inv (mrk X v) pins σ H s):Inv X pins σ H s:=
 ⟨ok,I.os,I.bare,I.base,I.loc,I.cell,I.free,I.freeC,I.pin,I.hok,I.len⟩
theorem aD4 {fs:List Addr} {o:HO} (u:Un fs [] H H2 h h6) (hg:h.get? a=none) (hn:H2 a=none):Un fs [] H (upd H2 a o) h h6:=by
 have ne:∀b ob,h.get? b=some ob->b≠a:=fun b ob q z=>by rw [z,hg] at q;cases q
 refine ⟨u.keep,u.slot,fun b ob q n hx=>by rw [aR (ne b ob q)];exact u.free b ob q n hx,u.there,fun b xs q=>?_,fun b ob xs q=>?_,fun b ps q=>?_⟩
 ·have z:=u.tups b xs q;rw [aR (bI z hn)];exact z
 ·have z:=u.frzs b ob xs q;rw [aR (bI z hn)];exact z
 ·obtain ⟨m,z⟩:=u.tbls b ps q;exact ⟨m,by rw [aR (bI z hn)];exact z⟩
theorem YW {P:Program} {w:World} {o:HO} (x:HOk P w H2 h6) (hn:H2 a=none) (new:fD P w (upd H2 a o) h6 a o):HOk P w (upd H2 a o) h6:=fun b u e=>by
 by_cases hb:b=a
 ·subst hb;rw [aG] at e;cases e;exact new
 ·rw [aR hb] at e;exact (x b u e).stay (fun c v _ q=>q) (fun c q=>by rw [aR (bI q hn)];exact q) fun c xs q=>by rw [aR (bI q hn)];exact q
theorem aBb {i:Nat} {x:Str} {v:Option Value} {t':Nat} {h':Heap} {m:Str->Option Value} (I:Inv X pins σ H s) (hN:X.N.Nodup) (hi:X.N[i]?=some x) (hn:s.heap.Ns X.env.locals m)
  (hl:∀(i:Nat) (x:Str) (v:V),X.N[i]?=some x->σ[i]?=some (some v)->Vis X.env.scope x->∃u,RelV v u/\Look X.env s.heap m x u)
  (hn':h'.Ns X.env.locals (fun y=>if y=x then v else m y)) (hs:Heap.SameBut X.env.locals s.heap h'):Inv X pins (σ.set i none) H {s with heap:=h',toks:=t'}:=by
 have hiσ:i<σ.length:=by rw [I.len];exact (List.getElem?_eq_some_iff.mp hi).1
 have cne:=I.cne;have ne:∀b o,X.s₀.heap.get? b=some o->b≠X.env.locals:=fun b o e=>Nat.ne_of_lt (Nat.lt_of_lt_of_le (Heap.lt_size e) I.ok.above)
 refine ⟨I.ok,I.os,I.bare,⟨fun b o e n hb hx=>(hs.2 b (ne b o e)).trans (I.base.keep b o e n hb hx),fun b o e n hb hx=>?_,I.base.free,fun b o e hx=>?_,I.base.tups,I.base.frzs,I.base.tbls⟩,⟨_,hn',fun j y v' e1 e2 e3=>?_⟩,fun y c e=>?_,I.free,I.freeC,fun p hp=>?_,fun b ob e=>?_,by simpa using I.len⟩
 ·obtain ⟨sl,e1⟩:=I.base.slot b o e n hb hx;exact ⟨sl,(hs.2 b (ne b o e)).trans e1⟩
 ·obtain ⟨o',e1⟩:=I.base.there b o e hx;exact ⟨o',(hs.2 b (ne b o e)).trans e1⟩
 ·by_cases hj:j=i
  ·subst hj;rw [List.getElem?_set_self hiσ] at e2;cases e2
  ·rw [List.getElem?_set_ne (Ne.symm hj)] at e2;obtain ⟨u',r',q⟩:=hl j y v' e1 e2 e3;refine ⟨u',r',?_⟩;rcases q with ⟨k,e⟩|⟨k,c,e,z⟩
   ·refine .inl ⟨k,?_⟩;have:y≠x:=fun e=>hj (C_ hN e1 (e▸hi))
    simp [this,e]
   ·exact .inr ⟨k,c,e,z.sameBut hs (cne y c e)⟩
 ·obtain ⟨w',z⟩:=I.cell y c e;exact ⟨w',z.sameBut hs (cne y c e)⟩
 ·obtain ⟨e,n,ne,nf,d⟩:=I.pin p hp;exact ⟨(hs.2 p.1 ne).trans e,n,ne,nf,d⟩
 ·refine (I.hok b ob e).stay (fun c w' hc q=>(hs.2 c ?_).trans q) (fun _ q=>q) fun _ _ q=>q
  intro z;rcases hc with hc|hc
  ·rw [<-hc,z,I.free] at e;cases e
  ·rw [z,I.free] at hc;cases hc
end
variable [KFrag]
theorem RT {H:Hp} {a:Addr} {o:HO} (h:H a=none):bV H (upd H a o):=fun b u e=>by rw [aR (bI e h)];exact e
theorem FP:bootBuiltins "ValueError" = some (.type "ValueError"):=by decide +kernel
noncomputable def aD5 (f:FE) (t:D->List D->Res (List D)):FS:=fun ρ=>do
 let d <- f ρ
 if d.pure then (do let ρ' <- t d ρ;.ok (.nx ρ')) else .bad
theorem aD6 {X:Cx} {own:Nat->Bool} {e tg:Expr} {pos:Pos} {fe:FE} {re:Bool} {g:TG} {t:D->List D->Res (List D)} (he:PE X e (gE fe re)) (ht:TgS own g t) (hg:PG X tg g) (hs:swapsWithSole [tg] e pos.line X.env=pure false:=by rfl) (hw:swappedStores [tg] e X.env=pure none:=by rfl)
  (h1:(assignEach [tg] X.env).map (·.2)=[assign tg X.env]:=by rfl):PS X (.Assign [tg] e pos) (tS own (aD5 fe t)):=PS.imp (aH2 he hg hs hw h1) fun D' σ H ⟨ρ,fl,E,h,q⟩=>by
 obtain ⟨d,h1,h2⟩:=bA h;split at h2
 ·rename_i hp;obtain ⟨ρ',h3,h4⟩:=bA h2;cases h4;refine ⟨ρ,d,E.er,h1,fun v H1 s1 r _=>ht v d ρ ρ' σ H1 _ (E.same s1) (r.bM hp) h3 fun σ2 E2 hO=>?_⟩;have k0:KU own σ H1 σ2 H1:=fun a o e n=>⟨e,by rw [hO];exact n⟩
  exact q σ2 H1 ((KU.same s1).trans k0) E2
 ·exact bx h2
end Mi
namespace Mi
open PySem
theorem YX (o:Obj) (f:Array Value->Array Value):(o.mapFields f).dict=o.dict:=by
 obtain ⟨c,d,dt,sl⟩:=o;cases dt <;> rfl
theorem RV (T:Addr):(Value.ref T != Value.none)=true:=by simp
theorem aBc (L:Addr):¬((Value.none==rawInt L)=true):=by simp [rawInt]
def TrD (h B:Heap) (e:Addr) (c:Value) (dd:Option Addr) (fl:Value):Prop:=
 ∃o vs T oT ts,(h.get? e=some o/\o.cls=c/\o.dict=dd/\o.data=.fields vs)/\(vs[1]?=some (.ref T)/\B.get? T=none/\T≠e)/\h.get? T=some oT/\oT.data=.fields ts/\ts[3]?=some fl
def FD (B:Heap) (l:List Env) (e:Addr) (c:Value) (dd:Option Addr) (fl:Value) (h:Heap):Prop:=B.StaysIn h/\B.get? e=none/\h.FunFrames B l/\TrD h B e c dd fl
theorem FD.there {B h:Heap} {l:List Env} {e:Addr} {c fl:Value} {dd:Option Addr} (x:FD B l e c dd fl h):∃o,h.get? e=some o/\o.cls=c/\o.dict=dd/\∃vs,o.data=.fields vs:=by
 obtain ⟨_,_,_,o,vs,_,_,_,⟨a,b,d,f⟩,_⟩:=x;exact ⟨o,a,b,d,vs,f⟩
section
variable {M:Model} {A:Around} {E:Value->Shared->Prop} {s:Shared} {B:Heap} {env:Env} {outer l:List Env} {L e:Addr} {oe:Obj} {vs:Array Value} {head c:Value} {dd:Option Addr} {Q:Unit->Shared->Prop}
theorem FQ {h:Heap} {a:Addr} {o:Obj} {ws:Array Value} (i:Nat) (v:Value) (ho:h.get? a=some o) (hd:o.data=.fields ws) :
  ∃h2:Heap,h2=h.update a (Obj.mapFields (·.setIfInBounds i v))/\(∀b,b≠a->h2.get? b=h.get? b)/\∃o2,h2.get? a=some o2/\o2.cls=o.cls/\o2.dict=o.dict/\o2.data=.fields (ws.setIfInBounds i v):=
 ⟨_,rfl,fun b hb=>Heap.get?_update_other _ _ (Ne.symm hb),_,Heap.get?_update_self _ ho (Obj.isFreed_of_fields (Obj.data_mapFields hd _)),Obj.cls_mapFields _ _,YX _ _,Obj.data_mapFields hd _⟩
theorem RW {had:Bool} (hfr:A.frames=some (env::outer)) (hl:s.heap.FunFrames B (env::outer)) (hf:env.frame=some L) (he:s.heap.get? e=some oe) (hB:B.StaysIn s.heap) (hn:B.get? e=none) (hd:oe.data=.fields vs) (hz:1<vs.size)
  (q:∀h',FD B (env::outer) e oe.cls oe.dict (rawInt L) h'->s.heap.UpToSlots h'->Q () {s with heap:=h'}) :
  wpAny M A (do let a <- frameOf env;let pl <- entryPlaceOf L had;let b <- EntryCells.newEntry head a .none (rawInt L) .none pl;setField (.ref e) 1 b) Q E s:=by
 have nf:e∉(env::outer).filterMap (·.frame):=fun z=>by
  obtain ⟨_,o,ho,k⟩:=hl.mem z;cases he.symm.trans ho;exact k _ hd
 refine wpAny_bind (wpAny_frameOf_fun hfr hl hf fun h1 so=>wpAny_bind (wpAny_entryPlaceOf fun pl hp=>?_));unfold EntryCells.newEntry;unfold newFields;refine wpAny_bind (wpAny_newObj_type ?_ (hp.sizeOk5 _ _ _ _ _));generalize hon:({cls:=.type "traceback",dict:=none,data:=.fields ([head,.ref L,.none,rawInt L,.none]++(if pl.isEmpty then List.replicate 6 Value.none else pl)).toArray}:Obj)=on;have e1:h1.get? e=some oe:=(so.2.1 e nf).trans he;have B1:B.StaysIn h1:=fun b o k=>(so.2.1 b fun z=>by rw [(hl.mem z).1] at k;cases k).trans (hB b o k)
 have e2:=Heap.get?_push_of_some (h:=h1) on e1;obtain ⟨h3,r3,k3,o3,g3,c3,d3,f3⟩:=FQ 1 (.ref h1.objs.size) e2 hd;have ne:h1.objs.size≠e:=Nat.ne_of_gt (Heap.lt_size e1);have t3:h3.get? h1.objs.size=some on:=(k3 _ ne).trans (Heap.get?_push_size h1 (by rw [<-hon];rfl));have keep:∀b o,b≠e->h1.get? b=some o->h3.get? b=some o:=fun b o hb k=>(k3 b hb).trans (Heap.get?_push_of_some _ k)
 have nr:∀b o,s.heap.get? b=some o->(∀vs,o.data≠.fields vs)->b≠e:=fun b o k z w=>by
  rw [w] at k;cases he.symm.trans k;exact z _ hd
 have up:s.heap.UpToSlots h3:=fun b o k z=>by
  obtain ⟨sl,w⟩:=so.2.2 b o k;exact ⟨sl,keep b _ (nr b o k z) w⟩
 refine wpAny_setField e2 hd hz ?_;rw [<-r3];refine q h3 ⟨fun b o k=>keep b o (fun z=>by rw [z,hn] at k;cases k) (B1 b o k),hn,hl.of_keeps fun b o k z=>let ⟨sl,w⟩:=up b o k z;⟨_,w,rfl⟩,?_⟩ up;have don:on.data=.fields ([head,.ref L,.none,rawInt L,.none]++(if pl.isEmpty then List.replicate 6 Value.none else pl)).toArray:=by rw [<-hon]
 exact ⟨o3,_,h1.objs.size,on,_,⟨g3,c3,d3,f3⟩,⟨by simp [hz],B1.fresh,ne⟩,t3,don,by simp⟩
theorem yN {fl:Value} (x:FD B l e c dd fl s.heap) (q:∀h',FD B l e c dd .none h'->s.heap.UpToSlots h'->Q () {s with heap:=h'}):wpAny M A (setFlight (.ref e) none) Q E s:=by
 obtain ⟨k1,k2,k3,o,vs,T,oT,ts,⟨g1,g2,g3,g4⟩,⟨t1,t2,t3⟩,u1,u2,u3⟩:=x;obtain ⟨h2,r2,j2,o2,p1,p2,p3,p4⟩:=FQ 3 Value.none u1 u2;have hz:3<ts.size:=(Array.getElem?_eq_some_iff.mp u3).1;have up:∀b o,s.heap.get? b=some o->(∀vs,o.data≠.fields vs)->h2.get? b=some o:=fun b o k z=>(j2 b fun w=>by
  rw [w] at k;cases u1.symm.trans k;exact z _ u2).trans k
 unfold setFlight;refine wpAny_bind (wpAny_field g1 g4 t1 ?_);rw [if_pos (RV T)];refine wpAny_setField u1 u2 hz ?_;show Q () {s with heap:=s.heap.update T (Obj.mapFields (·.setIfInBounds 3 Value.none))};rw [<-r2];exact q h2 ⟨fun b o k=>(j2 b fun w=>by rw [w,t2] at k;cases k).trans (k1 b o k),k2,k3.of_keeps fun b o k z=>⟨o,up b o k z,rfl⟩,o,vs,T,o2,_,⟨(j2 e (Ne.symm t3)).trans g1,g2,g3,g4⟩,⟨t1,t2,t3⟩,p1,p4,by simp [hz]⟩ fun b o k z=>⟨o.slots,up b o k z⟩
theorem aF5 (hfr:A.frames=some (env::outer)) (hf:env.frame=some L) (x:FD B (env::outer) e c dd .none s.heap) (q:∀h',FD B (env::outer) e c dd (rawInt L) h'->s.heap.UpToSlots h'->Q () {s with heap:=h'}):wpAny M A (noteFrame (.ref e) env) Q E s:=by
 obtain ⟨k1,k2,k3,o,vs,T,oT,ts,⟨g1,g2,g3,g4⟩,⟨t1,t2,t3⟩,u1,u2,u3⟩:=x;obtain ⟨h2,r2,j2,o2,p1,p2,p3,p4⟩:=FQ 3 Value.none u1 u2;have up:∀b o,s.heap.get? b=some o->(∀vs,o.data≠.fields vs)->h2.get? b=some o:=fun b o k z=>(j2 b fun w=>by
  rw [w] at k;cases u1.symm.trans k;exact z _ u2).trans k
 unfold noteFrame;simp only [hf];refine wpAny_bind (wpAny_field g1 g4 t1 ?_);rw [if_pos (RV T)];refine wpAny_bind (wpAny_field u1 u2 u3 ?_);rw [if_neg (aBc L)];refine wpAny_bind (wpAny_setField u1 u2 (Array.getElem?_eq_some_iff.mp u3).1 ?_);rw [<-r2];have g1':h2.get? e=some o:=(j2 e (Ne.symm t3)).trans g1;subst g2 g3;refine RW (s:={s with heap:=h2}) hfr (k3.of_keeps fun b o k z=>⟨o,up b o k z,rfl⟩) hf g1' (fun b o k=>(j2 b fun w=>by rw [w,t2] at k;cases k).trans (k1 b o k)) k2 g4 (Array.getElem?_eq_some_iff.mp t1).1 fun h' y z=>q h' y fun b o k w=>z b o (up b o k w) w
theorem aBd (hfr:A.frames=some (env::outer)) (hf:env.frame=some L) (hl:s.heap.FunFrames B (env::outer)) (he:s.heap.get? e=some oe) (hB:B.StaysIn s.heap) (hn:B.get? e=none) (hd:oe.data=.fields vs) (hv:vs[1]?=some .none)
  (q:∀h',FD B outer e oe.cls oe.dict .none h'->s.heap.UpToSlots h'->Q () {s with heap:=h'}):wpAny M A (leaving env (.ref e)) Q E s:=by
 unfold leaving noteFrame;simp only [hf];refine wpAny_bind (wpAny_bind (wpAny_field he hd hv ?_));rw [if_neg (by decide)];exact RW hfr hl hf he hB hn hd (Array.getElem?_eq_some_iff.mp hv).1 fun h1 x1 u1=>yN (s:={s with heap:=h1}) x1 fun h2 x2 u2=>q h2 ⟨x2.1,x2.2.1,x2.2.2.1.2.2,x2.2.2.2⟩ (u1.trans u2)
end
open PySem.W Builtin Builtin.ObjectAttr
noncomputable abbrev vMr:List Value:=[.type "ValueError",.type "Exception",.type "BaseException",.type "object"]
def exC (K:Frag) (C:Addr):Bool:=match K.lookup C with
 | some o=>(match o.cls,o.data,o.slots.toList with
  | .type "type",.cls k,[_,_,_,_,some (.builtin n),_]=>(match k.mro with
   | .ref C'::r=>C'==C&&n == "ValueError.__new__" && !k.hasDel&&k.hasDict&&tailIn K vMr r&&nsOkIn K k.ns
   | _=>false)
  | _,_,_=>false)
 | none=>false
structure ExO (h:Heap) (C:Addr) where
 bm:List Value
 N:Addr
 nm:Str
 qn:Str
 bs:List Value
 sn:List Str
 sub:List Value
 ab:Bool
 col:Option Bool
 dd:Option Addr
 k0:Option Value
 k1:Option Value
 k2:Option Value
 k3:Option Value
 k5:Option Value
 mN:Str->Option Value
 ob:h.get? C=some (excClassObj nm qn C N bs bm true sn sub ab col dd k0 k1 k2 k3 k5 "ValueError.__new__")
 ns:h.Ns N mN
 tl:OwnTail h vMr bm
theorem RX {K:Frag} {h:Heap} {C:Addr} (X:K.In h) (q:exC K C=true):Nonempty (ExO h C):=by
 unfold exC at q;split at q
 ·rename_i o ho;split at q
  ·rename_i k k0 k1 k2 k3 n k5 e1 e2 e3;split at q
   ·rename_i C' r e4;rw [Bool.and_eq_true,Bool.and_eq_true,Bool.and_eq_true,Bool.and_eq_true,Bool.and_eq_true] at q;obtain ⟨⟨⟨⟨⟨q1,q2⟩,q3⟩,q4⟩,q5⟩,q6⟩:=q;have q1:=beq_iff_eq.mp q1;have q2:=beq_iff_eq.mp q2;rw [Bool.not_eq_true'] at q3;subst q1 q2;obtain ⟨oc,od,dt,⟨sl⟩⟩:=o;dsimp only at e1 e2 e3;subst e1 e2 e3;obtain ⟨nm,bs,mro,ns,qn,hd,sn,sub,ab,col,del⟩:=k;dsimp only at e4 q3 q4 q6;subst e4 q3 q4;exact ⟨⟨r,ns,nm,qn,bs,sn,sub,ab,col,od,k0,k1,k2,k3,k5,_,X _ _ ho,.of_isNs (isNs_of_in X q6),tail_of_in X q5⟩⟩
   ·cases q
  ·cases q
 ·cases q
section
variable {prog:Program} {w:World} {A:Around} {E:Value->Shared->Prop} {K:Frag} {C:Addr}
theorem call_exc {h:Heap} {g:Array GenState} {d:Drawn} {t:Nat} {os:OsState} {f:Addr} {us:List Value} {Q:Value->Shared->Prop} (X:K.In h) (q:exC K C=true) (hi:findIn K (.ref C) "__init__" = some (some (.ref f))) (hf:typeIn K (.ref f)=some (.type "function")) (hz:us.length<=sizeLine)
  (hq:wpAny (model prog w) (A.under (.builtin "type.__call__" ⟨.ref C::us,[]⟩)) (call (.ref f) (.ref (h.objs.size+1)::us)) (fun r s'=>r=.none/\Q (.ref (h.objs.size+1)) s') E
   ⟨(h.push {cls:=.type "tuple",data:=.seq us.toArray}).push {cls:=.ref C,data:=.fields #[.ref h.objs.size,.none,.none,.none,.bool false,.none]},g,d,t,os⟩) :
  wpAny (model prog w) A (call (.ref C) us) Q E ⟨h,g,d,t,os⟩:=by
 obtain ⟨⟨bm,N,nm,qn,bs,sn,sub,ab,col,dd,k0,k1,k2,k3,k5,mN,hC,hN,T⟩⟩:=RX X q;have F:=PySem.F.excBase_ValueError;have f1:=tc_lookup;have f2:=tc_bind (.ref C);have ty:(⟨h,g,d,t,os⟩:Shared).TypeIs (.ref C) "type":=⟨_,hC,rfl⟩
 have kk:∀b o,h.get? b=some o->((h.push {cls:=.type "tuple",data:=.seq us.toArray}).push {cls:=.ref C,data:=.fields #[.ref h.objs.size,.none,.none,.none,.bool false,.none]}).get? b=some o:=fun b o e=>Heap.get?_push_of_some _ (Heap.get?_push_of_some _ e)
 have X1:=X.keeps kk;have c1:=kk _ _ hC;have hg:((h.push {cls:=.type "tuple",data:=.seq us.toArray}).push {cls:=.ref C,data:=.fields #[.ref h.objs.size,.none,.none,.none,.bool false,.none]}).get? (h.objs.size+1)=some {cls:=.ref C,data:=.fields #[.ref h.objs.size,.none,.none,.none,.bool false,.none]}:=by heap_get
 have own:(Value.ref C::bm).contains (.ref C)=true:=by simp
 refine wpAny_call (codeAny_of_tree (show wpAny _ _ (callAny (.ref C) _) _ _ _ from ?_))
 repeat (any_goals (first|with_reducible refine wpAny_loadPart_at hC ?_|assumption|wp_step))
 refine ⟨rfl,?_⟩;refine codeAny_call_builtin_at (Code.quiet_builtin _ (by decide +kernel)) entry_typeCall (wpAny_check_type_call_sub hC ?_)
 repeat (first|with_reducible refine wpAny_madeBy_exc hC ?_|with_reducible refine wpAny_loadPart_at hC ?_|wp_step)
 refine codeAny_call_builtin_code (Code.quiet_builtin _ F.quiet) (wpAny_check_new_subU F F.hasB T hC ?_);refine codeAny_exc_new_subU F F.hasB F T hC ?_ hz;show wpAny _ _ _ _ _ (⟨(h.push {cls:=.type "tuple",data:=.seq us.toArray}).push {cls:=.ref C,data:=.fields #[.ref h.objs.size,.none,.none,.none,.bool false,.none]},g,d,t,os⟩:Shared);unfold isInstance
 repeat (first|with_reducible refine wpAny_loadPart_at hg ?_|(with_reducible refine wpAny_isSubtype_exc c1 ?_;rw [own])|wp_step)
 refine (looks_findIn X1 hi).at (M:=model prog w) ?_;refine wpAny_holding (wpAny_bind ((bind_fn X1 _ hf).at (wpAny_bind (wpAny_mono hq (fun r s' hr=>?_) fun _ _ x=>x))));obtain ⟨rfl,hQ⟩:=hr
 wp_walk
 exact hQ
theorem YZ {h:Heap} {g:Array GenState} {d:Drawn} {t:Nat} {os:OsState} {e:Addr} {us:List Value} {oe:Obj} {a0:Addr} {r1 r2 r3 r4 r5:Value} {Q:Value->Shared->Prop} (X:K.In h) (q:exC K C=true) (he:h.get? e=some oe) (hc:oe.cls=.ref C) (hd:oe.data=.fields #[.ref a0,r1,r2,r3,r4,r5])
  (hq:Q .none ⟨(h.push {cls:=.type "tuple",data:=.seq us.toArray}).update e (Obj.mapFields (·.setIfInBounds 0 (.ref h.objs.size))),g,d,t,os⟩) (hz:us.length<=sizeLine) :
  wpAny (model prog w) A (call (.builtin "ValueError.__init__") (.ref e::us)) Q E ⟨h,g,d,t,os⟩:=by
 obtain ⟨⟨bm,N,nm,qn,bs,sn,sub,ab,col,dd,k0,k1,k2,k3,k5,mN,hC,hN,T⟩⟩:=RX X q;have F:=PySem.F.excBase_ValueError;obtain ⟨oc,od,dt,sl⟩:=oe;dsimp only at hc hd;subst hc hd;refine wpAny_call (codeAny_call_builtin F.init.plain F.initEntry (wpAny_check_init_subU F T hC he rfl ?_));have he1:=Heap.get?_push_of_some (h:=h) {cls:=.type "tuple",data:=.seq us.toArray} he
 wp_walk
 exact hq
theorem O4 {h:Heap} {l:List Value} (T:OwnTail h vMr l) (self:Value):refuseLoop self "__setattr__" l=pure ():=by
 induction T with
 | base=>exact PySem.F.store_ValueError.passes self
 | own _ _ _ _ ih=>rw [refuseLoop_ref];exact ih
theorem aF6 {h:Heap} {g:Array GenState} {d:Drawn} {t:Nat} {os:OsState} {x:Addr} {o:Obj} {ws:Array Value} {name:Str} {v:Value} {Q:Unit->Shared->Prop} (X:K.In h) (q:exC K C=true) (hs:findIn K (.ref C) "__setattr__" = some (some (.builtin "object.__setattr__"))) (hn:findIn K (.ref C) name=some none)
  (ho:mroIn K C (.type "object")=some true) (hx:h.get? x=some o) (hc:o.cls=.ref C) (hd:o.dict=none) (hw:o.data=.fields ws)
  (hq:∀h' tk,h'.Ns1 h.objs.size (fun y=>if y=name then some v else none)->h'.get? x=some {o with dict:=some h.objs.size}->(∀b u,b≠x->h.get? b=some u->h'.get? b=some u)->Q () ⟨h',g,d,tk,os⟩) :
  wpAny (model prog w) A (setAttr (Value.ref x) name v) Q E (⟨h,g,d,t,os⟩:Shared):=by
 obtain ⟨⟨bm,N,nm,qn,bs,sn,sub,ab,col,dd,k0,k1,k2,k3,k5,mN,hC,hN,T⟩⟩:=RX X q;have SF:=PySem.F.store_ValueError;have hpass:=O4 T (.ref x);have I:InstAt h x o C none:=⟨hx,hc,by unfold notCls;rw [hw],by rw [hd];trivial⟩
 refine set_plain X I hs ?_;have sub:Looks (model prog w) h (isInstance (.ref x) (.type "object")) true:=I.type.andThen (looks_mroIn X ho);refine codeAny_call_builtin SF.slot.plain SF.entry (@check_slot (model prog w) _ _ ⟨h,g,d,t+1,os⟩ "object.__setattr__" "object" "__setattr__" (.ref x) [.str name t,v] [] _ SF.kind SF.split sub (SF.args (.ref x) (.str name t) v) ?_);have hm:Looks (model prog w) h (mroOf (.ref C)) (.ref C::bm):=((Looks.ld (part:=none) hC).andThen .now).andThen .now;show wpAny _ _ (Builtin.«object.__setattr__» ⟨[.ref x,.str name t,v],[]⟩) _ _ _;rw [osa_eq,refuse_eq];refine wpAny_bind (wpAny_bind (I.type.here (s:=⟨h,g,d,t+1,os⟩) (wpAny_bind (hm.here ?_))));rw [refuseLoop_ref,hpass];refine wpAny_pure (wpAny_bind (I.type.here (wpAny_bind ((looks_findIn X hn).here (wpAny_bind (wpAny_pure ?_))))));show wpAny _ _ (storeInOwnDict (.ref x) (.ref C) (.str name t) name v false) _ _ (⟨h,g,d,t+1,os⟩:Shared)
 repeat (first|(with_reducible refine wpAny_loadPart_at hx ?_;rw [hc])|wp_step)
 rw [hd,if_neg (by simp [typeHasDict])];split
 ·rename_i z;cases z
 split
 ·rename_i z;rw [hw] at z;cases z
 have hx1:=Heap.get?_push_of_some (h:=h) {cls:=.type "dict",data:=.dict #[]} hx;have ne:x≠h.objs.size:=Nat.ne_of_lt (Heap.lt_size hx);refine wpAny_bind (wpAny_alloc' (wpAny_bind (wpAny_update' hx1 (wpAny_pure ?_))));generalize hh2:((h.push {cls:=.type "dict",data:=.dict #[]}).update x fun o=>{cls:=o.cls,dict:=some h.objs.size,data:=o.data,slots:=o.slots})=h2;have g1:h2.get? h.objs.size=some {cls:=.type "dict",data:=.dict #[]}:=by
  rw [<-hh2];exact (Heap.get?_update_ne _ _ _ _ ne.symm).trans (Heap.get?_push_at rfl rfl)
 have g2:h2.get? x=some {o with dict:=some h.objs.size}:=by
  rw [<-hh2];refine Heap.get?_update_self _ hx1 ?_;obtain ⟨oc,od,dt,sl⟩:=o;dsimp only at hw;subst hw;rfl
 have g3:∀b u,b≠x->h.get? b=some u->h2.get? b=some u:=fun b u hb k=>by
  rw [<-hh2];exact (Heap.get?_update_ne _ _ _ _ hb).trans (Heap.get?_push_of_some _ k)
 have n1:h2.Ns h.objs.size (fun _=>none):=⟨_,#[],_,g1,rfl,fun e he=>absurd he (by simp),fun _=>rfl⟩
 show wpAny _ _ (storeInDict h.objs.size (.str name _) name v) _ _ _;unfold storeInDict;unfold newKeyGuard;refine wpAny_bind (wpAny_pure (wpAny_bind (wpAny_nsSet1 (Heap.Ns1.of_empty n1) fun h' hn' hs'=>?_)));obtain ⟨od,_,_,g4,g5,g6⟩:=hn'.count (Within.cons name v Within.nil);refine wpAny_bind (wpAny_lookBehind g4 (by rw [g5];exact pastItsLine_dict (Nat.le_trans g6 (by rw [List.length_cons,List.length_nil,sizeLine_eq];lia))) ?_)
 wp_walk
 exact hq h' _ hn' ((hs'.2 x ne).trans g2) fun b u hb k=>(hs'.2 b (Nat.ne_of_lt (Heap.lt_size k))).trans (g3 b u hb k)
end
open L2 PySem.SeqAt PySem.Spec PyProof.Rows
def XO0 (a C:Addr) (h:Heap):Prop:=∃t,h.get? a=some {cls:=.ref C,data:=.fields #[.ref t,.none,.none,.none,.bool false,.none]}
def XO1 (a C dx:Addr) (h:Heap):Prop:=∃t,h.get? a=some {cls:=.ref C,dict:=some dx,data:=.fields #[.ref t,.none,.none,.none,.bool false,.none]}
theorem XO0.stay (x:XO0 a C h1) (k:∀o,h1.get? a=some o->h2.get? a=some o):XO0 a C h2:=let ⟨t,e⟩:=x;⟨t,k _ e⟩
theorem XO1.stay (x:XO1 a C dx h1) (k:∀o,h1.get? a=some o->h2.get? a=some o):XO1 a C dx h2:=let ⟨t,e⟩:=x;⟨t,k _ e⟩
theorem XO.stay (x:XO a C dx h1) (k:∀o,h1.get? a=some o->h2.get? a=some o):XO a C dx h2:=let ⟨o,e,r⟩:=x;⟨o,k _ e,r⟩
theorem XD.stay (x:XD dx fs h1) (k:∀o,h1.get? dx=some o->h2.get? dx=some o):XD dx fs h2:=let ⟨m,n,r⟩:=x;⟨m,n.at k,r⟩
section
theorem aD7 (x:XO0 a C h):fD P w H h a (.ext (XO0 a C)):=⟨x,let ⟨_,e⟩:=x;⟨_,e⟩,fun _ _ y k=>y.stay k⟩
theorem aIh (x:XO1 a C dx h):fD P w H h a (.ext (XO1 a C dx)):=⟨x,let ⟨_,e⟩:=x;⟨_,e⟩,fun _ _ y k=>y.stay k⟩
theorem aL9 (x:XO a C dx h):fD P w H h a (.ext (XO a C dx)):=⟨x,let ⟨o,e,_⟩:=x;⟨o,e⟩,fun _ _ y k=>y.stay k⟩
theorem aLa (x:XD dx fs h):fD P w H h dx (.ext (XD dx fs)):=⟨x,let ⟨_,⟨o,_,_,e,_⟩,_⟩:=x;⟨o,e⟩,fun _ _ y k=>y.stay k⟩
end
def CX2 (P:Program) (w:World):CXT:=fun outer H s E e s'=>∃(a C:Addr) (dd:Option Addr) (H1:Hp) (B:Heap),e=.ref a/\s'.os=s.os/\AllBare s'.gens/\FD B outer a (.ref C) dd .none s'.heap/\
 (∀h6:Heap,B.StaysIn h6->s'.heap.UpToSlots h6->Un (L2.frs outer) [] H H1 s.heap h6/\HOk P w H1 h6)/\H1 a=none/\s.heap.get? a=none/\E (.ref C) dd H1
noncomputable def hid (H:Hp) (a:Addr):Hp:=fun b=>if b=a then none else H b
theorem yO (h:b≠a):hid H a b=H b:=if_neg h
theorem RZ:hid H a a=none:=if_pos rfl
section
variable {P:Program} {w:World} {K:PySem.W.Frag} {mg:Str->Option Value} {base:Heap} {N:List Str} {qual:Str} {scope:Scope} {f C:Addr} {cd:Value} {A:Around} {outer:List Env} {s:Shared} {H:Hp} {E:XK}
theorem Y0 (I:Inv (CG (CX2 P w) P w K mg base N qual scope f cd A outer s H E) pins σ H1 s1) (ea:H1 a=some (.ext (XO1 a C dx))) (hg:s.heap.get? a=none) (hE:E (.ref C) (some dx) (hid H1 a)) :
  (CG (CX2 P w) P w K mg base N qual scope f cd A outer s H E).xe (.ref a) s1:=by
 let env:=envOfC qual scope s.heap.objs.size f cd
 have hfr:L2.frs (env::outer)=s.heap.objs.size::L2.frs outer:=by
  unfold L2.frs;rw [List.filterMap_cons];rfl
 have hin:∀v∈(env::outer),∀b,v.frame=some b->b∈a::L2.frs (env::outer):=fun v hv b hb=>List.mem_cons_of_mem _ (List.mem_filterMap.mpr ⟨v,hv,hb⟩)
 have stk:s1.heap.FunFrames base (env::outer):=I.stack;have sfree:∀b∈L2.frs (env::outer),H1 b=none:=I.M7;have u0:Un (L2.frs outer) [] H H1 s.heap s1.heap:=I.base;obtain ⟨⟨t,ht⟩,_⟩:=I.hok a _ ea;show wpAny (model P w) (A.deeper env) (leaving env (.ref a)) (fun _ s''=>CX2 P w outer H s E (.ref a) s'') (fun e' s''=>CX2 P w outer H s E e' s'') s1;refine aBd I.ok.frames rfl (PySem.W.funFrames_hide stk hin) ht (fun b o q=>PySem.W.of_hideAll _ q) (PySem.W.hideAll_none _ (by simp)) rfl rfl fun h' x1 x4=>?_
 refine ⟨a,C,some dx,hid H1 a,_,rfl,I.os,I.bare,x1,fun h6 st up=>?_,RZ,hg,hE⟩;have na:∀b o,s.heap.get? b=some o->b≠a:=fun b o e z=>by rw [z,hg] at e;cases e
 have k:∀b o,s1.heap.get? b=some o->b≠a->b∉L2.frs (env::outer)->h6.get? b=some o:=fun b o eb h1 hb=>st b o (PySem.W.hideAll_get _ eb (by simp only [List.mem_cons,not_or];exact ⟨h1,hb⟩))
 have up6:s1.heap.UpToSlots h6:=x4.trans up;have nL:∀b o,s.heap.get? b=some o->b∉L2.frs outer->b∉L2.frs (env::outer):=fun b o eb hb z=>by
  rw [hfr] at z;rcases List.mem_cons.mp z with z|z
  ·exact absurd (Heap.lt_size eb) (by rw [z];exact Nat.lt_irrefl _)
  ·exact hb z
 have slot:∀b o,s1.heap.get? b=some o->b∈L2.frs outer->∃sl,h6.get? b=some {o with slots:=sl}:=fun b o eb hb=>by
  obtain ⟨_,o',ho',hd⟩:=stk.mem (show b∈L2.frs (env::outer) by rw [hfr];exact List.mem_cons_of_mem _ hb);rw [eb] at ho';cases ho';exact up6 b o eb hd
 have nt:∀b u,H1 b=some u->(∀φ,u≠.ext φ)->b≠a:=fun b u e1 e2 z=>by rw [z,ea] at e1;cases e1;exact e2 _ rfl
 refine ⟨⟨fun b o eb hn hb hx'=>k b o (u0.keep b o eb hn hb hx') (na b o eb) (nL b o eb hb),fun b o eb hn hb hx'=>?_,fun b o eb hn hx'=>?_,fun b o eb hx'=>?_,fun b xs q=>?_,fun b o u q=>?_,fun b ps q=>?_⟩,fun b u eb=>?_⟩
 ·obtain ⟨sl,e1⟩:=u0.slot b o eb hn hb hx';obtain ⟨sl',e2⟩:=slot b _ e1 hb;exact ⟨sl',e2⟩
 ·rw [yO (na b o eb)];exact u0.free b o eb hn hx'
 ·obtain ⟨o',e1⟩:=u0.there b o eb hx';by_cases hb:b∈L2.frs outer
  ·obtain ⟨sl,e2⟩:=slot b o' e1 hb;exact ⟨_,e2⟩
  ·exact ⟨o',k b o' e1 (na b o eb) (nL b o eb hb)⟩
 ·have e1:=u0.tups b xs q;rw [yO (nt b _ e1 fun φ z=>by cases z)];exact e1
 ·have e1:=u0.frzs b o u q;rw [yO (nt b _ e1 fun φ z=>by cases z)];exact e1
 ·obtain ⟨m1,e1⟩:=u0.tbls b ps q;exact ⟨m1,by rw [yO (nt b _ e1 fun φ z=>by cases z)];exact e1⟩
 ·have hb:b≠a:=fun z=>by rw [z,RZ] at eb;cases eb
  rw [yO hb] at eb;refine (I.hok b u eb).stay (fun c v hc q=>k c v q (fun z=>?_) fun z=>?_) (fun c q=>?_) fun c xs q=>?_
  ·rcases hc with hc|hc
   ·exact hb (hc▸z)
   ·rw [z,ea] at hc;cases hc
  ·have:=sfree c z;rcases hc with hc|hc
   ·rw [hc,eb] at this;cases this
   ·rw [hc] at this;cases this
  ·rw [yO (nt c _ q fun φ z=>by cases z)];exact q
  ·rw [yO (nt c _ q fun φ z=>by cases z)];exact q
end
structure XI (K:Frag) (C f:Addr):Prop where
 cl:exC K C=true
 init:findIn K (.ref C) "__init__" = some (some (.ref f))
 fn:isFn K (.ref f)=true
 kp:keepIn K (.ref C)=true
 sa:findIn K (.ref C) "__setattr__" = some (some (.builtin "object.__setattr__"))
 ob:mroIn K C (.type "object")=some true
def yP (C:Addr) (fl:List Str):Sp:=fun vs H Q _=>∃(e:Addr) (ts:List Str),vs=.ref e::ts.map V.str/\ts.length=fl.length/\H e=some (.ext (XO0 e C))/\∀dx,H dx=none->Q .non (upd (upd H dx (.ext (XD dx (fl.zip ts)))) e (.ext (XO1 e C dx)))
theorem aIi (e:H a=some o):upd H a o=H:=by
 funext b
 unfold upd;split
 ·rename_i z;rw [z,e]
 ·rfl
section
theorem aF7 (M:XI X.K C f) (F:jQ X.prog X.w X.K X.mg X.base CX0 k f fd ps (yP C fl)) (hr:iI (k+1) X.A) (hb:Binds X.K fd ps []) (I:Inv X pins σ H s) (r:Vals (ts.map V.str) us) (hl:ts.length=fl.length) (hz:us.length<=sizeLine) (hex:X.ex=[])
  (h:∀a dx s2,X.s₀.heap.get? a=none->H a=none->H dx=none->dx≠a->Inv X pins σ (upd (upd H dx (.ext (XD dx (fl.zip ts)))) a (.ext (XO1 a C dx))) s2->Q (.ref a) s2) :
  wpAny (model X.prog X.w) X.A (call (.ref C) us) Q X.xe s:=by
 obtain ⟨hh,g,d,t,os⟩:=s;have I:Inv X pins σ H ⟨hh,g,d,t,os⟩:=I;generalize hot:({cls:=.type "tuple",data:=.seq us.toArray}:Obj)=ot;generalize hoe:({cls:=.ref C,data:=.fields #[.ref hh.objs.size,.none,.none,.none,.bool false,.none]}:Obj)=oe;have fa:H (hh.objs.size+1)=none:=I.hok.fresh (Nat.le_succ _);have I1:Inv X pins σ H ⟨hh.push ot,g,d,t,os⟩:=I.kept fun b u q=>Heap.get?_push_of_some _ q
 have ge:((hh.push ot).push oe).get? (hh.objs.size+1)=some oe:=Heap.get?_push_at (by rw [Heap.size_push]) (by rw [<-hoe];rfl);have I2:Inv X pins σ (upd H (hh.objs.size+1) (.ext (XO0 (hh.objs.size+1) C))) ⟨(hh.push ot).push oe,g,d,t,os⟩:=
  I1.laid (fun b u q=>Heap.get?_push_of_some _ q) (Nat.le_of_eq (Heap.size_push _ _)) (aD7 ⟨hh.objs.size,by rw [ge,hoe]⟩)
 have ng:X.s₀.heap.get? (hh.objs.size+1)=none:=by
  cases z:X.s₀.heap.get? (hh.objs.size+1) with
  | none=>rfl
  | some o=>
   obtain ⟨o',e1⟩:=I.base.there _ o z (by rw [hex];simp);exact absurd (Heap.lt_size e1) (by show ¬hh.objs.size+1<hh.objs.size;lia)
 have r2:Vals (V.ref (hh.objs.size+1)::ts.map V.str) (Value.ref (hh.objs.size+1)::us):=.cons rfl r;have sp:yP C fl (V.ref (hh.objs.size+1)::ts.map V.str) (upd H (hh.objs.size+1) (.ext (XO0 (hh.objs.size+1) C))) (fun v H'=>v=.non/\∃dx,H dx=none/\dx≠hh.objs.size+1/\H'=upd (upd H dx (.ext (XD dx (fl.zip ts)))) (hh.objs.size+1) (.ext (XO1 (hh.objs.size+1) C dx))) (fun _ _ _=>False):=
  ⟨_,ts,rfl,hl,aG,fun dx hd=>⟨rfl,dx,by
   have ne:dx≠hh.objs.size+1:=fun z=>by rw [z,aG] at hd;cases hd
   rw [aR ne] at hd;refine ⟨hd,ne,?_⟩
   funext b
   unfold upd;split
   ·rfl
   ·rfl⟩⟩
 have hln:(Value.ref (hh.objs.size+1)::us++[]).length=ps.length:=by
  rw [List.append_nil];have e:=r2.length;rw [F.len _ _ _ _ sp] at e;exact e.symm
 have hb':=hb ⟨(hh.push ot).push oe,g,d,t,os⟩ (Value.ref (hh.objs.size+1)::us) I2.kIn hln;rw [List.append_nil] at hb';refine call_exc I.kIn M.cl M.init (beq_iff_eq.mp M.fn) hz ?_;rw [hot,hoe];refine wpAny_call (codeAny_mono (F.run _ X.stack _ _ ⟨Value.ref (hh.objs.size+1)::us,[]⟩ (Value.ref (hh.objs.size+1)::us) _ _ _ (hr.make C us []) (I2.env0.make C us []) hb' r2 sp) fun r s' hq=>?_);cases r with
 | error e=>exact hq.elim
 | ok fl=>
  cases fl with
  | ret u=>
   obtain ⟨v,H',I3,rv,ev,dx,e1,e2,e3⟩:=I2.after hq;subst ev e3;exact ⟨rv,h _ dx s' ng fa e1 e2 I3⟩
  | next=>exact False.elim hq
  | brk=>exact False.elim hq
  | cont=>exact False.elim hq
end
noncomputable def tBase (C:Addr) (t:TA):TE:=fun σ H Q=>t σ H fun vs H1=>∃a vs',vs=.ref a::vs'/\vs'.length<=sizeLine/\H1 a=some (.ext (XO0 a C))/\Q .non H1
theorem aF8 (q:exC X.K C=true) (hg:Gl X x) (hm:X.mg x=some (.ref M)) (hga:specialIn X.K (.ref M) "__getattribute__" = some (some (.builtin "type.__getattribute__"))) (hr:readsIn X.K M (.type "type")=true)
  (hf:findCls X.K (.ref M) (.type "type") "__init__" = some (.val (.builtin "ValueError.__init__"))) (ha:PA X (e::es) t) (hdb:nDb x:=by decide) (he:starEach (e::es) X.env=(false,eval e X.env)::starEach es X.env:=by rfl) (hpl:(backTo cp (starEach es X.env)).any (·.1)=false:=by rfl)
  (ht:eval (.Call (.Attribute (.Name x np) "__init__" ap) (e::es) [] cp) X.env=(do
   let ov <- eval (.Name x np) X.env
   standAt ap.atName
   let (f,first) <- holding [ov] (getMethod ov "__init__" pl)
   callWith cp f first (backTo cp (starEach (e::es) X.env)) (backToKw cp (keywordEach [] X.env))):=by rfl):PE X (.Call (.Attribute (.Name x np) "__init__" ap) (e::es) [] cp) (tBase C t):=by
 intro pins s σ H Q I h;refine methodCall_KW (j_ I hg hm ?_ hdb) ht;refine method_cls I.kIn hga (cls_value I.kIn hr hf rfl ?_);refine PyProof.Rows.callWith_builtin1 (thn (ha cp pins _ σ H _ (I.tok _) h) fun us s1 ⟨vs,H1,I1,r1,a,vs',ev,hz,ea,q1⟩=>?_) he hpl;subst ev;obtain ⟨us,rfl,r5⟩:∃us2,us=Value.ref a::us2/\Vals vs' us2:=by
  cases r1 with
  | cons r0 r1=>cases r0;exact ⟨_,rfl,r1⟩
 obtain ⟨⟨t0,ht0⟩,_⟩:=I1.hok a _ ea;obtain ⟨hh,g,d,t,os⟩:=s1;refine YZ I1.kIn q ht0 rfl rfl ?_ (by rw [<-r5.length];exact hz);generalize hot:({cls:=.type "tuple",data:=.seq us.toArray}:Obj)=ot;have I2:Inv X pins σ H1 ⟨hh.push ot,g,d,t,os⟩:=I1.kept fun b u q=>Heap.get?_push_of_some _ q
 have e2:(hh.push ot).get? a=some _:=Heap.get?_push_of_some _ ht0;obtain ⟨h3,r3,k3,o3,g3,c3,d3,f3⟩:=FQ 0 (.ref hh.objs.size) e2 rfl;rw [<-r3];have g4:h3.get? a=some {cls:=.ref C,data:=.fields #[.ref hh.objs.size,.none,.none,.none,.bool false,.none]}:=by
  rw [r3];exact Heap.get?_update_self _ e2 rfl
 have I3:Inv X pins σ (upd H1 a (.ext (XO0 a C))) ⟨h3,g,d,t,os⟩:=I2.write (by rw [ea];exact True.intro) (.inl rfl) (fun b u hb z=>(k3 b hb).trans z) ⟨_,g4⟩ (aD7 ⟨_,g4⟩);rw [aIi ea] at I3;exact ⟨.non,H1,I3,rfl,q1⟩
def aIj (C:Addr) (f:Str) (ta tv:TE):TS:=fun D σ H=>tv σ H fun y H1=>ta σ H1 fun x H2=>∃(a:Addr) (t:Str),x=.ref a/\y=.str t/\H2 a=some (.ext (XO0 a C))/\∀dx,H2 dx=none->D.nx σ (upd (upd H2 dx (.ext (XD dx [(f,t)]))) a (.ext (XO1 a C dx)))
theorem aF9 {ta tv:TE} (M:XI X.K C fi) (hn:findIn X.K (.ref C) f=some none) (ha:PE X o ta) (hv:PE X value tv) (hs:swapsWith value (some (.Attribute o f pos')) pos.line X.env=pure false:=by rfl):PS X (.Assign [.Attribute o f pos'] value pos) (aIj C f ta tv):=by
 intro pins s σ H D I h;refine plainObj_wpAny_Assign_Attribute (thn (hv pins s σ H _ I h) fun u s1 ⟨y,H1,I1,ry,q⟩=>thn (ha pins s1 σ H1 _ I1 q) fun ov s2 ⟨x,H2,I2,rx,a,t,ex,ey,ea,q2⟩=>?_) hs;subst ex ey;obtain rfl:ov=Value.ref a:=rx;obtain ⟨tk,rfl⟩:∃tk,u=Value.str t tk:=ry;obtain ⟨⟨t0,ht0⟩,_⟩:=I2.hok a _ ea;obtain ⟨hh,g,d,tt,os⟩:=s2;refine aF6 I2.kIn M.cl M.sa hn M.ob ht0 rfl rfl rfl fun h' tk' n1 g1 k1=>?_
 have ne:hh.objs.size≠a:=Nat.ne_of_gt (Heap.lt_size ht0);have fr:H2 hh.objs.size=none:=I2.hok.fresh (Nat.le_refl _);have hn1:upd H2 a (.ext (XO1 a C hh.objs.size)) hh.objs.size=none:=by rw [aR ne];exact fr
 have hg1:hh.get? hh.objs.size=none:=Heap.get?_none_of_le (Nat.le_refl _);have mu:L2.Mut (H2 a):=by rw [ea];exact True.intro
 have xd:XD hh.objs.size [(f,t)] h':=by
  refine ⟨_,n1,fun g hg=>?_,fun g=>?_⟩
  ·by_cases z:g=f
   ·simp [z]
   ·simp [z] at hg
  ·by_cases z:g=f
   ·subst z;rw [List.lookup_cons_self];exact ⟨tk,if_pos rfl⟩
   ·rw [List.lookup_cons,beq_eq_false_iff_ne.mpr z];exact if_neg z
 have I3:Inv X pins σ (upd (upd H2 a (.ext (XO1 a C hh.objs.size))) hh.objs.size (.ext (XD hh.objs.size [(f,t)]))) ⟨h',g,d,tk',os⟩:=
  I2.un (aD4 (Un.write mu (.inl rfl) (fun b u hb z=>k1 b u hb z) ⟨_,g1⟩) hg1 hn1) (YW (I2.hok.write mu (.inl rfl) (fun b u hb z=>k1 b u hb z) ⟨_,g1⟩ (aIh ⟨t0,g1⟩)) hn1 (aLa xd))
 have e:upd (upd H2 a (.ext (XO1 a C hh.objs.size))) hh.objs.size (.ext (XD hh.objs.size [(f,t)]))=upd (upd H2 hh.objs.size (.ext (XD hh.objs.size [(f,t)]))) a (.ext (XO1 a C hh.objs.size)):=by
  funext b
  unfold upd;by_cases h1:b=a
  ·have h2:b≠hh.objs.size:=fun z=>ne (z.symm.trans h1)
   rw [if_neg h2,if_pos h1,if_pos h1]
  ·rw [if_neg h1,if_neg h1]
 rw [e] at I3;exact ⟨σ,_,I3,q2 hh.objs.size fr⟩
end Mi
namespace Mi
open PySem L2 PySem.SeqAt PySem.Spec PyProof.Rows
section
variable [KFrag]
def DV (H:Hp) (a:Addr) (kvs:List (Key×V)):Prop:=H a=some (.dK kvs)\/(kvs=[]/\H a=some (.dT []))
theorem aD8:∀{kvs:List (κ×V)} {vs:List (κ×Value)} {i:Nat} {p:κ×V},KV kvs vs->kvs[i]?=some p->∃u,vs[i]?=some (p.1,u)/\RelV p.2 u
 | _,_,_,_,.nil,h=>by simp at h
 | _,_,0,_,.cons r _,h=>by
  simp at h;subst h;exact ⟨_,by simp [r.1],r.2⟩
 | _,_,i+1,_,.cons _ t,h=>by
  obtain ⟨u,h1,h2⟩:=aD8 t (by simpa using h);exact ⟨u,by simpa using h1,h2⟩
section
variable {a:Addr}
theorem aIk (hu:DV H a kvs):L2.Mut (H a):=by
 rcases hu with h|⟨_,h⟩ <;> rw [h] <;> trivial
theorem aFa (I:Inv X pins σ H s) (hu:DV H a kvs):kvs.length<=sizeLine/\(a==sysModules)=false/\∃vs,KV kvs vs/\s.heap.DictOf (bT X.prog X.w) a vs:=by
 rcases hu with h|⟨rfl,h⟩
 ·exact U0 I.hok h
 ·exact U0 (jX I h).hok aG
theorem aIl (I:Inv X pins σ H s) (hu:DV H a kvs) (ho:s.heap.get? a=some o):∃u,H a=some u/\∀(H':Hp) (h:Heap),h.get? a=some o->fD X.prog X.w H' h a u:=by
 rcases hu with h|⟨_,h⟩
 ·obtain ⟨z,hs,vs,rel,o',es,ep,ho',c⟩:=I.hok a _ h;rw [ho] at ho';cases ho';exact ⟨_,h,fun H' h' e=>⟨z,hs,vs,rel,o,es,ep,e,c⟩⟩
 ·obtain ⟨z,hs,xs,rel,o',es,ep,ho',c⟩:=I.hok a _ h;rw [ho] at ho';cases ho';cases rel;exact ⟨_,h,fun H' h' e=>⟨z,hs,[],.nil,o,es,ep,e,c⟩⟩
end
noncomputable def aFb:HO->Bool
 | .tup _=>false
 | .frz _ (.lst _)=>false
 | _=>true
mutual
theorem xF {P:Addr->Prop} {H:Hp} {a:Addr} {u:HO} (ea:∀ob,H a=some ob->aFb ob=true):∀{v:V} {d:D},Rep P H v d->d.pure=true->Rep P (upd H a u) v d
 | _,_,.non,_=>.non
 | _,_,.bl b,_=>.bl b
 | _,_,.int i,_=>.int i
 | _,_,.str x,_=>.str x
 | _,_,.tup e r,h=>.tup (by rw [aR (fun z=>by rw [z] at e;have:=ea _ e;cases this)];exact e) (j4 ea r (by rw [D.pure] at h;exact h))
 | _,_,.lst _ _ _,h=>by rw [D.pure] at h;cases h
 | _,_,.frz e r,h=>.frz (e.imp (fun ⟨o,e⟩=>⟨o,by rw [aR (fun z=>by rw [z] at e;have:=ea _ e;cases this)];exact e⟩) id) (j4 ea r (by rw [D.pure] at h;exact h))
 | _,_,.cel _ _ _,h=>by rw [D.pure] at h;cases h
 | _,_,.dK _ _ _ _,h=>by rw [D.pure] at h;cases h
 | _,_,.dT _ _ _ _,h=>by rw [D.pure] at h;cases h
 | _,_,.fdK _ _ _,h=>by rw [D.pure] at h;cases h
 | _,_,.fdT _ _ _,h=>by rw [D.pure] at h;cases h
 | _,_,.exc _ _ _,h=>by rw [D.pure] at h;cases h
 | _,_,.ins _ _ _,h=>by rw [D.pure] at h;cases h
theorem j4 {P:Addr->Prop} {H:Hp} {a:Addr} {u:HO} (ea:∀ob,H a=some ob->aFb ob=true):∀{v:List V} {d:List D},bG P H v d->D.aN d=true->bG P (upd H a u) v d
 | _,_,.nil,_=>.nil
 | _,_,.cons r t,h=>by
  rw [D.aN,Bool.and_eq_true] at h;exact .cons (xF ea r h.1) (j4 ea t h.2)
end
theorem sS:∀{acc:List D} {y:D},D.aN acc=true->y.pure=true->D.aN (acc++[y])=true
 | [],y,_,h=>by show (y.pure&&true)=true;rw [h];rfl
 | x::acc,y,h,hy=>by
  rw [D.aN,Bool.and_eq_true] at h;show (x.pure&&D.aN (acc++[y]))=true;rw [h.1,sS h.2 hy];rfl
end
def aBe:D->D->Res D
 | .tup a,.tup b=>if decide (a.length+b.length<=lim) then .ok (.tup (a++b)) else .bad
 | _,_=>.bad
def nJ:List D->List D->List (D×D)->List (D×D)
 | k::ks,v::vs,m=>nJ ks vs (putD m k v)
 | _,_,m=>m
noncomputable def aD9 (c:FT) (body:FS):Nat->List D->Res Fl
 | 0,_=>.bad
 | n+1,ρ=>do
  let k <- c ρ
  if k then (do
   let r <- body ρ
   match r with
   | .nx ρ'=>aD9 c body n ρ'
   | .ct ρ'=>aD9 c body n ρ'
   | .bk ρ'=>.ok (.nx ρ')
   | .rt d=>.ok (.rt d))
  else .ok (.nx ρ)
def aM7 (c:FT) (body:FS):FS:=fun ρ=>aD9 c body 1000 ρ
noncomputable def fzD (i:Nat) (kvs:List (D×D)) (ρ:List D):List D:=(ρ.map fun d=>if d.pure then d else .uD).set i (.fdc kvs)
def R0 (n i:Nat) (t:D->Res (List D)) (c:FT) (f:FE):FE:=fun ρ=>do
 let d <- h_ i ρ
 match d with
 | .dct kvs=>if decide (kvs.length<=lim)&&(kvs.all (fun p=>!isTup p.1)&&D.aN (kvs.map (·.2))) then (do
   let ys <- jK (q_ n t c f false (fzD i kvs ρ)) [] (jH kvs)
   pure (.lst ys)) else .bad
 | _=>.bad
section
variable [KFrag]
section
theorem Y4:OpR X (binaryOp .Add) (r2 aBe false):=by
 intro pins s σ H x y v u Q I rx ry h;obtain ⟨a,b,d,p,q,e,k⟩:=h;unfold aBe at e;split at e
 ·rename_i da db;split at e
  ·rename_i hl;cases e;obtain ⟨l1,xs1,rfl,e1,r1⟩:=p.inv;obtain ⟨l2,xs2,rfl,e2,r2⟩:=q.inv;cases rx;cases ry;have hz:xs1.length+xs2.length<=sizeLine:=by rw [r1.length,r2.length];exact mX hl
   obtain ⟨its,w1,p1,_⟩:=I.tuple (.of e1);obtain ⟨its2,w2,p2,_⟩:=I.tuple (.of e2);obtain ⟨⟨cls,dd,data,sl⟩,ho,hc,n,hd⟩:=id p1;obtain ⟨⟨cls2,dd2,data2,sl2⟩,ho2,hc2,n2,hd2⟩:=id p2;simp only at hc hd hc2 hd2;by_cases hv:its=[]
   ·have:xs1=[]:=w1.xU.mp hv;subst this;cases r1;refine concat_meets ⟨_,ho,hc⟩ ⟨_,ho2,hc2⟩ noFill_tuple_add seq_tuple_add PySem.F.slot_tuple_add PySem.F.entry_tuple_add (PySem.F.args_tuple_add_2 _ _)
     (tuple_addW0 l1 l2 its.toArray its2.toArray n n2 dd dd2 sl sl2 (by simp [hv])) ⟨by subst hc hd;exact ho,by subst hc2 hd2;exact ho2,.ref l2,H,I,rfl,?_⟩
    exact k.self (.tup e2 r2) (fun z=>by cases z)
   ·refine aEc pins s σ H (.ref l1) (.ref l2) _ _ Q I rfl rfl ⟨l1,l2,xs1,xs2,rfl,rfl,.of e1,.of e2,fun z=>hv (w1.xU.mpr z),hz,fun z=>?_,fun z p hp=>?_⟩
    ·subst z;cases r2;rw [List.append_nil] at k;exact k.self (.tup e1 r1) (fun z=>by cases z)
    ·have sp:bV H (upd H p (.tup (xs1++xs2))):=bV.upd hp;exact k _ _ sp (.tup aG ((r1.append r2).same sp)) fun z=>by cases z
  ·exact bx e
 ·exact bx e
theorem aIm (hp:PassesOwn (model X.prog X.w) X.A X.env X.xe) (hc:PT X c (gT gc)) (hb:PSs X body (tS own fb)):PS X (.While c body [] pos) (tS own (aM7 gc fb)):=
 PS.imp (aAh hp hc hb) fun D σ H ⟨ρ,fl,E,h,q⟩=>by
 refine ⟨fun m σ' H'=>∃ρ' ,ES own H' σ' ρ'/\aD9 gc fb m ρ'=.ok fl/\kS own D σ' H' fl,⟨1000,ρ,E,h,q⟩,?_⟩;rintro m σ H ⟨ρ,E,h,q⟩;cases m with
 | zero=>exact bx h
 | succ m=>
  rw [aD9] at h;obtain ⟨k,h1,h2⟩:=bA h;refine ⟨ρ,k,E.er,h1,fun H1 s=>?_⟩;cases k with
  | true=>
   rw [if_pos rfl];rw [if_pos rfl] at h2;obtain ⟨r,h3,h4⟩:=bA h2;refine ⟨fun σ' H'=>∃ρ',ES own H' σ' ρ'/\aD9 gc fb m ρ'=.ok fl/\kS own D σ' H' fl,fun σ' H' w=>⟨m,Nat.lt_succ_self m,w⟩,ρ,r,E.same s,h3,?_⟩;have q1:=q.step (.same s);cases r with
   | nx ρ'=>exact fun σ' H' ku E'=>⟨ρ',E',h4,q1.step ku⟩
   | ct ρ'=>exact fun σ' H' ku E'=>⟨ρ',E',h4,q1.step ku⟩
   | bk ρ'=>cases h4;exact fun σ' H' ku E'=>q1 σ' H' ku E'
   | rt d=>cases h4;exact q1
  | false=>
   rw [if_neg (by simp)];rw [if_neg (by simp)] at h2;cases h2;exact (q.step (.same s)) σ H1 (fun a o e n=>⟨e,n⟩) (E.same s)
end
def Itk (a:Addr) (o:Obj) (u:HO) (kvs:List (Key×V)):It where
 go:=fun i H=>H a=some (.frz o u)/\∃p,kvs[i]?=some p
 yld:=fun i H x H'=>H'=H/\∃p,kvs[i]?=some p/\x=kV p.1
 stop:=fun i H=>H a=some (.frz o u)/\kvs.length<=i
theorem aDa (h:(bT P w).is k v=true):RelV (kV k) v:=by
 have h:MT k v=true:=h;rcases cJ h with ⟨i,t,rfl,rfl⟩|⟨x,t,rfl,rfl⟩
 ·exact ⟨t,rfl⟩
 ·exact ⟨t,rfl⟩
theorem JS {K:PySem.W.Frag} {o:Obj} {u:HO} {kvs:List (Key×V)} {vs:List (Key×Value)} {ep:Nat} (hd:∀h:Heap,h.get? a=some o->h.DictAt (bT P w) a vs ep) (rel:KV kvs vs) :
  Turn P w K tg (Itk a o u kvs) [it] it (fun i h=>h.IsKeyIter it a i vs.length ep) where
 mem:=by simp
 obj:=fun i h st b hb=>by
  have e:b=it:=by simpa using hb
  subst e;obtain ⟨o,e,c,d⟩:=st;exact ⟨o,e,fun v z=>by rw [d] at z;cases z⟩
 keep:=fun i h h' st k=>st.at fun o e=>k it (by simp) o e
 item:=by
  intro X hP hw hK hc i pins s σ H E I hf st hg;subst hP hw hK;obtain ⟨ea,⟨k,x⟩,hx⟩:=hg;obtain ⟨px,_⟩:=I.hok a _ ea;obtain ⟨v,hv,rv⟩:=aD8 rel hx;obtain ⟨f0,f1,f2,f3,f4,f5⟩:=hf it (by simp);refine wpAny_pyNext_dict_item st (hd _ px) hv fun key h' hk st' sb=>?_
  have I1:Inv X pins σ H {s with heap:=h'}:=I.turned (fun b o hb e=>(sb.2 b hb).trans e) f0 f1 f3 f4 f5;obtain ⟨o',e,c,d⟩:=id st';exact ⟨key,rfl,WQ e c d (by decide) ⟨kV k,H,I1,aDa hk,⟨rfl,_,hx,rfl⟩,st',fun b hb=>(hf b hb).1⟩⟩
 done:=by
  intro X hP hw hK hc i pins s σ H E I hf st hg;subst hP hw hK;obtain ⟨ea,hx⟩:=hg;obtain ⟨px,_⟩:=I.hok a _ ea;obtain ⟨f0,f1,f2,f3,f4,f5⟩:=hf it (by simp);have hl:kvs.length=vs.length:=Paired.length rel;exact wpAny_pyNext_dict_end (I.ok.hd hc) st (hd _ px) (List.getElem?_eq_none_iff.mpr (by lia)) fun h' eb=>⟨rfl,I.turned (fun b o hb e=>eb b o hb e) f0 f1 f3 f4 f5⟩
 self:=fun _ _ _ _ _ st h=>wpAny_pyIter_keyiter st h
section
variable {a:Addr}
theorem aBf (I:Inv X pins σ H s) (e:H a=some (.frz o u)) (hn:∀o u,X.H₀ a≠some (.frz o u)):Inv X pins σ (upd H a u) s:=by
 have ne:∀b,H b=none->b≠a:=fun b h z=>by subst z;rw [e] at h;cases h
 have keepT:∀b xs,H b=some (.tup xs)->upd H a u b=some (.tup xs):=fun b xs h=>by
  rw [aR (fun z=>by subst z;rw [e] at h;cases h)];exact h
 have keepO:∀b x,H b=some (.own x)->upd H a u b=some (.own x):=fun b x h=>by
  rw [aR (fun z=>by subst z;rw [e] at h;cases h)];exact h
 refine ⟨I.ok,I.os,I.bare,⟨I.base.keep,I.base.slot,fun b o h1 h2 h3=>?_,I.base.there,fun b xs h=>?_,fun b o' u' h=>?_,fun b ps h=>?_⟩,I.loc,I.cell,?_,fun x c h=>?_,fun p hp=>?_,fun b ob h=>?_,I.len⟩
 ·have:=I.base.free b o h1 h2 h3;rw [aR (ne b this)];exact this
 ·exact keepT b xs (I.base.tups b xs h)
 ·have:=I.base.frzs b o' u' h;rw [aR (fun z=>by subst z;exact hn _ _ h)];exact this
 ·obtain ⟨more,h1⟩:=I.base.tbls b ps h;refine ⟨more,?_⟩;rw [aR (fun z=>by subst z;rw [e] at h1;cases h1)];exact h1
 ·rw [aR (ne _ I.free)];exact I.free
 ·have:=I.freeC x c h;rw [aR (ne _ this)];exact this
 ·obtain ⟨h1,h2,h3⟩:=I.pin p hp;exact ⟨h1,by rw [aR (ne _ h2)];exact h2,h3⟩
 ·by_cases hb:b=a
  ·subst hb;rw [aG] at h;cases h;obtain ⟨_,h2⟩:=I.hok b _ e;exact h2.stay (fun _ _ _ q=>q) (fun c hc=>keepO c b hc) keepT
  ·rw [aR hb] at h;exact (I.hok b _ h).stay (fun _ _ _ q=>q) (fun c hc=>keepO c b hc) keepT
theorem aBg (I:Inv X pins σ H s) (hu:DV H a kvs):∀o u,X.H₀ a≠some (.frz o u):=fun o u h=>by
 have:=I.base.frzs a o u h;rcases hu with h|⟨_,h⟩ <;> (rw [h] at this;cases this)
theorem aFc {i:Nat} {np:Pos} (hN:X.N[i]?=some x) (hv:Vis X.env.scope x) (hd:nDb x:=by decide) (hcd:nCd x:=by decide) :
  PI X tg (.Name x np) (fun σ H R=>∃a kvs u,σ[i]?=some (some (.ref a))/\DV H a kvs/\H a=some u/\∀o,R (Itk a o u kvs) (upd H a (.frz o u))):=by
 intro pins s σ H R I ⟨a,kvs,u,hσ,hu,hua,q⟩;refine thn (dF hN hv hd hcd pins s σ H (fun v H1=>v=.ref a/\H1=H) I ⟨_,hσ,rfl,rfl⟩) fun v s1 ⟨w,H1,I1,r1,e1,e2⟩=>?_
 subst e1 e2;cases r1;obtain ⟨z,hs,vs,rel,dd⟩:=aFa I1 hu;obtain ⟨ep,da⟩:=dd.dictAt;obtain ⟨o,es,ho,r⟩:=id da;have hda:∀h:Heap,h.get? a=some o->h.DictAt (bT X.prog X.w) a vs ep:=fun h e=>⟨o,es,e,r⟩
 obtain ⟨u',hu2,fu⟩:=aIl I1 hu ho;rw [hua] at hu2;cases hu2;have If:Inv X pins σ (upd H1 a (.frz o u)) s1:=I1.write (aIk hu) (.inl rfl) (fun _ _ _ q=>q) ⟨o,ho⟩ ⟨ho,fu _ _ ho⟩;refine wpAny_pyIter_dict hs da ?_;have I2:Inv X pins σ (upd H1 a (.frz o u)) {s1 with heap:=s1.heap.push {cls:=.type "dict_keyiterator",data:=.fields #[.ref a,.int 0 0,.int vs.length 0,.int ep 0]}}:=If.kept fun b o e=>Heap.get?_push_of_some _ e
 refine ⟨s1.heap.objs.size,[s1.heap.objs.size],fun i h=>h.IsKeyIter s1.heap.objs.size a i vs.length ep,Itk a o u kvs,_,rfl,I2,JS hda rel,⟨_,Heap.get?_push_size _ rfl,rfl,rfl⟩,fun b hb=>?_,q o⟩;have e:b=s1.heap.objs.size:=by simpa using hb
 subst e;exact If.aGl (Nat.le_refl _) (If.hok.fresh (Nat.le_refl _))
end
theorem aDb (r:Rep P H (.ref a) (.dct ds)) (hua:H a=some u) (hp:D.aN (ds.map (·.2))=true):Rep P' (upd H a (.frz o u)) (.ref a) (.fdc ds):=by
 have hna:∀ob,H a=some ob->aFb ob=true:=fun xs z=>by
  cases r with
  | dK e _ _ _=>rw [e] at z;cases z;rfl
  | dT e _ _ _=>rw [e] at z;cases z;rfl
 have goK:∀{kvs:List (Key×V)} {ds:List (D×D)},gQ P H kvs ds->D.aN (ds.map (·.2))=true->gQ P' (upd H a (.frz o u)) kvs ds:=by
  intro kvs ds r;induction kvs generalizing ds with
  | nil=>cases r;intro _;exact .nil
  | cons p kvs ih=>cases r with
   | cons r t=>
    intro h;rw [List.map_cons,D.aN,Bool.and_eq_true] at h;exact .cons ((xF hna r h.1).bM h.1) (ih t h.2)
 have goT:∀{kvs:List (List Key×V)} {ds:List (D×D)},m9 P H kvs ds->D.aN (ds.map (·.2))=true->m9 P' (upd H a (.frz o u)) kvs ds:=by
  intro kvs ds r;induction kvs generalizing ds with
  | nil=>cases r;intro _;exact .nil
  | cons p kvs ih=>cases r with
   | cons r t=>
    intro h;rw [List.map_cons,D.aN,Bool.and_eq_true] at h;exact .cons ((xF hna r h.1).bM h.1) (ih t h.2)
 cases r with
 | dK e _ r n=>rw [e] at hua;cases hua;exact .fdK aG (goK r hp) n
 | dT e _ r n=>rw [e] at hua;cases hua;exact .fdT aG (goT r hp) n
theorem aLb (r:Rep P H v (.dct ds)) (hb:ds.all (fun p=>!isTup p.1)=true):∃a kvs u,v=.ref a/\DV H a kvs/\H a=some u/\U4 u=true/\∀{P'},∀H',bG P' H' (kvs.map fun p=>kV p.1) (jH ds):=by
 cases r with
 | dK e _ rk _=>
  refine ⟨_,_,_,rfl,.inl e,e,rfl,fun {P'} H'=>?_⟩;clear e;rename_i n;clear n;have go:∀{kvs:List (Key×V)} {ds:List (D×D)},gQ P H kvs ds->bG P' H' (kvs.map fun p=>kV p.1) (jH ds):=by
   intro kvs ds r;induction kvs generalizing ds with
   | nil=>cases r;exact .nil
   | cons p kvs ih=>cases r with
    | @cons k v d r ds h t=>exact .cons (by cases k <;> first|exact .int _|exact .str _) (ih t)
  exact go rk
 | dT e _ rt _=>
  cases rt with
  | nil=>exact ⟨_,[],_,rfl,.inr ⟨rfl,e⟩,e,rfl,fun H'=>.nil⟩
  | cons r t=>simp [isTup] at hb
end
variable [KFrag]
theorem aBh {ρ:List D} {f:D->D} (h:f .uD=.uD) (j:Nat):(ρ.map f).getD j .uD=f (ρ.getD j .uD):=by
 rw [List.getD_eq_getElem?_getD,List.getD_eq_getElem?_getD,List.getElem?_map];cases ρ[j]? with
 | none=>exact h.symm
 | some d=>rfl
theorem aLc (E:ER H σ ρ) (hσ:σ[i]?=some (some (.ref a))) (r:Rep All H (.ref a) (.dct ds)) (hua:H a=some u) (hmu:U4 u=true) (hp:D.aN (ds.map (·.2))=true):ER (upd H a (.frz o u)) σ (fzD i ds ρ):=by
 have hna:∀ob,H a=some ob->aFb ob=true:=fun xs z=>by rw [hua] at z;cases z;cases u <;> first|rfl|cases hmu
 intro j hj;unfold fzD at hj ⊢;rw [dG] at hj ⊢;by_cases h:i=j/\i<(ρ.map fun d=>if d.pure then d else .uD).length
 ·rw [if_pos h];obtain ⟨rfl,_⟩:=h;exact ⟨_,hσ,aDb r hua hp⟩
 ·rw [if_neg h] at hj ⊢;rw [aBh (by rfl)] at hj ⊢;by_cases hpu:(ρ.getD j .uD).pure=true
  ·rw [if_pos hpu] at hj ⊢;obtain ⟨v,h1,h2⟩:=E j hj;exact ⟨v,h1,xF hna h2 hpu⟩
  ·rw [if_neg hpu] at hj;exact absurd rfl hj
section
variable {x c y:Str}
theorem aBi (S:dH X.N X.env.scope scope [c]) (hn:X.N.length=n) (hcalm:X.calm=true) (hN:X.N[i]?=some x) (hv:Vis X.env.scope x) (hg:∀y,PG (mkC X scope [c] y) (.Name c cpos) (xM n)) (hc:∀y,PT (mkC X scope [c] y) cnd (gT gc)) (he:∀y,PE (mkC X scope [c] y) elt (gE fe re))
  (hs:∀z,foldedSetIterable (.Name x np) X.env z=pure z) (ho:own iy=o) (hNn:X.N.Nodup) (hiy:X.N[iy]?=some y) (hxy:Loc X.env.scope y) (hfy:X.fn y=true\/X.env.scope.names.lookup y=some .local) (hsw:swapsWith (.ListComp elt [⟨.Name c cpos,.Name x np,[cnd],0⟩] scope pos) (some (.Name y py)) pos2.line X.env=pure true)
  (hd:nDb x:=by decide) (hcd:nCd x:=by decide) :
  PS X (.Assign [.Name y py] (.ListComp elt [⟨.Name c cpos,.Name x np,[cnd],0⟩] scope pos) pos2) (tS own (cG o iy (R0 n i yC gc fe) true)):=by
 intro pins s σ H Dn I h;obtain ⟨ρ,d,E,hcomp,q⟩:=OD ho h;obtain ⟨d0,h1,h2⟩:=bA hcomp;obtain ⟨v,hσ,r,ed⟩:=E.var h1;split at h2
 ·rename_i ds;split at h2
  ·rename_i hb;rw [Bool.and_eq_true,Bool.and_eq_true] at hb;obtain ⟨ys,h3,h4⟩:=bA h2;cases h4;obtain ⟨a,kvs,u,rfl,hu,hua,hmu,rk⟩:=aLb r hb.2.1;have hlen:kvs.length=(jH ds).length:=by have:=(rk (P':=All) H).length;simpa using this
   have hlim:(jH ds).length<=lim:=by unfold jH;rw [List.length_map];exact of_decide_eq_true hb.1
   have hno:=aBg I hu;have hσl:σ.length=n:=I.len.trans hn;have tg:=n6 n;refine thn (YG S hcalm (aFc hN hv hd hcd) (fun X' cc=>by obtain ⟨y,rfl⟩:=nG cc;exact hg y) (fun X' cc=>by obtain ⟨y,rfl⟩:=nG cc;exact hc y) (fun X' cc=>by obtain ⟨y,rfl⟩:=nG cc;exact he y) hs hNn hiy hxy hfy hsw pins s σ H
    {Dn with nx:=fun σ' H'=>∃o,H' a=some (.frz o u)/\Dn.nx σ' (upd H' a u)} I ⟨a,kvs,u,hσ,hu,hua,fun o p hp=>?_⟩) fun f s' hq=>?_
   ·have hpa:p≠a:=fun z=>by subst z;rw [aG] at hp;cases hp
    have hp0:H p=none:=by rw [aR hpa] at hp;exact hp
    have EF:ER (upd H a (.frz o u)) σ (fzD i ds ρ):=aLc E hσ r hua hmu hb.2.2;refine ⟨fun i' n' vs H'=>n'=kvs.length-i'/\i'<=kvs.length/\H' p=some (.lst vs)/\bV (upd H a (.frz o u)) H'/\∃acc,acc.length<=i'/\D.aN acc=true/\bG All H' vs acc/\jK (q_ n yC gc fe false (fzD i ds ρ)) acc ((jH ds).drop i')=.ok ys,⟨kvs.length,rfl,Nat.zero_le _,aG,bV.upd hp,[],Nat.zero_le _,rfl,.nil,h3⟩,?_⟩;rintro i' n' vs H' ⟨rfl,hi,hH,sm,acc,hal,pacc,racc,hf⟩;have ea:H' a=some (.frz o u):=sm a _ aG;refine ⟨hH,?_⟩;rcases Nat.lt_or_ge i' kvs.length with hlt|hge
    ·refine .inr ⟨⟨ea,_,List.getElem?_eq_getElem hlt⟩,?_,fun x H2 hy=>?_⟩
     ·rw [racc.length];exact Nat.lt_of_le_of_lt hal (Nat.lt_of_lt_of_le (hlen▸hlt) (Nat.le_trans hlim (by rw [sizeLine_eq];decide)))
     ·obtain ⟨rfl,pr,hx,rfl⟩:=hy;have hlt2:i'<(jH ds).length:=hlen▸hlt;obtain ⟨dx,hdx,rx⟩:=(rk H2).at (i:=i') (v:=kV pr.1) (by simp [hx]);have edx:(jH ds)[i']=dx:=by
       have:=List.getElem?_eq_getElem hlt2;rw [hdx] at this;exact (Option.some.inj this).symm
      rw [List.drop_eq_getElem_cons hlt2,edx] at hf;obtain ⟨acc2,hs,hf⟩:=bA hf;obtain ⟨bs,hbs,hs⟩:=bA hs;obtain ⟨ok,hok,hs⟩:=bA hs;refine tg (kV pr.1) dx bs σ H2 _ hσl rx hbs fun σ2 hx2 hbs2=>⟨hx2,?_⟩
      have E2:ER H2 σ2 (MK n (fzD i ds ρ)++bs):=(EF.same sm).ext hσl hx2 hbs2;refine ⟨_,ok,E2,hok,fun H4 s4=>?_⟩;cases ok with
      | true=>
       rw [if_pos rfl];rw [if_pos rfl] at hs;obtain ⟨yy,hy2,hs⟩:=bA hs;split at hs
       ·rename_i hk;cases hs;have py:yy.pure=true:=by simpa using hk
        refine ⟨_,yy,E2.same s4,hy2,fun w H5 s5 r5 n5=>⟨s5 p _ (s4 p _ hH),kvs.length-(i'+1),by lia,rfl,hlt,aG,?_,acc++[yy],?_,sS pacc py,?_,hf⟩⟩
        ·exact fun b ob e=>by
          rw [aR (bI e hp)];exact s5 b ob (s4 b ob (sm b ob e))
        ·rw [List.length_append,List.length_singleton];lia
        ·have hp5:H5 p=some (.lst vs):=s5 p _ (s4 p _ hH);have hpn:∀ob,H5 p=some ob->aFb ob=true:=fun xs z=>by rw [hp5] at z;cases z;rfl
         exact j4 hpn ((racc.same (s4.trans s5)).snoc r5) (sS pacc py)
       ·exact bx hs
      | false=>
       rw [if_neg (by simp)];rw [if_neg (by simp)] at hs;cases hs;exact ⟨kvs.length-(i'+1),by lia,rfl,hlt,s4 p _ hH,sm.trans s4,acc,by lia,pacc,racc.same s4,hf⟩
    ·refine .inl ⟨⟨ea,hge⟩,o,ea,?_⟩;rw [List.drop_eq_nil_of_le (by lia)] at hf;cases hf;have hna:∀ob,H' a=some ob->aFb ob=true:=fun xs z=>by rw [ea] at z;cases z;rcases hu with h|⟨_,h⟩ <;> (rw [hua] at h;cases h;rfl)
     have sF:bV H (upd H' a u):=fun b ob e=>by
      by_cases hba:b=a
      ·subst hba;rw [aG,<-hua];exact e
      ·rw [aR hba];exact sm b ob (by rw [aR hba];exact e)
     have hpF:upd H' a u p=some (.lst vs):=by rw [aR hpa];exact hH
     have rF:∀{P:Addr->Prop},bG P (upd H' a u) vs ys:=fun {P}=>(j4 hna racc pacc).bM pacc
     exact q _ _ sF (.lst hpF trivial rF) fun _=>.lst hpF hp0 rF
   ·cases f with
    | next=>
     obtain ⟨σ',H',I',o,ea,q'⟩:=hq;exact ⟨σ',_,aBf I' ea hno,q'⟩
    | brk=>exact hq
    | cont=>exact hq
    | ret u=>exact hq
  ·exact bx h2
 ·exact bx h2
end
end Mi
namespace Wz
open PySem PySem.Spec
noncomputable abbrev itO (t:Addr) (i:Nat):Obj:={cls:=.type "tuple_iterator",data:=.fields #[.ref t,.int i 0]}
noncomputable abbrev tuO (xs:Array Value) (n:Nat) (dd:Option Addr) (sl:Array (Option Value)):Obj:={cls:=.type "tuple",dict:=dd,data:=.seq xs n,slots:=sl}
abbrev zpO (f0 f1:Value) (TI TO:Addr):Obj:={cls:=.type "zip",data:=.fields #[f0,f1,.bool false,.ref TI,.ref TO]}
noncomputable abbrev prO (a b:Value):Obj:={cls:=.type "tuple",data:=.seq #[a,b]}
theorem VD (it t:Addr) (i:Nat) (xs:Array Value) (n:Nat) (dd:Option Addr) (sl:Array (Option Value)) (x:Value) (hx:xs[i]?=some x) :
  Meets (Builtin.«tuple_iterator.__next__» ⟨[.ref it],[]⟩) (fun _ R s=>s.heap.get? it=some (itO t i)/\s.heap.get? t=some (tuO xs n dd sl)/\R (.ok (.ret x)) {s with heap:=s.heap.update it (Obj.mapFields (·.setIfInBounds 1 (rawInt (i+1))))}):=.of_wp fun prog w A R s hs=>by
 obtain ⟨hp,g,d,tk,os⟩:=s;obtain ⟨e1,e2,hq⟩:=hs
 wp_walk
 rw [Int.toNat_natCast,hx]
 wp_walk
 exact ⟨_,rfl,hq⟩
theorem VF (it t:Addr) (i:Nat) (xs:Array Value) (n:Nat) (dd:Option Addr) (sl:Array (Option Value)) (hx:xs[i]?=none) :
  Meets (Builtin.«tuple_iterator.__next__» ⟨[.ref it],[]⟩) (fun A R s=>A.handled=none/\s.heap.get? it=some (itO t i)/\s.heap.get? t=some (tuO xs n dd sl)/\∀h' e,Heap.ExtBut it s.heap h'->(∃o,h'.get? e=some o/\o.cls=.type "StopIteration")->R (.error (.ref e)) {s with heap:=h'}):=.of_wp fun prog w A R s hs=>by
 obtain ⟨hp,g,d,tk,os⟩:=s;obtain ⟨hh,e1,e2,hq⟩:=hs
 wp_walk
 rw [Int.toNat_natCast,hx]
 wp_walk
 have hh1:A.in1.handled=none:=hh;unfold raiseNew
 wp_walk
 exact hq _ _ (((Heap.SameBut.update ..).extBut.push _).push _) ⟨_,Heap.get?_push_size _ rfl,rfl⟩
section
variable {prog:Program} {w:World} {A:Around} {E:Value->Shared->Prop} {s:Shared} {it t:Addr} {i:Nat} {xs:Array Value} {x:Value} {n:Nat} {dd:Option Addr} {sl:Array (Option Value)}
theorem drawn {Q:Value->Shared->Prop} (e1:s.heap.get? it=some (itO t i)) (e2:s.heap.get? t=some (tuO xs n dd sl)) (hx:xs[i]?=some x)
  (q:∀h',h'.get? it=some (itO t (i+1))->Heap.SameBut it s.heap h'->Q x {s with heap:=h'}):wpAny (model prog w) A (Builtin.SmallTypes.nextOf (.ref it)) Q E s:=by
 have ty:s.TypeIs (.ref it) "tuple_iterator":=⟨_,e1,rfl⟩
 refine wpAny_bind (wpAny_callSpecial?_slot ty F.slot_tuple_iterator_next ?_);refine call_meets F.slot_tuple_iterator_next ty F.entry_tuple_iterator_next (F.args_tuple_iterator_next_1 _) (VD it t i xs n dd sl x hx) ⟨e1,e2,wpAny_pure (q _ ?_ (Heap.SameBut.update ..))⟩;exact Heap.get?_update_self _ e1 rfl
theorem over {Q:Value->Shared->Prop} (hh:A.handled=none) (e1:s.heap.get? it=some (itO t i)) (e2:s.heap.get? t=some (tuO xs n dd sl)) (hx:xs[i]?=none)
  (q:∀h' e,Heap.ExtBut it s.heap h'->(∃o,h'.get? e=some o/\o.cls=.type "StopIteration")->E (.ref e) {s with heap:=h'}):wpAny (model prog w) A (Builtin.SmallTypes.nextOf (.ref it)) Q E s:=by
 have ty:s.TypeIs (.ref it) "tuple_iterator":=⟨_,e1,rfl⟩
 refine wpAny_bind (wpAny_callSpecial?_slot ty F.slot_tuple_iterator_next ?_);exact call_meets F.slot_tuple_iterator_next ty F.entry_tuple_iterator_next (F.args_tuple_iterator_next_1 _) (VF it t i xs n dd sl hx) ⟨hh,e1,e2,fun h' e k o=>q h' e k o⟩
end
structure Apart (z TI TO i1 i2 l1 l2:Addr):Prop where
 zTI:z≠TI
 zTO:z≠TO
 z1:z≠i1
 z2:z≠i2
 zl:z≠l1
 zm:z≠l2
 TT:TI≠TO
 T1:TI≠i1
 T2:TI≠i2
 O1:TO≠i1
 O2:TO≠i2
 Ol:TO≠l1
 Om:TO≠l2
 ij:i1≠i2
 il:i1≠l1
 im:i1≠l2
 jl:i2≠l1
 jm:i2≠l2
def aBj (z TO i1 i2:Addr) (h h':Heap):Prop:=∀c o,c≠z->c≠TO->c≠i1->c≠i2->h.get? c=some o->h'.get? c=some o
noncomputable abbrev nxt (z:Addr):Sem PySem.Fin:=Builtin.«zip.__next__» ⟨[.ref z],[]⟩
abbrev Got (Q:Value->Shared->Prop):PySem.Fin->Shared->Prop:=fun r t=>∃v,r=.done (.ret v)/\Q v t
section
theorem there (e:s.heap.get? c=some o) (q:Q (some o) s):wpAny (model prog w) A (loadIfAlive c) Q E s:=fun Γ p _=>by
 show Sem.wp _ Γ (.loadIfAlive c pure) _ _ p s;rw [Sem.wp_loadIfAlive,e];exact q
end
theorem five (h:Heap) (a b c d e:Obj) (fa:a.isFreed=false) (fb:b.isFreed=false) (fc:c.isFreed=false) (fd:d.isFreed=false) (fe:e.isFreed=false) :
  (((((h.push a).push b).push c).push d).push e).get? h.objs.size=some a/\(((((h.push a).push b).push c).push d).push e).get? (h.objs.size+1)=some b/\(((((h.push a).push b).push c).push d).push e).get? (h.objs.size+2)=some c/\(((((h.push a).push b).push c).push d).push e).get? (h.objs.size+3)=some d/\(((((h.push a).push b).push c).push d).push e).get? (h.objs.size+4)=some e/\
  (∀x o,h.get? x=some o->(((((h.push a).push b).push c).push d).push e).get? x=some o)/\(((((h.push a).push b).push c).push d).push e).objs.size=h.objs.size+5:=by
 have z1:(h.push a).objs.size=h.objs.size+1:=Heap.size_push ..;have z2:((h.push a).push b).objs.size=h.objs.size+2:=(Heap.size_push ..).trans (by rw [z1]);have z3:(((h.push a).push b).push c).objs.size=h.objs.size+3:=(Heap.size_push ..).trans (by rw [z2]);have z4:((((h.push a).push b).push c).push d).objs.size=h.objs.size+4:=(Heap.size_push ..).trans (by rw [z3]);have up:∀{h:Heap} {x:Addr} {o q:Obj},h.get? x=some o->(h.push q).get? x=some o:=fun e=>Heap.get?_push_of_some _ e
 have g2:=Heap.get?_push_size (h.push a) (o:=b) fb;have g3:=Heap.get?_push_size ((h.push a).push b) (o:=c) fc;have g4:=Heap.get?_push_size (((h.push a).push b).push c) (o:=d) fd;have g5:=Heap.get?_push_size ((((h.push a).push b).push c).push d) (o:=e) fe;rw [z1] at g2;rw [z2] at g3;rw [z3] at g4;rw [z4] at g5;exact ⟨up (up (up (up (Heap.get?_push_size h fa)))),up (up (up g2)),up (up g3),up g4,g5,fun x o q=>up (up (up (up (up q)))),(Heap.size_push ..).trans (by rw [z4])⟩
theorem Y5:typeLookup (.type "zip") "keys" = pure none:=by rw [typeLookup_type,builtinLookup_eq_fast];kernel_rfl
theorem noGet:typeLookup (.type "zip") "__getattr__" = pure none:=by rw [typeLookup_type,builtinLookup_eq_fast];kernel_rfl
theorem Y6:entryFor table "zip.__getattribute__" = some Builtin.«object.__getattribute__»:=entryFor_alias (id' := "object.__getattribute__") (by kernel_rfl) (by decide +kernel) (by decide +kernel) (by kernel_rfl)
theorem n_ (a:Addr) (f0 f1:Value) (TI TO:Addr) (u:Tok):Meets (Builtin.«object.__getattribute__» ⟨[.ref a,.str "keys" u],[]⟩) (fun A R s=>s.heap.get? a=some (zpO f0 f1 TI TO)/\raisesAttr (.ref a) "keys" A R s):=.of_wp fun prog w A R s hs=>by
 obtain ⟨hp,g,d,tk,os⟩:=s;obtain ⟨e,hh,q⟩:=hs;have ty:(⟨hp,g,d,tk,os⟩:Shared).TypeIs (.ref a) "zip":=⟨_,e,rfl⟩
 have no:=Y5
 wp_walk
 exact wpAny_raiseAttrError hh q (attrMsg_fits (by decide +kernel) (by size_fits))
section
variable {prog:Program} {w:World} {A:Around} {E:Value->Shared->Prop} {hp:Heap} {g:Array GenState} {d:Drawn} {tk:Nat} {os:OsState} {a TI TO:Addr} {f0 f1:Value}
theorem gone {u:Tok} {kw:List (Str×Value)} {Q:Value->Shared->Prop} (e:hp.get? a=some (zpO f0 f1 TI TO)) (hh:A.handled=none) (hk:kw=[]) (q:∀h' tk' x,Heap.NewAttrErr hp h' x (.ref a) "keys"->E (.ref x) ⟨h',g,d,tk',os⟩) :
  wpAny (model prog w) A (call (.builtin "zip.__getattribute__") ([.ref a]++[.str "keys" u]) kw) Q E ⟨hp,g,d,tk,os⟩:=by
 subst hk;exact call_meets F.slot_zip_getattribute ⟨_,e,rfl⟩ Y6 (F.args_zip_getattribute_2 _ _) (n_ a f0 f1 TI TO u) ⟨e,hh,fun h' tk' x hx=>q h' tk' x hx⟩
theorem lacks {Q:Option Value->Shared->Prop} (e:hp.get? a=some (zpO f0 f1 TI TO)) (hh:A.handled=none) (q:∀h' tk',(∀b o,hp.get? b=some o->h'.get? b=some o)->Q none ⟨h',g,d,tk',os⟩):wpAny (model prog w) A (getAttr? (.ref a) "keys") Q E ⟨hp,g,d,tk,os⟩:=by
 have ty:∀tk',(⟨hp,g,d,tk',os⟩:Shared).TypeIs (.ref a) "zip":=fun _=>⟨_,e,rfl⟩
 have f3:=F.slot_zip_getattribute.lookup;have f4:=F.slot_zip_getattribute.bind (.ref a);have f5:=noGet;have sub:=sub_AttributeError
 wp_walk using gone e hh
 case hk=>rfl
 intro h' tk' x hx;obtain ⟨t,u,ex⟩:=hx.there;show wpAny _ _ (getattributeRaised _ _ _ _ _ _ _) _ _ _
 wp_walk
 exact q _ _ hx.keeps
end
section
variable {d:Addr}
theorem apart {h:Heap} {c d:Addr} {o od:Obj} {T:String} (e:h.get? c=some o) (hc:o.cls=.type T) (ed:h.get? d=some od) (hd:od.cls=.type "dict") (ne:(Value.type T==Value.type "dict")=false):c≠d:=fun q=>by
 subst q;rw [e] at ed;cases ed;rw [hc] at hd;rw [hd] at ne;simp at ne
end
theorem oV:entryFor table "dict.update.loop" = some Builtin.«dict.update.loop»:=entryFor_of_tree (by kernel_rfl)
end Wz
namespace Mi
open PySem L2 PySem.SeqAt PySem.Spec PyProof.Rows
section
variable [KFrag]
theorem boot_zip:bootBuiltins "zip" = some (.type "zip"):=by decide +kernel
theorem R1:bootBuiltins "dict" = some (.type "dict"):=by decide +kernel
theorem Y7 {pr:Program}:∀{vs:List V} {us:List Value} {ds:List D},bG P H vs ds->Vals vs us->ds.all gR=true->∃ks:List Key,ks.map kD=ds/\ks.length=us.length/\∀(i:Nat) (u:Value),us[i]?=some u->∃k,ks[i]?=some k/\(bT pr w).is k u=true
 | _,_,_,.nil,.nil,_=>⟨[],rfl,rfl,fun i u h=>by simp at h⟩
 | v::vs,u::us,d::ds,.cons r t,.cons rv tv,h=>by
  rw [List.all_cons,Bool.and_eq_true] at h;obtain ⟨ks,h1,h2,h3⟩:=Y7 t tv h.2;obtain ⟨k,hk1,hk2⟩:∃k:Key,kD k=d/\(bT pr w).is k u=true:=by
   cases r with
   | int i=>exact ⟨.inl i,rfl,JC rv⟩
   | str x=>exact ⟨.inr x,rfl,JC rv⟩
   | _=>cases h.1
  refine ⟨k::ks,by rw [List.map_cons,hk1,h1],by rw [List.length_cons,List.length_cons,h2],fun i u' hu=>?_⟩;cases i with
  | zero=>simp at hu;subst hu;exact ⟨k,rfl,hk2⟩
  | succ i=>exact h3 i u' (by simpa using hu)
theorem FW (r:Rep P H v d):∀{kvs:List (Key×V)} {ds:List (D×D)},gQ P H kvs ds->(kvs.map (·.1)).Nodup->gQ P H (putK kvs k v) (putD ds (kD k) d)
 | _,_,.nil,_=>.cons r .nil
 | _,_,.cons (k:=k') r' t,hn=>by
  rw [List.map_cons,List.nodup_cons] at hn;rw [putD,YB];by_cases h:k'=k
  ·rw [D_ h (by rw [<-h];exact hn.1),if_pos (decide_eq_true h),h];exact .cons r t
  ·rw [EY h,if_neg (by simpa using h)];exact .cons r' (FW r t hn.2)
theorem R3:∀{ks:List Key} {vs:List V} {ds:List D} {kvs:List (Key×V)} {es:List (D×D)},bG P H vs ds->gQ P H kvs es->(kvs.map (·.1)).Nodup->gQ P H (fH kvs (ks.zip vs)) (nJ (ks.map kD) ds es)/\((fH kvs (ks.zip vs)).map (·.1)).Nodup
 | [],_,_,_,_,_,r,n=>by
  rw [List.zip_nil_left];exact ⟨by cases ‹List D› <;> exact r,n⟩
 | k::ks,_,_,kvs,es,.nil,r,n=>⟨r,n⟩
 | k::ks,_,_,kvs,es,.cons rv tv,r,n=>R3 (ks:=ks) tv (FW rv r n) (jY n)
theorem aIn (r:Vals vs us):∀ks:List Key,KV (ks.zip vs) (ks.zip us):=by
 induction r with
 | nil=>intro ks;rw [List.zip_nil_right,List.zip_nil_right];exact .nil
 | cons h t ih=>
  intro ks;cases ks with
  | nil=>exact .nil
  | cons k ks=>exact .cons ⟨rfl,h⟩ (ih ks)
theorem Y8 {n l m:Nat} (hl:l<n) (hm:m<n):Wz.Apart (n+4) (n+2) (n+3) n (n+1) l m:=by
 constructor <;> (intro h;replace h:@Eq Nat _ _:=h;lia)
end
noncomputable def Y9:D->Option (List D)
 | .lst xs=>some xs
 | .cel _ xs=>some xs
 | _=>none
noncomputable def aLd:D->List D->D
 | .cel a _,xs=>.cel a xs
 | _,xs=>.lst xs
def Y_ (i:Nat) (fk fv:FE):FS:=fun ρ=>do
 let d <- fv ρ
 let k <- fk ρ
 match Y9 (ρ.getD i .uD),k with
 | some xs,.int k=>if d.pure then (match ixD xs.length k with|some j=>.ok (.nx (ρ.set i (aLd (ρ.getD i .uD) (xs.set j d))))|none=>.bad) else .bad
 | _,_=>.bad
noncomputable def bPu (f:FE):FE:=fun ρ=>do
 let d <- f ρ
 if d.pure then .ok d else .bad
section
variable [KFrag]
section
variable {own:Nat->Bool}
theorem aIo (r:Rep P H (.ref a) d) (h:Y9 d=some xs):∃vs,H a=some (.lst vs)/\P a/\bG P H vs xs:=by
 cases d <;> simp only [Y9] at h <;> cases h <;> cases r
 ·exact ⟨_,by assumption,by assumption,by assumption⟩
 ·exact ⟨_,by assumption,by assumption,by assumption⟩
theorem aFd (r:Rep P H v (.cel b xs)):v=.ref b:=by cases r;rfl
theorem aIp (r:Rep P H (.ref a) d) (h:Y9 d=some xs) (e:H' a=some (.lst vs')) (p:P' a) (r':bG P' H' vs' xs'):Rep P' H' (.ref a) (aLd d xs'):=by
 cases d <;> simp only [Y9] at h <;> cases h <;> cases r
 ·exact .lst e p r'
 ·exact .cel e p r'
theorem aIq (h:Y9 d=some xs):inner d=D.aN xs:=by
 cases d <;> simp only [Y9] at h <;> cases h <;> rfl
theorem aFe (h:Y9 d=some xs):inner (aLd d xs')=D.aN xs':=by
 cases d <;> simp only [Y9] at h <;> cases h <;> rfl
theorem aIr (h:Y9 d=some xs):d≠.uD:=fun z=>by subst z;cases h
theorem ES.aNa (E:ES own H σ ρ) (ho:own i=true) (hi:σ[i]?=some (some (.ref a))) (hk:∀b ob,H b=some ob->b≠a->H' b=some ob) (e:H' a=some o) (hm:U4 o=true) (r:Rep All H' (.ref a) d) (hin:inner d=true) :
  ES own H' σ (ρ.set i d)/\KU own σ H σ H':=by
 have hOa:Own own σ a:=⟨i,ho,hi⟩
 obtain ⟨a',oa,ea,_,_,hHa,hma,huq⟩:=E.own i _ ho hi;cases ea;have k:KU own σ H σ H':=fun b ob e n=>⟨hk b ob e (fun z=>by subst z;exact n hOa),n⟩
 have hl:i<ρ.length:=by rw [<-E.len];exact (List.getElem?_eq_some_iff.mp hi).1
 refine ⟨⟨by simp [E.len],fun j hj=>?_,fun j w hj hw=>?_⟩,k⟩
 ·rw [dG] at hj ⊢;by_cases h:i=j/\i<ρ.length
  ·obtain ⟨rfl,_⟩:=h;exact ⟨_,hi,fun z=>by rw [ho] at z;cases z⟩
  ·rw [if_neg h] at hj ⊢;obtain ⟨w,h1,h2⟩:=E.at_ j hj;exact ⟨w,h1,fun hj=>k.rep E (h2 hj)⟩
 ·by_cases hij:i=j
  ·subst hij;rw [hi] at hw;cases hw;rw [dG,if_pos ⟨rfl,hl⟩];exact ⟨a,o,rfl,r,hin,e,hm,huq⟩
  ·rw [dG,if_neg fun z=>hij z.1];obtain ⟨b,ob,h1,h2,h3,h4,h5,h6⟩:=E.own j w hj hw;subst h1;have hba:b≠a:=fun z=>by subst z;exact hij (h6 i ho hi)
   refine ⟨b,ob,rfl,?_,h3,hk _ _ h4 hba,h5,h6⟩;refine (h2.aL6 (P':=fun c=>c=b) h3 rfl).keep (fun c oc hc hp=>?_) fun _ _=>trivial
   refine hk _ _ hc fun z=>?_
   subst z;rcases hp with hp|hp
   ·exact hba hp.symm
   ·rw [hHa] at hc;cases hc;rw [hma] at hp;cases hp
end
section
variable {own:Nat->Bool} {a b e:Expr}
theorem aFf (E:ES own H σ ρ) (ho:own i=true) (h:Y9 (ρ.getD i .uD)=some xs):∃a vs,σ[i]?=some (some (.ref a))/\H a=some (.lst vs)/\bG All H vs xs/\D.aN xs=true/\Rep All H (.ref a) (ρ.getD i .uD)/\∀b,ρ.getD i .uD=.cel b xs->b=a:=by
 obtain ⟨a,o,hσ,r,hin,ha,hm⟩:=E.ownAt ho (aIr h);obtain ⟨vs,e,_,rr⟩:=aIo r h;exact ⟨a,vs,hσ,e,rr,by rw [aIq h] at hin;exact hin,r,fun b hb=>by rw [hb] at r;have:=aFd r;cases this;rfl⟩
end
section
variable {own:Nat->Bool} {X:Cx} {a b e:Expr} {pos pos':Pos}
theorem ZC (ho:own i=true) (hN:X.N[i]?=some x) (hvi:Vis X.env.scope x) (hk:PE X k (gE fk rk)) (hv:PE X value (gE fv rv)) (hs:swapsWith value (some (.Subscript (.Name x p1) k pos')) pos.line X.env=pure false:=by rfl) (hd:nDb x:=by decide) (hcd:nCd x:=by decide) :
  PS X (.Assign [.Subscript (.Name x p1) k pos'] value pos) (tS own (Y_ i fk fv)):=by
 intro pins s σ H D' I ⟨ρ,fl,E,h,q⟩;obtain ⟨d,h0,h⟩:=bA h;obtain ⟨kd,h1,h2⟩:=bA h;split at h2
 ·rename_i xs kk hx;split at h2
  ·rename_i hp;split at h2
   ·rename_i j hj;cases h2;obtain ⟨a,vs,hσ,e0,rr,hin,rp,_⟩:=aFf E ho hx;have pn:D.aN (xs.set j d)=true:=lX.mpr fun y hy=>by
     rcases List.mem_or_eq_of_mem_set hy with hy|hy
     ·exact lX.mp hin y hy
     ·subst hy;exact hp
    have go:∀{v:V} {H2:Hp},bV H H2->Rep All H2 v d->D'.nx σ (upd H2 a (.lst (vs.set j v))):=fun {v H2} sm rv=>by
     have rn:bG All (upd H2 a (.lst (vs.set j v))) (vs.set j v) (xs.set j d):=((rr.same sm).set rv j).upd pn (sm _ _ e0) rfl;obtain ⟨E2,k2⟩:=(E.same sm).aNa ho hσ (fun b ob e n=>by rw [aR n];exact e) aG rfl (aIp (rp.same sm) hx aG trivial rn) (by rw [aFe hx];exact pn);exact q _ _ ((KU.same sm).trans k2) E2
    refine wpAny_Assign_Subscript (thn (hv pins s σ H (fun v H1=>bV H H1/\Rep All H1 v d) I ⟨ρ,d,E.er,h0,fun v H1 s1 r1 _=>⟨s1,r1⟩⟩) fun u1 t1 ⟨v,H1,I1,rv1,sm1,rp1⟩=>
     thn (dF hN hvi hd hcd pins t1 σ H1 (fun w H2=>w=.ref a/\H2=H1) I1 ⟨_,hσ,rfl,rfl⟩) fun u2 t2 ⟨xx,H2,I2,rx,ex,eH⟩=>?_) hs
    subst ex;rw [eH] at I2;refine thn (hk pins t2 σ _ (fun w H3=>bV H1 H3/\w=.int kk) I2 ⟨ρ,_,E.er.same sm1,h1,fun w H3 s3 r3 _=>⟨s3,by cases r3.inv;rfl⟩⟩) fun u3 t3 ⟨y,H3,I3,ry,sm3,ey⟩=>?_
    subst ey;exact thn (set_list pins t3 σ H3 (.ref a) (.int kk) v u2 u3 u1 (fun H4=>D'.nx σ H4) I3 rx ry rv1 ⟨a,vs,kk,j,rfl,rfl,(sm1.trans sm3) _ _ e0,by rw [rr.length];exact hj,go (sm1.trans sm3) (rp1.same sm3)⟩) fun _ t4 ⟨H4,I4,q4⟩=>⟨σ,H4,I4,q4⟩
   ·exact bx h2
  ·exact bx h2
 ·exact bx h2
theorem VG {a:Addr} {vs:List V} (I:Inv X pins σ H s) (e:H a=some (.lst vs)):∃o,Inv X pins σ (upd H a (.frz o (.lst vs))) s:=by
 obtain ⟨its,n,r,ho,hz⟩:=I.lst e;refine ⟨_,I.write (by rw [e];trivial) (.inl rfl) (fun _ _ _ q=>q) ⟨_,ho⟩ ⟨ho,hz,its,n,r,ho⟩⟩
end
section
theorem FZ (ha:PE X a (gE fa ra)):PE X a (gE (bPu fa) true):=PE.imp ha fun σ H Q ⟨ρ,d,E,h,q⟩=>by
 obtain ⟨x,h1,h⟩:=bA h;split at h
 ·rename_i hp;cases h;exact ⟨ρ,_,E,h1,fun v H' s r _=>q v H' s r fun _=>r.bM hp⟩
 ·exact bx h
end
end
theorem O5:bootBuiltins "reversed" = some (.type "reversed"):=by decide +kernel
variable [KFrag]
theorem bG.rev {P:Addr->Prop} {H:Hp}:∀{vs:List V} {ds:List D},bG P H vs ds->bG P H vs.reverse ds.reverse
 | _,_,.nil=>.nil
 | _,_,.cons r t=>by rw [List.reverse_cons,List.reverse_cons];exact t.rev.snoc r
theorem JT {ds:List D} (h:D.aN ds=true):D.aN ds.reverse=true:=lX.mpr fun y hy=>lX.mp h y (List.mem_reverse.mp hy)
theorem R4 {xs:List V} {its acc:List Value} (r:Vals xs its) (hl:acc.length=its.length) (h:∀j v,acc[j]?=some v->its[its.length-1-j]?=some v):Vals xs.reverse acc:=by
 have e:acc=its.reverse:=by
  refine List.ext_getElem? fun j=>?_
  by_cases hj:j<its.length
  ·have h1:acc[j]?=some (acc[j]'(by lia)):=List.getElem?_eq_getElem (by lia);have h2:=h j _ h1;rw [h1,List.getElem?_reverse hj,h2]
  ·rw [List.getElem?_eq_none (by lia),List.getElem?_eq_none (by rw [List.length_reverse];lia)]
 rw [e];clear e h hl;induction r with
 | nil=>exact .nil
 | cons h t ih=>
  rw [List.reverse_cons,List.reverse_cons];exact ih.append (.cons h .nil)
end Mi
namespace Wl
open PySem PySem.Spec
noncomputable abbrev liO (xs:Array Value) (n:Nat):Obj:={cls:=.type "list",data:=.seq xs n}
theorem Y5:typeLookup (.type "list") "keys" = pure none:=by rw [typeLookup_type,builtinLookup_eq_fast];kernel_rfl
theorem noGet:typeLookup (.type "list") "__getattr__" = pure none:=by rw [typeLookup_type,builtinLookup_eq_fast];kernel_rfl
theorem Y6:entryFor table "list.__getattribute__" = some Builtin.«object.__getattribute__»:=entryFor_alias (id' := "object.__getattribute__") (by kernel_rfl) (by decide +kernel) (by decide +kernel) (by kernel_rfl)
theorem n_ (a:Addr) (xs:Array Value) (n:Nat) (u:Tok):Meets (Builtin.«object.__getattribute__» ⟨[.ref a,.str "keys" u],[]⟩) (fun A R s=>s.heap.get? a=some (liO xs n)/\raisesAttr (.ref a) "keys" A R s):=.of_wp fun prog w A R s hs=>by
 obtain ⟨hp,g,d,tk,os⟩:=s;obtain ⟨e,hh,q⟩:=hs;have ty:(⟨hp,g,d,tk,os⟩:Shared).TypeIs (.ref a) "list":=⟨_,e,rfl⟩
 have no:=Y5
 wp_walk
 exact wpAny_raiseAttrError hh q (attrMsg_fits (by decide +kernel) (by size_fits))
section
variable {prog:Program} {w:World} {A:Around} {E:Value->Shared->Prop} {hp:Heap} {g:Array GenState} {d:Drawn} {tk:Nat} {os:OsState} {a:Addr} {xs:Array Value} {n:Nat}
theorem gone {u:Tok} {kw:List (Str×Value)} {Q:Value->Shared->Prop} (e:hp.get? a=some (liO xs n)) (hh:A.handled=none) (hk:kw=[]) (q:∀h' tk' x,Heap.NewAttrErr hp h' x (.ref a) "keys"->E (.ref x) ⟨h',g,d,tk',os⟩) :
  wpAny (model prog w) A (call (.builtin "list.__getattribute__") ([.ref a]++[.str "keys" u]) kw) Q E ⟨hp,g,d,tk,os⟩:=by
 subst hk;exact call_meets F.slot_list_getattribute ⟨_,e,rfl⟩ Y6 (F.args_list_getattribute_2 _ _) (n_ a xs n u) ⟨e,hh,fun h' tk' x hx=>q h' tk' x hx⟩
theorem lacks {Q:Option Value->Shared->Prop} (e:hp.get? a=some (liO xs n)) (hh:A.handled=none) (q:∀h' tk',(∀b o,hp.get? b=some o->h'.get? b=some o)->Q none ⟨h',g,d,tk',os⟩):wpAny (model prog w) A (getAttr? (.ref a) "keys") Q E ⟨hp,g,d,tk,os⟩:=by
 have ty:∀tk',(⟨hp,g,d,tk',os⟩:Shared).TypeIs (.ref a) "list":=fun _=>⟨_,e,rfl⟩
 have f3:=F.slot_list_getattribute.lookup;have f4:=F.slot_list_getattribute.bind (.ref a);have f5:=noGet;have sub:=sub_AttributeError
 wp_walk using gone e hh
 case hk=>rfl
 intro h' tk' x hx;obtain ⟨t,u,ex⟩:=hx.there;show wpAny _ _ (getattributeRaised _ _ _ _ _ _ _) _ _ _
 wp_walk
 exact q _ _ hx.keeps
end
theorem ZD {h:Heap} {c d:Addr} {o od:Obj} {T U:String} (e:h.get? c=some o) (hc:o.cls=.type T) (ed:h.get? d=some od) (hd:od.cls=.type U) (ne:(Value.type T==Value.type U)=false):c≠d:=fun q=>by
 subst q;rw [e] at ed;cases ed;rw [hc] at hd;rw [hd] at ne;simp at ne
def Prs {prog:Program} {w:World} {K:Type} [DecidableEq K] (knd:KeyKind prog w K) (items:Array Value) (ps:List (K×Value)) (h:Heap):Prop:=items.size=ps.length/\∀(i:Nat) (kv:K×Value),ps[i]?=some kv->∃(p:Addr) (x:Value) (o:Obj) (n:Nat),items[i]?=some (Value.ref p)/\h.get? p=some o/\o.cls=.type "tuple"/\o.data=.seq #[x,kv.2] n/\knd.is kv.1 x=true
theorem Prs.keep {prog:Program} {w:World} {K:Type} [DecidableEq K] {knd:KeyKind prog w K} {items:Array Value} {ps:List (K×Value)} {h h':Heap} (x:Prs knd items ps h) (k:∀c o,o.cls=.type "tuple"->h.get? c=some o->h'.get? c=some o):Prs knd items ps h':=
 ⟨x.1,fun i kv e=>let ⟨p,v,o,n,h1,h2,h3,h4,h5⟩:=x.2 i kv e;⟨p,v,o,n,h1,k p o h3 h2,h3,h4,h5⟩⟩
section
variable {prog:Program} {w:World} {K:Type} [DecidableEq K] {knd:KeyKind prog w K} {A:Around} {R:Except Value Flow->Shared->Prop} {it l d:Addr} {items:Array Value} {ps:List (K×Value)} {nl:Nat}
theorem F_ (hh:A.handled=none) (hdi:d≠it) (hdl:d≠l) (hil:l≠it) :
  ∀(m k:Nat) (s:Shared) (kvs:List (K×Value)),k+m=items.size->kvs.length+m<=sizeLine->s.heap.IsListIter it l k->s.heap.get? l=some (liO items nl)->Prs knd items ps s.heap->s.heap.DictOf knd d kvs->
  (∀h' tk,h'.DictOf knd d (merged kvs (ps.drop k))->(∀c o,c≠d->c≠it->s.heap.get? c=some o->h'.get? c=some o)->R (.ok (.ret .none)) {s with heap:=h',toks:=tk})->
  codeAny (model prog w) A (.builtin "dict.update.loop" ⟨[.ref d,.ref it,rawInt k,.none],[]⟩) R s:=by
 intro m;induction m with
 | zero=>
  intro k s kvs hkm hl Z el Pp hd q;refine codeAny_builtin Wz.oV ?_;rw [Around.under_plainId (show plainId "dict.update.loop" = true by decide +kernel) _];refine wpAny_bind (m:=pyNext (.ref it)) (wpAny_pyNext_list_end hh Z ⟨_,el,rfl,_,rfl⟩ (Array.getElem?_eq_none (by lia)) fun h' kp=>?_);refine wpAny_bind (m:=Builtin.Dict.addKeywords d []) ?_;unfold Builtin.Dict.addKeywords;rw [List.forIn_nil];refine wpAny_bind (wpAny_pure (wpAny_pure (wpAny_pure ?_)));have e:ps.drop k=[]:=List.drop_eq_nil_of_le (by have:=Pp.1;lia);rw [e] at q;obtain ⟨o,es,ep,ho,r⟩:=hd;exact q _ s.toks ⟨o,es,ep,kp d o hdi ho,r⟩ fun c o _ c1 e=>kp c o c1 e
 | succ m ih=>
  intro k s kvs hkm hl Z el Pp hd q;have hlp:k<ps.length:=by have:=Pp.1;lia
  obtain ⟨p,x,o,n,hi,hp,hpc,hpd,his⟩:=Pp.2 k ps[k] (List.getElem?_eq_getElem hlp);have hpi:p≠it:=let ⟨oi,ei,ci,_⟩:=Z;ZD hp hpc ei ci (by decide)
  refine codeAny_builtin Wz.oV ?_;rw [Around.under_plainId (show plainId "dict.update.loop" = true by decide +kernel) _];refine wpAny_bind (m:=pyNext (.ref it)) (wpAny_pyNext_list_item Z ⟨_,el,rfl,_,rfl⟩ hi fun h' Z' kp=>?_);have hp':h'.get? p=some o:=(kp.2 p hpi).trans hp;refine wpAny_bind (wpAny_holding (wpAny_bind (wpAny_tryCatch ?_)));refine wpAny_bind (wpAny_typeOf (T := "tuple") ⟨_,hp',hpc⟩ ?_);rw [if_pos (by decide)];refine wpAny_bind (wpAny_seqItems hp' hpd (wpAny_pure ?_));show wpAny _ _ (holding [x,ps[k].2] (dictSet d x ps[k].2)) _ _ _;have hd':h'.DictOf knd d kvs:=let ⟨o,es,ep,ho,r⟩:=hd;⟨o,es,ep,(kp.2 d hdi).trans ho,r⟩
  obtain ⟨od,es,ep,ho,hc,_⟩:=id hd';refine wpAny_holding (wpAny_dictSet_pairs his hd' (fun h2 hd2' sb=>?_) (by lia));refine wpAny_pure ⟨Code.quiet_builtin _ (by decide +kernel),?_⟩;have ek:(rawInt (k+1):Value)=rawInt ((k+1:Nat):Int):=rfl;rw [ek];have hdrop:ps.drop k=ps[k]::ps.drop (k+1):=List.drop_eq_getElem_cons hlp;have ls:(stored kvs ps[k].1 ps[k].2).length<=kvs.length+1:=by
   unfold stored;split
   ·rw [List.length_map];lia
   ·rw [List.length_append];exact Nat.le_refl _
  have keep:∀c o,c≠d->c≠it->s.heap.get? c=some o->h2.get? c=some o:=fun c o c0 c1 e=>(sb.2 c c0).trans ((kp.2 c c1).trans e)
  have hdc:∀c (oc:Obj),oc.cls=.type "tuple"->s.heap.get? c=some oc->c≠d/\c≠it:=fun c oc hoc e=>⟨let ⟨o1,_,_,e1,c1,_⟩:=hd;ZD e hoc e1 c1.1 (by decide),let ⟨oi,ei,ci,_⟩:=Z;ZD e hoc ei ci (by decide)⟩
  refine ih (k+1) _ (stored kvs ps[k].1 ps[k].2) (by lia) (by lia) (let ⟨oi,ei,r⟩:=Z';⟨oi,(sb.2 it (Ne.symm hdi)).trans ei,r⟩) (keep l _ (Ne.symm hdl) hil el) (Pp.keep fun c oc hoc e=>keep c oc (hdc c oc hoc e).1 (hdc c oc hoc e).2 e) hd2' fun h3 tk hd3 kp3=>?_
  exact q h3 tk (by rw [hdrop];exact hd3) fun c o c0 c1 e=>kp3 c o c0 c1 (keep c o c0 c1 e)
end
section
variable {prog:Program} {w:World} {K:Type} [DecidableEq K] {knd:KeyKind prog w K} {A:Around} {E:Value->Shared->Prop} {hp:Heap} {g:Array GenState} {dr:Drawn} {tk:Nat} {os:OsState} {l:Addr} {items:Array Value} {ps:List (K×Value)} {nl:Nat}
theorem dict_list {Q:Value->Shared->Prop} (hh:A.handled=none) (el:hp.get? l=some (liO items nl)) (Pp:Prs knd items ps hp) (hz:items.size<=1000000)
  (q:∀h' tk',h'.DictOf knd hp.objs.size (merged [] ps)->(∀c o,hp.get? c=some o->h'.get? c=some o)->Q (.ref hp.objs.size) ⟨h',g,dr,tk',os⟩) :
  wpAny (model prog w) A (call (.type "dict") [.ref l]) Q E ⟨hp,g,dr,tk,os⟩:=by
 have hnew:(hp.push {cls:=.type "dict",data:=.dict #[]}).DictOf knd hp.objs.size []:=Heap.DictOf.new hp;have up:∀c o,hp.get? c=some o->(hp.push {cls:=.type "dict",data:=.dict #[]}).get? c=some o:=fun c o e=>Heap.get?_push_of_some _ e
 have lt:∀{c o},hp.get? c=some o->hp.objs.size≠c:=fun e=>Nat.ne_of_gt (Heap.lt_size e)
 refine callType_codes (Q₁:=fun v s₁=>v=.ref hp.objs.size/\s₁=⟨hp.push {cls:=.type "dict",data:=.dict #[]},g,dr,tk,os⟩) F.kt_called_dict (F.kt_typeCall_dict_1 _) F.entry_dict_init (kt_code_dict_new _ ⟨rfl,rfl⟩) fun v s₁ hv=>?_
 obtain ⟨rfl,rfl⟩:=hv;have ty:(⟨hp.push {cls:=.type "dict",data:=.dict #[]},g,dr,tk,os⟩:Shared).TypeIs (.ref hp.objs.size) "dict":=hnew.typeIs;have ez:=up _ _ el;have tz:(⟨hp.push {cls:=.type "dict",data:=.dict #[]},g,dr,tk,os⟩:Shared).TypeIs (.ref l) "list":=⟨_,ez,rfl⟩
 refine ⟨ty,F.args_dict_init_2 _ _,wpAny_bind (m:=Builtin.Dict.selfAndRest "__init__" _) (wpAny_bind (wpAny_notOrdered_dict ty (wpAny_pure ?_)))⟩;refine wpAny_bind (m:=typeOf (.ref l)) (wpAny_typeOf tz ?_);rw [if_pos (by decide)];refine wpAny_bind (lacks ez hh fun h' tk' kp=>?_);rw [if_pos (show (none:Option Value).isNone=true from rfl)];refine wpAny_bind (wpAny_rule (wpAny_bind (wpAny_pyIter_list ⟨_,kp _ _ ez,rfl,_,rfl⟩ (wpAny_pure ⟨Code.quiet_builtin _ (by decide +kernel),?_⟩))));have hd':h'.DictOf knd hp.objs.size []:=let ⟨o,es,ep,ho,r⟩:=hnew;⟨o,es,ep,kp _ _ ho,r⟩
 have ltd:hp.objs.size<h'.objs.size:=let ⟨o,es,ep,ho,r⟩:=hd';Heap.lt_size ho
 have ltl:l<h'.objs.size:=Heap.lt_size (kp _ _ ez);refine F_ (A:=A.in1) (ps:=ps) (it:=h'.objs.size) (l:=l) (items:=items) (nl:=nl) (show A.in1.handled=none from hh) (Nat.ne_of_lt ltd) (lt el) (Nat.ne_of_lt ltl) items.size 0 _ [] (by lia) (by rw [List.length_nil,sizeLine_eq];lia) ⟨_,Heap.get?_push_size _ rfl,rfl,rfl⟩ (Heap.get?_push_of_some _ (kp _ _ ez)) (Pp.keep fun c o _ e=>Heap.get?_push_of_some _ (kp c o (up c o e))) (let ⟨o,es,ep,ho,r⟩:=hd';⟨o,es,ep,Heap.get?_push_of_some _ ho,r⟩) fun h2 tk2 hd2 kp2=>?_
 exact ⟨rfl,q h2 tk2 hd2 fun c o e=>kp2 c o (fun x=>lt e x.symm) (Nat.ne_of_lt (Heap.lt_size (kp c o (up c o e)))) (Heap.get?_push_of_some _ (kp c o (up c o e)))⟩
end
end Wl
namespace Mi
open PySem L2 PySem.SeqAt PySem.Spec PyProof.Rows
def yQ:List D->Option (List (D×D))
 | []=>some []
 | .tup [k,v]::r=>if gR k&&v.pure then (yQ r).map ((k,v)::·) else none
 | _::_=>none
def wD (kvs:List (D×D)) (more:List (D×D)):List (D×D):=more.foldl (fun acc p=>putD acc p.1 p.2) kvs
def R5:D->Res D
 | .lst xs=>match yQ xs with
  | some ps=>if decide (xs.length<=1000) then .ok (.dct (wD [] ps)) else .bad
  | none=>.bad
 | _=>.bad
section
variable [KFrag]
theorem R6 (I:Inv X pins σ H s):∀{xs:List D} {vs:List V} {us:List Value} {ps:List (D×D)},bG All H vs xs->Vals vs us->yQ xs=some ps->
  ∃(kvs:List (Key×V)) (prs:List (Key×Value)),KV kvs prs/\gQ All H kvs ps/\D.aN (ps.map (·.2))=true/\us.length=prs.length/\∀(i:Nat) (kv:Key×Value),prs[i]?=some kv->∃(p:Addr) (x:Value) (o:Obj) (n:Nat),us[i]?=some (Value.ref p)/\s.heap.get? p=some o/\o.cls=.type "tuple"/\o.data=.seq #[x,kv.2] n/\(bT X.prog X.w).is kv.1 x=true
 | [],_,_,_,.nil,.nil,h=>by
  cases h;exact ⟨[],[],.nil,.nil,rfl,rfl,fun i kv h=>by simp at h⟩
 | d::xs,_,_,ps,.cons r t,.cons rv tv,h=>by
  unfold yQ at h;split at h
  ·rename_i h0;cases h0
  ·rename_i k v r' h0;injection h0 with h0 h1
   subst h0 h1;split at h
   ·rename_i hf;rw [Bool.and_eq_true] at hf;obtain ⟨ps',hp,rfl⟩:=Option.map_eq_some_iff.mp h;obtain ⟨kvs,prs,g1,g2,g3,g4,g5⟩:=R6 I t tv hp;obtain ⟨a,ws,rfl,ea,rr⟩:=r.iM;cases rv;obtain ⟨its,rvs,o,ho,hc,n,hd⟩:=lU I ea;cases rr with
    | cons rk rr=>
     cases rr with
     | cons rw_ rr=>
      cases rr;cases rvs with
      | cons q1 rvs=>
       cases rvs with
       | cons q2 rvs=>
        cases rvs;rename_i wk ww uk uw;obtain ⟨key,hk1,hk2⟩:∃key:Key,kD key=k/\(bT X.prog X.w).is key uk=true:=by
         cases rk with
         | int i=>exact ⟨.inl i,rfl,JC q1⟩
         | str x=>exact ⟨.inr x,rfl,JC q1⟩
         | _=>cases hf.1
        subst hk1;refine ⟨(key,ww)::kvs,(key,uw)::prs,.cons ⟨rfl,q2⟩ g1,.cons rw_ g2,by rw [List.map_cons,D.aN,hf.2,g3];rfl,by rw [List.length_cons,List.length_cons,g4],fun i kv hi=>?_⟩;cases i with
        | zero=>
         simp at hi;subst hi;exact ⟨a,uk,o,n,rfl,ho,hc,hd,hk2⟩
        | succ i=>
         obtain ⟨p,x,o',n',z1,z2⟩:=g5 i kv (by simpa using hi);exact ⟨p,x,o',n',by simpa using z1,z2⟩
   ·cases h
  ·cases h
theorem CT:∀{more:List (Key×V)} {ds:List (D×D)} {kvs:List (Key×V)} {es:List (D×D)},gQ P H more ds->gQ P H kvs es->(kvs.map (·.1)).Nodup->gQ P H (fH kvs more) (wD es ds)/\((fH kvs more).map (·.1)).Nodup
 | _,_,_,_,.nil,r,n=>⟨r,n⟩
 | _,_,_,_,.cons (k:=k) rv t,r,n=>by have:=CT t (FW (k:=k) rv r n) (jY n);exact this
theorem wF:∀{ds es:List (D×D)},D.aN (ds.map (·.2))=true->D.aN (es.map (·.2))=true->D.aN ((wD es ds).map (·.2))=true
 | [],_,_,h=>h
 | (k,v)::ds,es,h,h2=>by
  rw [List.map_cons,D.aN,Bool.and_eq_true] at h;exact wF (ds:=ds) h.2 (m5 h.1 h2)
section
theorem ZF (hc:X.calm=true) (hg:Gl X "dict") (hm:X.mg "dict" = none) (he:PE X e (gE fe re)) (hs:starEach [e] X.env=[(false,eval e X.env)]:=by rfl) :
  PE X (.Call (.Name "dict" p) [e] [] pos) (gE (b1 R5 fe) true):=by
 intro pins s σ H Q I ⟨ρ,d,E,h,q⟩;obtain ⟨d0,h1,h2⟩:=bA h;unfold R5 at h2;split at h2
 rotate_left
 ·exact bx h2
 rename_i xs;split at h2
 rotate_left
 ·exact bx h2
 rename_i ps hps;split at h2
 rotate_left
 ·exact bx h2
 rename_i hb;cases h2;have hb:=of_decide_eq_true hb;refine wpAny_Call_Name_kw (lF I hg hm R1 ?_);refine PyProof.Rows.callWith_type1 ?_ hs rfl;rw [hs];show wpAny _ _ (spliced [(false,eval e X.env)]) _ _ s;refine Calls.spliced_cons (thn (he pins s σ H (fun v H1=>bV H H1/\Rep All H1 v (.lst xs)) I ⟨ρ,_,E,h1,fun v H1 s1 r1 _=>⟨s1,r1⟩⟩) fun u s1 ⟨x,H1,I1,ru,sm,rx⟩=>?_);obtain ⟨a,vs,rfl,ea,rr⟩:∃a vs,x=.ref a/\H1 a=some (.lst vs)/\bG All H1 vs xs:=by
  obtain ⟨_,_,rfl,e,p,r⟩:=rx.inv;exact ⟨_,_,rfl,e,r⟩
 cases ru;refine Calls.spliced_nil ?_;obtain ⟨hz,its,nl,rv,hl⟩:vs.length<=sizeLine/\∃(its:List Value) (n:Nat),Vals vs its/\s1.heap.get? a=some {cls:=.type "list",data:=.seq its.toArray n}:=I1.hok a _ ea;obtain ⟨kvs,prs,g1,g2,g3,g4,g5⟩:=R6 I1 rr rv hps;have hlen:its.length<=1000:=by rw [<-rv.length,rr.length];exact hb
 obtain ⟨hp,g,dr,tk,os⟩:=s1;refine Wl.dict_list (knd:=bT X.prog X.w) (ps:=prs) (items:=its.toArray) (I1.ok.hd hc) hl ⟨by rw [List.size_toArray];exact g4,fun i kv hi=>?_⟩ (by rw [List.size_toArray];lia) fun h' tk' hd kp=>?_
 ·obtain ⟨p,x,o,n,z1,z2⟩:=g5 i kv hi;exact ⟨p,x,o,n,by simpa using z1,z2⟩
 ·have hfr:H1 hp.objs.size=none:=I1.hok.fresh (Nat.le_refl _);have rel:KV (fH [] kvs) (merged [] prs):=g1.merge .nil;have hz2:(fH [] kvs).length<=sizeLine:=by
   have:=kE kvs [];have l1:kvs.length=prs.length:=Paired.length g1;rw [List.length_nil] at this;rw [sizeLine_eq];lia
  obtain ⟨rk,nd⟩:=CT (kvs:=[]) g2 gQ.nil List.nodup_nil;have sp:bV H1 (upd H1 hp.objs.size (.dK (fH [] kvs))):=bV.upd hfr;have rk2:∀{P:Addr->Prop},gQ P (upd H1 hp.objs.size (.dK (fH [] kvs))) (fH [] kvs) (wD [] ps):=fun {P}=>(rk.keep (.same sp) fun _ h=>h).bM (wF g3 rfl)
  refine ⟨.ref hp.objs.size,_,I1.laid (a:=hp.objs.size) (t':=tk') (o:=.dK (fH [] kvs)) kp (Nat.le_refl _) (XF hz2 (beq_eq_false_iff_ne.mpr ?_) rel hd),rfl,?_⟩
  ·exact Ne.symm (Nat.ne_of_lt I1.big)
  ·exact q _ _ (sm.trans sp) (.dK aG trivial rk2 nd) fun _=>.dK aG (sm.free hfr) rk2 nd
end
end
open PySem.W
noncomputable def noE {α:Type} (f:List D->Res α):List D->Res α:=fun ρ=>match f ρ with|.ok a=>.ok a|_=>.bad
theorem aDc {f:List D->Res α}:(∃a,f ρ=.ok a/\noE f ρ=.ok a)\/noE f ρ=.bad:=by
 unfold noE;cases f ρ with
 | ok a=>exact .inl ⟨a,rfl,rfl⟩
 | err c as=>exact .inr rfl
 | bad=>exact .inr rfl
noncomputable def ZG:List D->Option (List Str)
 | []=>some []
 | .str t::r=>(ZG r).map (t::·)
 | _=>none
def yR (c:Str) (fl:List Str) (fa:FA):FS:=fun ρ=>do
 let ds <- fa ρ
 match ZG ds with
 | some ts=>if ts.length=fl.length then .err c [.exc c (fl.zip ts)] else .bad
 | none=>.bad
section
variable [KFrag]
theorem R7:∀{ds:List D} {ts:List Str} {vs:List V},ZG ds=some ts->bG P H vs ds->vs=ts.map V.str
 | [],_,_,h,.nil=>by cases h;rfl
 | d::r,ts,_,h,.cons r1 t=>by
  cases d with
  | str x=>
   unfold ZG at h;obtain ⟨ts',h1,rfl⟩:=Option.map_eq_some_iff.mp h;cases r1.inv;rw [R7 h1 t];rfl
  | _=>cases h
def aIs (own:Nat->Bool) (E:XK) (σ:L2.St) (H:Hp) (c:Str) (as:List D):Prop:=∃fs C,as=[.exc c fs]/\nsIn KFrag.K mainGlobals c=some (some (.ref C))/\∀σ' H' dx,KU own σ H σ' H'->XDs H' fs dx->E (.ref C) dx H'
def kZ (own:Nat->Bool) (E:XK) (D:Ends) (σ:L2.St) (H:Hp):Res Fl->Prop
 | .ok fl=>kS own D σ H fl
 | .err c as=>aIs own E σ H c as
 | .bad=>False
noncomputable def tZ (own:Nat->Bool) (E:XK) (f:FS):TS:=fun D σ H=>∃ρ,ES own H σ ρ/\kZ own E D σ H (f ρ)
def aLe (E:XK) (H:Hp) (c:Str) (as:List D):Prop:=∃fs C,as=[.exc c fs]/\nsIn KFrag.K mainGlobals c=some (some (.ref C))/\∀H' dx,bV H H'->XDs H' fs dx->E (.ref C) dx H'
def kZE (E:XK) (H:Hp) (Q:VK):Res D->Prop
 | .ok d=>kR H d true Q
 | .err c as=>aLe E H c as
 | .bad=>False
noncomputable def spZ (f:List D->Res D) (n:Nat):Sp:=fun vs H Q E=>∃ds,ds.length=n/\bG All H vs ds/\kZE E H Q (f ds)
def VH (P:Program) (w:World) (K:PySem.W.Frag) (mg:Str->Option Value) (base:Heap) (k:Nat) (x:Str) (n:Nat) (f:List D->Res D):Prop:=
 ∃(fad:Addr) (fd:FuncData) (ps:List Str),jQ P w K mg base (CX2 P w) k fad fd ps (spZ f n)/\mg x=some (.ref fad)/\PySem.W.keepIn K (.ref fad)=true/\Binds K fd ps []
theorem VH.cal {K:PySem.W.Frag} {base:Heap} {k:Nat} {x:Str} {n:Nat} {f:List D->Res D} (Z:VH P w K mg base k x n f):eO P w K mg base k x n f:=by
 obtain ⟨fad,fd,ps,F,hm,hk,hb⟩:=Z;have go:∀{vs H Q E},spD f n vs H Q E->spZ f n vs H Q (fun _ _ _=>False):=fun ⟨ds,d,h1,r,h,q⟩=>⟨ds,h1,r,by rw [h];exact q⟩
 refine ⟨fad,fd,ps,⟨fun vs H Q E h=>F.len vs H Q _ (go h),fun A outer s H args us vs Q E hr he hb hv h=>codeAny_mono (F.run A outer s H args us vs Q _ hr he hb hv (go h)) fun r s' hq=>?_⟩,hm,hk,hb⟩;cases r with
 | ok fl=>cases fl <;> exact hq
 | error e=>
  obtain ⟨_,_,_,_,_,_,_,_,_,_,_,_,z⟩:=hq;exact z.elim
section
variable {own:Nat->Bool} {E:XK} {D':Ends} {σ σ':L2.St} {H H':Hp}
theorem aIs.step (k:KU own σ H σ' H') (h:aIs own E σ H c as):aIs own E σ' H' c as:=let ⟨fs,C,h1,h2,h3⟩:=h;⟨fs,C,h1,h2,fun σ2 H2 dx k2 x=>h3 σ2 H2 dx (k.trans k2) x⟩
theorem kZ.step (k:KU own σ H σ' H') (h:kZ own E D' σ H r):kZ own E D' σ' H' r:=by
 cases r with
 | ok fl=>exact kS.step k h
 | err c as=>exact aIs.step k h
 | bad=>exact h
end
section
variable {own:Nat->Bool} {E:XK} {X:Cx} {st:Stmt} {rest:List Stmt} {f g:FS} {c e:Expr}
theorem R8 (h:PS X.nox st (tS own f)):PS X st (tZ own E (noE f)):=PS.imp (PS.nox h) fun D σ H ⟨ρ,es,k⟩=>by
 rcases aDc with ⟨fl,h1,h2⟩|h2
 ·rw [h2] at k;exact ⟨ρ,fl,es,h1,k⟩
 ·rw [h2] at k;exact k.elim
theorem aLf (h:PS X st (tZ own E f)):PSs X [st] (tZ own E f):=lH h
theorem R9 (h1:PS X st (tZ own E f)) (h2:PSs X rest (tZ own E g)):PSs X (st::rest) (tZ own E (bH f g)):=PSs.imp (oG h1 h2) fun D σ H ⟨ρ,es,k⟩=>by
 refine ⟨ρ,es,?_⟩;cases hf:f ρ with
 | ok r=>
  cases r with
  | nx ρ'=>
   have e:bH f g ρ=g ρ':=by unfold bH;rw [hf];rfl
   rw [e] at k;exact fun σ' H' ku E'=>⟨ρ',E',k.step ku⟩
  | bk ρ'=>
   have e:bH f g ρ=.ok (.bk ρ'):=by unfold bH;rw [hf];rfl
   rw [e] at k;exact k
  | ct ρ'=>
   have e:bH f g ρ=.ok (.ct ρ'):=by unfold bH;rw [hf];rfl
   rw [e] at k;exact k
  | rt d=>
   have e:bH f g ρ=.ok (.rt d):=by unfold bH;rw [hf];rfl
   rw [e] at k;exact k
 | err c as=>
  have e:bH f g ρ=.err c as:=by unfold bH;rw [hf];rfl
  rw [e] at k;exact k
 | bad=>
  have e:bH f g ρ=.bad:=by unfold bH;rw [hf];rfl
  rw [e] at k;exact k
end
theorem aIt {K:PySem.W.Frag} {mg:Str->Option Value} {base:Heap} {x:Str} {st:Stmt} {fad:Addr} {fd:FuncData} {N ps:List Str} {k:Nat} {f:FS} (F:Fun K x x st fad fd) (hm:mg x=some (.ref fad)) (hb:Binds K fd ps []) (S:bL N ps (aK st)) (own:Nat->Bool) (hown:∀i,i<ps.length->own i=false) (hNl:ps.length<=N.length)
  (hbody:∀(cdv:Value) (A:Around) (outer:List Env) (s:Shared) (H:Hp) (E:XK),iI k (A.deeper (envOfC x (aK st) s.heap.objs.size fad cdv))->PSs (CG (CX2 P w) P w K mg base N x (aK st) fad cdv A outer s H E) (cN st) (tZ own E f)) (hx:own rtX=false:=by rfl):VH P w K mg base (k+1) x ps.length (fnS ps.length N.length f):=by
 refine ⟨fad,fd,ps,?_,hm,F.kp,hb⟩;obtain ⟨oc,od,kV,doc,pm,an,cdv,ct,osl,rfl,lk,hcd⟩:=F.ex;refine aHh lk hcd S (fun vs H Q E ⟨ds,h1,r,_⟩=>by rw [r.length,h1]) fun A outer s H vs Q E hr ⟨ds,hl,r,h⟩=>?_
 refine ⟨_,hbody cdv A outer s H E hr,?_⟩;have hst:start N vs=vs.map some++List.replicate (N.length-ps.length) none:=by
  show vs.map some++List.replicate (N.length-vs.length) none=_;rw [r.length,hl]
 have noown:∀a,¬Own own (start N vs) a:=fun a ⟨i,hi,e⟩=>by
  rw [hst] at e;by_cases h:i<ps.length
  ·rw [hown i h] at hi;cases hi
  ·rw [List.getElem?_append_right (by simp [r.length,hl];lia)] at e;rw [List.getElem?_replicate] at e;split at e <;> cases e
 cases hv:fnS ps.length N.length f ds with
 | ok d=>
  rw [hv] at h;obtain ⟨ρ,fl,es,h1,q⟩:=YH (E:=E) hx hown ⟨ds,d,hl,r,hv,h⟩;exact ⟨ρ,es,by rw [h1];exact q⟩
 | err c as=>
  rw [hv] at h;refine ⟨_,RP hst hl r hown noown,?_⟩;cases hf:f (ds++List.replicate (N.length-ps.length) .uD) with
  | ok fl=>
   exfalso;unfold fnS at hv;rw [hf] at hv;cases fl <;> cases hv
  | err c' as'=>
   unfold fnS at hv;rw [hf] at hv;cases hv;obtain ⟨fs,C,e1,e2,e3⟩:=h;exact ⟨fs,C,e1,e2,fun σ' H' dx kk x=>e3 H' dx (fun a o e=>(kk a o e (noown a)).1) x⟩
  | bad=>
   exfalso;unfold fnS at hv;rw [hf] at hv;cases hv
 | bad=>rw [hv] at h;exact h.elim
end
open Builtin Builtin.ObjectAttr
noncomputable def aDd (tbl:List (Str×Bool)) (i:Nat):FE:=fun ρ=>match ρ.getD i .uD with
 | .exc c _=>(match tbl.lookup c with|some b=>.ok (.bl b)|none=>.bad)
 | _=>.bad
noncomputable def aBk (cs:List Str) (f:Str) (i:Nat):FE:=fun ρ=>match ρ.getD i .uD with
 | .exc c fs=>if cs.contains c then (match fs.lookup f with|some t=>.ok (.str t)|none=>.bad) else .bad
 | _=>.bad
def aLg (v:List D->Res D) (n:Nat) (fa:FA) (cs:List Str) (ic ie:Nat):FS:=fun ρ=>do
 let ds <- fa ρ
 match dO n v ds with
 | .err c [.exc c' fs]=>if c'==c&&cs.contains c&&decide (ie<ρ.length) then .ok (.nx (((ρ.set ie (.exc c fs)).set ic (.exc c fs)).set ie .uD)) else .bad
 | _=>.bad
def aNb (X:Cx) (C:Addr) (fl:List Str) (t:TA):TE:=fun σ H Q=>t σ H fun vs H1=>∃ts:List Str,vs=ts.map V.str/\ts.length=fl.length/\∀a dx,X.s₀.heap.get? a=none->H1 a=none->H1 dx=none->dx≠a->Q (.ref a) (upd (upd H1 dx (.ext (XD dx (fl.zip ts)))) a (.ext (XO1 a C dx)))
section
variable {X:Cx} {C f:Addr}
theorem aIu (M:XI X.K C f) (F:jQ X.prog X.w X.K X.mg X.base CX0 k f fd ps (yP C fl)) (hr:iI (k+1) X.A) (hb:Binds X.K fd ps []) (hz:fl.length<=sizeLine) (hex:X.ex=[]) (hg:Gl X x) (hm:X.mg x=some (.ref C)) (ha:PA X (e::es) t)
  (hdb:nDb x:=by decide) (he:starEach (e::es) X.env=(false,eval e X.env)::starEach es X.env:=by rfl) (hpl:(backTo pos (starEach es X.env)).any (·.1)=false:=by rfl):PE X (.Call (.Name x p) (e::es) [] pos) (aNb X C fl t):=by
 intro pins s σ H Q I h;refine wpAny_Call_Name_kw (j_ I hg hm ?_ hdb);refine PySem.W.callWith_K I.ok.mod.kin M.kp (thn (ha pos pins s σ H _ I h) fun us s1 ⟨vs,H1,I1,r,ts,ev,hl,q⟩=>⟨I1.kIn,?_⟩) he hpl;subst ev;exact aF7 M F hr hb I1 r hl (show us.length<=sizeLine from by rw [<-r.length,List.length_map,hl];exact hz) hex fun a dx s2 g1 g2 g3 g4 I2=>⟨.ref a,_,I2,rfl,q a dx g1 g2 g3 g4⟩
def aFg (X:Cx) (te:TE):TS:=fun _ σ H=>te σ H fun v H1=>∃a C dx,v=.ref a/\H1 a=some (.ext (XO1 a C dx))/\exC X.K C=true/\∀pins s,Inv X pins σ H1 s->X.xe (.ref a) s
theorem ZJ (hc:X.calm=true) (he:PE X e te):PS X (.Raise (some e) none pos) (aFg X te):=by
 intro pins s σ H D I h;have hh:=I.ok.hd hc;show wpAny _ _ (exec (.Raise (some e) none pos) X.env) _ _ _;rw [arm_exec_Raise];refine wpAny_bind (wpAny_standAt (show _ from ?_));simp only [evalOpt,Option.map];unfold raiseStmt;refine wpAny_bind (wpAny_bind (wpAny_mono (he pins s σ H _ I h) (fun u s1 ⟨v,H1,I1,rv,a,C,dx,ev,ea,qC,q⟩=>wpAny_bind (wpAny_standAt (wpAny_pure ?_))) fun _ _ x=>x));subst ev;obtain rfl:u=Value.ref a:=rv;obtain ⟨⟨t0,ht⟩,_⟩:=I1.hok a _ ea;have out:=q _ _ I1;obtain ⟨hp,g,d,tk,os⟩:=s1;obtain ⟨⟨bm,N,nm,qn,bs,sn,sub,ab,col,dd,k0,k1,k2,k3,k5,mN,hC,hN,T⟩⟩:=RX I1.kIn qC;have hcB:(Value.ref C::bm).contains (.type "BaseException")=true:=by rw [List.contains_cons,T.hasType PySem.F.excBase_ValueError.hasBase,Bool.or_true]
 repeat (first|with_reducible refine wpAny_loadPart_at ht ?_|with_reducible refine wpAny_loadPart_at hC ?_|(with_reducible refine wpAny_isSubtype_exc hC ?_;rw [hcB])|wp_step)
 exact wpAny_raiseNew_none hh out
end
variable [KFrag]
section
variable {P:Program} {w:World} {K:PySem.W.Frag} {mg:Str->Option Value} {base:Heap} {N:List Str} {qual:Str} {scope:Scope} {fad C fi:Addr} {cd:Value} {A:Around} {outer:List Env} {s:Shared} {H:Hp} {E:XK} {own:Nat->Bool} {pos p cpos:Pos} {x:Str} {e:Expr} {es:List Expr} {fa:FA} {r:Bool} {fl:List Str} {k k':Nat} {fd:FuncData} {ps:List Str}
theorem aFh (hK:KFrag.K=K) (hn:nsIn K mainGlobals x=some (some (.ref C))) (M:XI K C fi) (F:jQ P w K mg base CX0 k fi fd ps (yP C fl)) (hr:iI k' (A.deeper (envOfC qual scope s.heap.objs.size fad cd))) (hkk:k+1<=k') (hb:Binds K fd ps []) (hz:fl.length<=sizeLine) (hg:Gl (CG (CX2 P w) P w K mg base N qual scope fad cd A outer s H E) x) (hm:mg x=some (.ref C)) (ha:PA (CG (CX2 P w) P w K mg base N qual scope fad cd A outer s H E) (e::es) (gA fa r))
  (hdb:nDb x:=by decide) (he:starEach (e::es) (envOfC qual scope s.heap.objs.size fad cd)=(false,eval e (envOfC qual scope s.heap.objs.size fad cd))::starEach es (envOfC qual scope s.heap.objs.size fad cd):=by rfl) (hpl:(backTo cpos (starEach es (envOfC qual scope s.heap.objs.size fad cd))).any (·.1)=false:=by rfl) :
  PS (CG (CX2 P w) P w K mg base N qual scope fad cd A outer s H E) (.Raise (some (.Call (.Name x p) (e::es) [] cpos)) none pos) (tZ own E (yR x fl (noE fa))):=by
 subst hK;refine PS.imp (ZJ rfl (aIu M F (hr.mono hkk) hb hz rfl hg hm ha hdb he hpl)) fun D σ H1 ⟨ρ,er,q⟩=>?_
 rcases aDc with ⟨ds,h1,h2⟩|h2
 ·have e0:yR x fl (noE fa) ρ=(match ZG ds with|some ts=>if ts.length=fl.length then .err x [.exc x (fl.zip ts)] else .bad|none=>.bad):=by unfold yR;rw [h2];rfl
  rw [e0] at q;split at q
  ·rename_i ts hts;split at q
   ·rename_i hl;obtain ⟨fs,C',e1,e2,e3⟩:=q;cases e1;rw [hn] at e2;cases e2;refine ⟨ρ,ds,er.er,h1,fun vs H2 sm rs _=>⟨ts,R7 hts rs,hl,fun a dx g1 g2 g3 g4=>⟨a,C,dx,rfl,aG,M.cl,fun pins s2 I2=>Y0 I2 aG g1 ?_⟩⟩⟩;have eh:hid (upd (upd H2 dx (.ext (XD dx (fl.zip ts)))) a (.ext (XO1 a C dx))) a=upd H2 dx (.ext (XD dx (fl.zip ts))):=by
     funext b
     unfold hid;by_cases hb:b=a
     ·rw [if_pos hb,hb,aR (Ne.symm g4)];exact g2.symm
     ·rw [if_neg hb,aR hb]
    rw [eh];exact e3 σ _ (some dx) (.same (sm.trans (RT g3))) aG
   ·exact q.elim
  ·exact q.elim
 ·have e0:yR x fl (noE fa) ρ=.bad:=by unfold yR;rw [h2];rfl
  rw [e0] at q;exact q.elim
end
structure XA (K:Frag) (C:Addr) (f:Str):Prop where
 xc:XC K C
 hd:hasDictIn K C=true
 no:findIn K (.ref C) f=some none
theorem XO.exc (x:XO a C dx h):ExcAt a C h:=let ⟨o,e,c,_⟩:=x;⟨o,e,c⟩
section
variable {prog:Program} {w:World} {A:Around} {E:Value->Shared->Prop} {s:Shared} {K:Frag} {x C dx:Addr} {f t:Str} {fs:List (Str×Str)}
theorem aBl (X:K.In s.heap) (c:XA K C f) (xo:XO x C (some dx) s.heap) (xd:XD dx fs s.heap) (l:fs.lookup f=some t) (h:∀tk,Q (.str t tk) {s with toks:=s.toks+1}):wpAny (model prog w) A (getAttr (.ref x) f b) Q E s:=by
 obtain ⟨hh,g,dr,tt,os⟩:=s;obtain ⟨mA,n,_,hm⟩:=xd;have hf:=hm f;rw [l] at hf;obtain ⟨tk,hf⟩:=hf;obtain ⟨od,ho,hl⟩:=HY n;have p:=xo.exc;obtain ⟨o,e1,e2,e3,vs,e4⟩:=xo;have J:InstAt hh x o C (some od):=⟨e1,e2,by unfold notCls;rw [e4],by rw [e3];exact ho⟩
 have L0:=CQ (M:=model prog w) p;have L1:=looks_findIn (M:=model prog w) X c.xc.ga;have L2:=looks_findIn (M:=model prog w) X c.xc.gh;have L3:Looks (model prog w) hh (find (.ref x) (.ref C) f) (.value (.str t tk)):=looks_find X J (findObj_own c.hd c.no rfl (by rw [hl,hf]));have z2:(Value.builtin "BaseException.__getattribute__" == Value.builtin "object.__getattribute__")=false:=by decide +kernel
 have z1:(onTheHeap (Value.ref C)&&Value.builtin "BaseException.__getattribute__" == Value.builtin "object.__getattribute__")=false:=by rw [z2];rfl
 unfold getAttr getAttrBy;refine wpAny_bind (wpAny_mkText (wpAny_holding ?_));refine wpAny_bind (L0.at (wpAny_bind (L1.at (show _ from ?_))));dsimp only;rw [z1,if_neg (by decide)];unfold getAttrByItsOwn callGetattribute hookBefore boundAndCalled;rw [if_pos (show onTheHeap (Value.ref C)=true from rfl)];refine wpAny_bind (L2.at (wpAny_bind (wpAny_attempt (wpAny_holding ?_))));rw [show (b&&onTheHeap (Value.builtin "BaseException.__getattribute__"))=false from Bool.and_false _,if_neg (by decide)];refine wpAny_bind (wpAny_of_eq (F.excAttr_ValueError.ga.bind (.ref x)) ?_);refine wpAny_call (codeAny_call_builtin F.excAttr_ValueError.ga.plain F.entry_bexc_ga (JR (K:=K) (C:=C) X p c.xc ?_));show wpAny _ _ (Builtin.«object.__getattribute__» ⟨[.ref x,.str f tt],[]⟩) _ _ _
 delta Builtin.«object.__getattribute__»
 refine wpAny_bind (wpAny_pure (wpAny_bind (wpAny_pure (wpAny_bind (L0.at (wpAny_bind (L3.at ?_)))))));refine wpAny_pure ?_;show wpAny _ _ (handedOut (.str t tk)) _ _ _;exact wpAny_pure (h tk)
end
section
variable {X:Cx} {y f:Str} {i:Nat} {np pos:Pos} {cs:List Str}
theorem ZK (hK:KFrag.K=X.K) (hc:∀c,cs.contains c=true->∃C,nsIn X.K mainGlobals c=some (some (.ref C))/\XA X.K C f) (hN:X.N[i]?=some y) (hv:Vis X.env.scope y) (hb:attributeBase (.Name y np) f X.env (eval (.Name y np) X.env)=eval (.Name y np) X.env:=by rfl)
  (hd:(y==("__debug__" : Str))=false:=by decide) (hcd:(y==("__classdict__" : Str))=false:=by decide):PE X (.Attribute (.Name y np) f pos) (gE (aBk cs f i) true):=by
 intro pins s σ H Q I ⟨ρ,d,er,h,q⟩;unfold aBk at h;split at h
 ·rename_i c fs hρ;split at h
  ·rename_i hcc;split at h
   ·rename_i t hl;cases h;obtain ⟨v,h1,r1⟩:=er i (by rw [hρ];intro z;cases z);rw [hρ] at r1;obtain ⟨a,C,dx,rfl,n,e,qd⟩:=r1.inv;obtain ⟨C',n',xa⟩:=hc c hcc;rw [hK,n'] at n;cases n;refine W2 hb (thn (dF hN hv hd hcd pins s σ H (fun v H1=>v=.ref a/\H1=H) I ⟨_,h1,rfl,rfl⟩) fun u s1 ⟨v,H1,I1,rv,e1,e2⟩=>?_);subst e1 e2;obtain rfl:u=Value.ref a:=rv;cases dx with
    | none=>cases qd;cases hl
    | some dx=>
     obtain ⟨xo,_⟩:=I1.hok a _ e;obtain ⟨xd,_⟩:=I1.hok dx _ qd;exact aBl I1.kIn xa xo xd hl fun tk=>⟨.str t,_,I1.tok _,⟨tk,rfl⟩,q _ _ (fun _ _ z=>z) (.str t) fun _=>.str t⟩
   ·exact bx h
  ·exact bx h
 ·exact bx h
end
end Mi
namespace Mi
open PySem L2 PySem.W PySem.SeqAt PySem.Spec PyProof.Rows
def aLh (K:Frag) (cM:Value) (t:TA) (sp:Sp) (ie:Nat) (ts:TS):TS:=fun D σ H=>t σ H fun vs H1=>sp vs H1 (fun _ _=>False) fun Cv dd H2=>∃C,Cv=.ref C/\exmOne K (.ref C) cM=some true/\∀a,H2 a=none->ts {nx:=fun σ' H'=>D.nx (σ'.set ie none) H',rt:=fun _ _=>False} (σ.set ie (some (.ref a))) (upd H2 a (.ext (XO a C dd)))
theorem aFi
  (hst:X.stack=X.env::X.outer) (hfr:X.env.frame=some X.env.locals) (F:jQ X.prog X.w X.K X.mg X.base (CX2 X.prog X.w) k fad fd ps sp) (hr:iI k X.A) (hg:Gl X f) (hm:X.mg f=some (.ref fad)) (hk:keepIn X.K (.ref fad)=true) (hb:Binds X.K fd ps [])
  (ha:PA X.nox (e::es) t) (hgM:Gl X mx) (hmM:X.mg mx=some cM) (hN:X.N.Nodup) (hin:X.N[ie]?=some n) (hln:X.env.scope.names.lookup n=some .local)
  (hs:∀v,PSs (mrk X v).nox (b0::suite) ts)
  (hdb:(f==("__debug__" : Str))=false:=by decide) (hdM:(mx==("__debug__" : Str))=false:=by decide) (he:starEach (e::es) X.env=(false,eval e X.env)::starEach es X.env:=by rfl) (hpl:(backTo cpos (starEach es X.env)).any (·.1)=false:=by rfl)
  (hsw:swapsWith (.Call (.Name f p) (e::es) [] cpos) none xpos.line X.env=pure false:=by rfl) :
  PS X (.Try [.Expr (.Call (.Name f p) (e::es) [] cpos) xpos] [.ExceptHandler (some (.Name mx mp)) (some n) (b0::suite) hpos] [] [] pos) (aLh X.K cM t sp ie ts):=by
 intro pins s σ H D I h;refine wpAny_Try_except (wpAny_execs_cons (wpAny_Expr_any ?_ I.quiet hsw));refine wpAny_Call_Name_kw (j_ I hg hm ?_ hdb);refine callWith_K I.ok.mod.kin hk (wpAny_mono (ha cpos pins s σ H _ (I.wish _) h) (fun us s1 ⟨vs,H1,I1,r,q⟩=>⟨I1.kIn,?_⟩) fun _ _ z=>False.elim z) he hpl;have I1:Inv X pins σ H1 s1:=I1.lG;have hl:(us++[]).length=ps.length:=by rw [List.append_nil,<-r.length];exact F.len _ _ _ _ q
 have hb':=hb s1 us I1.kIn hl;rw [List.append_nil] at hb';refine wpAny_call (codeAny_mono (F.run X.A X.stack s1 H1 ⟨us,[]⟩ us vs _ _ hr I1.env0 hb' r q) fun r s' hq=>?_);cases r with
 | ok fl=>
  cases fl with
  | ret u=>obtain ⟨_,_,_,_,_,_,_,z⟩:=hq;exact z.elim
  | next=>exact False.elim hq
  | brk=>exact False.elim hq
  | cont=>exact False.elim hq
 | error e=>
  obtain ⟨a,C',dd,H2,B,rfl,os',bare',fly,clo,hn,hgone,C,eC,hx,hE⟩:=hq;cases eC;rw [hst] at fly;refine aF5 (by rw [I.ok.frames,hst]) hfr fly fun h4 held4 sm4=>?_
  refine yN held4 fun h5 fly5 sm5=>?_
  have up5:s'.heap.UpToSlots h5:=Heap.UpToSlots.trans sm4 sm5;have I5:Inv X pins σ H2 {s' with heap:=h5}:=by
   obtain ⟨un,hok⟩:=clo h5 fly5.1 up5;exact I1.call' os' un hok bare' (fun b z=>absurd z (by simp))
  refine wpAny_handleBy_cons (codeAny_handlers_test ?_) (by intro q;cases q);refine j_ (YS I5 _) hgM hmM ?_ hdM;have LT:Looks (model X.prog X.w) h5 (typeOf (.ref a)) (.ref C'):=by
   obtain ⟨ob,hob,hc,_⟩:=fly5.there;rw [<-hc];exact (Looks.ld hob).andThen .now
  refine (exm_one I5.kIn LT hx).here ?_;refine codeAny_handlers_suite_as ?_;refine yN fly5 fun h6 fly6 sm6=>?_
  obtain ⟨un6,hok6⟩:=clo h6 fly6.1 (Heap.UpToSlots.trans up5 sm6);have I6:Inv X pins σ (upd H2 a (.ext (XO a C' dd))) {s' with heap:=h6}:=
   I1.call' os' (aD4 un6 hgone hn) (YW hok6 hn (aL9 fly6.there)) bare' (fun b z=>absurd z (by simp))
  refine HX (v:=.ref a) I6 hN hin (.inl hln) rfl (fun s7 I7 _=>?_) (.inr hln);refine wpAny_mono (hs (.ref a) pins s7 _ _ _ ((YS I7 _).wish _) (hE a hn)) (fun fl s8 q8=>?_) fun _ _ z=>False.elim z
  cases fl with
  | ret u=>obtain ⟨_,_,_,_,_,z⟩:=q8;exact z.elim
  | brk=>obtain ⟨_,_,_,z⟩:=q8;exact z.elim
  | cont=>obtain ⟨_,_,_,z⟩:=q8;exact z.elim
  | next=>
   obtain ⟨σ8,H8,I8,q⟩:=q8;have I8:Inv X pins σ8 H8 s8:=YT I.ok I8.lG;obtain ⟨m,hm8,hl8⟩:=id I8.loc;refine wpAny_nameGoes_keeps hln hm8 (by rw [I.ok.kind];rfl) fun h9 v hn9 sb9=>?_
   exact ⟨_,H8,aBb I8 hN hin hm8 hl8 hn9 sb9,q⟩
section
variable [KFrag]
theorem R_ (ho:own i=false) (a:Addr):Own own (σ.set i none) a↔Own own σ a:=by
 constructor
 ·rintro ⟨j,hj,e⟩;have:i≠j:=fun z=>by subst z;rw [ho] at hj;cases hj
  rw [List.getElem?_set_ne this] at e;exact ⟨j,hj,e⟩
 ·rintro ⟨j,hj,e⟩;have:i≠j:=fun z=>by subst z;rw [ho] at hj;cases hj
  exact ⟨j,hj,by rw [List.getElem?_set_ne this];exact e⟩
theorem ES.drop {own:Nat->Bool} (ho:own i=false) (es:ES own H σ ρ):ES own H (σ.set i none) (ρ.set i .uD):=by
 refine ⟨by simp [es.len],fun j hj=>?_,fun j v hj hv=>?_⟩
 ·rw [dG] at hj ⊢;by_cases h:i=j/\i<ρ.length
  ·rw [if_pos h] at hj;exact absurd rfl hj
  ·rw [if_neg h] at hj ⊢;obtain ⟨v,h1,h2⟩:=es.at_ j hj;have ne:i≠j:=fun z=>by
    subst z;have:i<σ.length:=(List.getElem?_eq_some_iff.mp h1).1;exact h ⟨rfl,by rw [<-es.len];exact this⟩
   exact ⟨v,by rw [List.getElem?_set_ne ne];exact h1,fun o=>(h2 o).mono fun a n z=>n ((R_ ho a).mp z)⟩
 ·have ne:i≠j:=fun z=>by subst z;rw [ho] at hj;cases hj
  rw [List.getElem?_set_ne ne] at hv;obtain ⟨a,o,h1,h2,h3,h4,h5,h6⟩:=es.own j v hj hv;have e:(ρ.set i .uD).getD j .uD=ρ.getD j .uD:=by rw [dG,if_neg (fun z=>ne z.1)]
  refine ⟨a,o,h1,by rw [e];exact h2,by rw [e];exact h3,h4,h5,fun l hl hs=>h6 l hl ?_⟩;have:i≠l:=fun z=>by subst z;rw [ho] at hl;cases hl
  rwa [List.getElem?_set_ne this] at hs
section
theorem aIv (hK:KFrag.K=X.K) (hst:X.stack=X.env::X.outer) (hfr:X.env.frame=some X.env.locals) (R:VH X.prog X.w X.K X.mg X.base k f n v) (hr:iI k' X.A) (hkk:k<=k') (hg:Gl X f) (ha:PA X.nox (e::es) (gA fa ra)) (hgM:Gl X mx) (hmM:X.mg mx=some cM)
  (hcs:∀c,cs.contains c=true->∃C,nsIn X.K mainGlobals c=some (some (.ref C))/\exmOne X.K (.ref C) cM=some true)
  (hN:X.N.Nodup) (hin:X.N[ie]?=some nm) (hln:X.env.scope.names.lookup nm=some .local) (hic:X.N[ic]?=some cn) (hlc:Loc X.env.scope cn) (hfc:X.fn cn=true\/X.env.scope.names.lookup cn=some .local) (oc:own ic=false) (oe:own ie=false) (hne:ie≠ic)
  (hdb:(f==("__debug__" : Str))=false:=by decide) (hdM:(mx==("__debug__" : Str))=false:=by decide) (he:starEach (e::es) X.env=(false,eval e X.env)::starEach es X.env:=by rfl) (hpl:(backTo cpos (starEach es X.env)).any (·.1)=false:=by rfl)
  (hsw:swapsWith (.Call (.Name f p) (e::es) [] cpos) none xpos.line X.env=pure false:=by rfl) (hs2:swapsWith (.Name nm ep) (some (.Name cn tp)) ap.line X.env=pure false:=by rfl) (hd1:(nm==("__debug__" : Str))=false:=by decide) (hd2:(nm==("__classdict__" : Str))=false:=by decide) :
  PS X (.Try [.Expr (.Call (.Name f p) (e::es) [] cpos) xpos] [.ExceptHandler (some (.Name mx mp)) (some nm) [.Assign [.Name cn tp] (.Name nm ep) ap] hpos] [] [] pos) (tS own (aLg v n fa cs ic ie)):=by
 obtain ⟨fm,fdm,ps,F,hm,hk,hb⟩:=R;refine PS.imp (aFi hst hfr F (hr.mono hkk) hg hm hk hb ha hgM hmM hN hin hln (fun v=>lH (aCq hN hic hlc (dF hin (.inl hln) hd1 hd2) hs2 hfc)) hdb hdM he hpl hsw) fun D σ H ⟨ρ,fl,es,h,q⟩=>?_
 obtain ⟨ds,h1,h⟩:=bA h;refine ⟨ρ,ds,es.er,h1,fun vs H1 sm rs _=>?_⟩;split at h
 ·rename_i c c' fs hv;split at h
  ·rename_i hc;rw [Bool.and_eq_true,Bool.and_eq_true] at hc;have ec:=beq_iff_eq.mp hc.1.1;subst ec;cases h;unfold dO at hv;split at hv
   ·rename_i hl;obtain ⟨C,hn,hx⟩:=hcs _ hc.1.2;refine ⟨ds,of_decide_eq_true hl,rs,?_⟩;rw [hv];refine ⟨fs,C,rfl,by rw [hK];exact hn,fun H2 dd s2 xd=>⟨C,rfl,hx,fun a ha=>?_⟩⟩;have hl2:ie<σ.length:=by
     rw [es.len];exact of_decide_eq_true hc.2
    have rp:∀P,Rep P (upd H2 a (.ext (XO a C dd))) (.ref a) (.exc c' fs):=fun P=>.exc (by rw [hK];exact hn) aG (by
     cases dd with
     | none=>exact xd
     | some d=>
      have xd:H2 d=some (.ext (XD d fs)):=xd;show upd _ _ _ d=_;rw [aR (fun z=>by rw [z,ha] at xd;cases xd)];exact xd)
    have sm3:bV H (upd H2 a (.ext (XO a C dd))):=sm.trans (s2.trans (RT ha));have es3:=(((es.same sm3).set oe (rp _)).set oc (rp _)).drop oe;refine ⟨.ref a,by rw [List.getElem?_set_self hl2],?_⟩;exact q _ _ (fun b o eb nb=>⟨sm3 b o eb,fun z=>nb ((n8 oe b).mp ((n8 oc b).mp ((R_ oe b).mp z)))⟩) es3
   ·cases hv
  ·exact bx h
 ·exact bx h
end
section
theorem aFj (er:ER H σ ρ) (h:ρ.getD i .uD=.exc c fs):∃a C dx,σ[i]?=some (some (.ref a))/\nsIn KFrag.K mainGlobals c=some (some (.ref C))/\H a=some (.ext (XO a C dx)):=by
 obtain ⟨v,h1,r1⟩:=er i (by rw [h];intro z;cases z);rw [h] at r1;obtain ⟨a,C,dx,rfl,n,e,q⟩:=r1.inv;exact ⟨a,C,dx,h1,n,e⟩
theorem sU (hK:KFrag.K=X.K) (ht:∀c b,tbl.lookup c=some b->∃C,nsIn X.K mainGlobals c=some (some (.ref C))/\XC X.K C/\kitOne X.K (.ref C) u=some b) (hu:∀u',RelV v u'->u'=u) (hg:Gl X "isinstance") (hm:X.mg "isinstance" = none) (hN:X.N[i]?=some y) (hv:Vis X.env.scope y) (ha:PE X ce (tC v))
  (hst:starEach [ce] X.env=(false,eval ce X.env)::starEach [] X.env) (hpl:(backTo pos (starEach [ce] X.env)).any (·.1)=false)
  (hd:(y==("__debug__" : Str))=false:=by decide) (hcd:(y==("__classdict__" : Str))=false:=by decide) :
  PE X (.Call (.Name "isinstance" p) [.Name y np,ce] [] pos) (gE (aDd tbl i) true):=by
 have hc:nR X (.builtin "isinstance") (fun vs H Q=>∃a C dx b,vs=[.ref a,v]/\H a=some (.ext (XO a C dx))/\XC X.K C/\kitOne X.K (.ref C) u=some b/\Q (.bl b) H):=by
  intro pins s σ H vs us Q I r ⟨a,C,dx,b,e,ea,c,hk,q⟩;subst e;cases r with
  | cons r1 r=>
   cases r with
   | cons r2 r=>
    cases r;cases r1;have e2:=hu _ r2;subst e2;obtain ⟨px,_⟩:=I.hok a _ ea;exact kia_one (aBa c) I.kIn px.exc hk (by intro z;cases z) fun tk=>⟨.bl b,H,I.tok tk,rfl,q⟩
 refine PE.imp (wW hc hg hm (by decide +kernel) (cA (dF hN hv hd hcd) (cA ha lD hst)) (hpl:=hpl)) fun σ H Q ⟨ρ,d,er,h,q⟩=>?_
 unfold aDd at h;split at h
 ·rename_i c fs hρ;split at h
  ·rename_i b hb;cases h;obtain ⟨a,C,dx,h1,n,e⟩:=aFj er hρ;obtain ⟨C',n',xc,hk⟩:=ht c b hb;rw [hK,n'] at n;cases n;exact ⟨.ref a,h1,a,C,dx,b,rfl,e,xc,hk,q _ _ (fun _ _ z=>z) (.bl b) fun _=>.bl b⟩
  ·exact bx h
 ·exact bx h
end
end
noncomputable def aLi (s:Stmt) (j:Nat):Stmt:=match s with
 | .ClassDef _ _ _ b _ _ _ _ _ _ _=>b.getD j (.Pass ⟨0,0,0,0⟩)
 | _=>.Pass ⟨0,0,0,0⟩
def aLj (P:Program) (w:World) (K:Frag) (mg:Str->Option Value) (base:Heap) (k:Nat) (c:Str) (fl:List Str):Prop:=
 ∃(C fi:Addr) (fd:FuncData) (ps:List Str),nsIn K mainGlobals c=some (some (.ref C))/\mg c=some (.ref C)/\XI K C fi/\jQ P w K mg base CX0 k fi fd ps (yP C fl)/\Binds K fd ps []/\fl.length<=sizeLine
def VJ (p:Str->Bool->Prop):List (Str×Bool)->Prop
 | []=>True
 | (c,b)::r=>p c b/\VJ p r
theorem g_:∀{t:List (Str×Bool)},VJ p t->∀c b,t.lookup c=some b->p c b
 | [],_,_,_,h=>by cases h
 | (d,e)::r,⟨h1,h2⟩,c,b,h=>by
  rw [List.lookup_cons] at h;split at h
  ·rename_i z;rw [beq_iff_eq.mp z];cases h;exact h1
  ·exact g_ h2 c b h
def aIw (p:Str->Prop):List Str->Prop
 | []=>True
 | c::r=>p c/\aIw p r
theorem GC:∀{t:List Str},aIw p t->∀c,t.contains c=true->p c
 | [],_,_,h=>by cases h
 | d::r,⟨h1,h2⟩,c,h=>by
  rw [List.contains_cons] at h;rcases (Bool.or_eq_true _ _).mp h with z|z
  ·rw [beq_iff_eq.mp z];exact h1
  ·exact GC h2 c z
theorem aBm {K:Frag} {x qual:Str} {st:Stmt} {fad C M:Addr} {fd:FuncData} {N ps:List Str} {f:Str} {k:Nat} (F:Fun K x qual st fad fd) (S:bL N ps (aK st)) (hN:N.length=2) (hp:ps.length=2)
  (hbody:∀(cdv:Value) (A:Around) (outer:List Env) (s:Shared) (H:Hp) (E:XK),iI k (A.deeper (envOfC qual (aK st) s.heap.objs.size fad cdv))->
   PSs (CG CX0 P w K mg base N qual (aK st) fad cdv A outer s H E).nox (cN st) (aH0 (aDv (tBase C (UJ (aAf 0) (UJ (aAf 1) aHc)))) (aIj C f (aAf 0) (aAf 1)))):jQ P w K mg base CX0 (k+1) fad fd ps (yP C [f]):=by
 refine F.ok S (fun vs H Q E ⟨e,ts,h1,h2,_⟩=>by rw [h1,hp];simp at h2;simp [h2]) fun cdv A outer s H vs Q E hr ⟨e,ts,h1,h2,h3,h4⟩=>⟨_,hbody cdv A outer s H E hr,?_⟩
 obtain ⟨t,rfl⟩:∃t,ts=[t]:=by
  match ts,h2 with
  | [t],_=>exact ⟨t,rfl⟩
 subst h1;have e0:L2.start N [V.ref e,V.str t]=[some (V.ref e),some (V.str t)]:=by
  unfold L2.start;rw [hN];rfl
 show aH0 _ _ _ (L2.start N [V.ref e,V.str t]) H;rw [e0];refine ⟨.ref e,rfl,.str t,rfl,e,[.str t],rfl,show 1<=sizeLine from by decide,h3,?_⟩;exact ⟨.str t,rfl,.ref e,rfl,e,t,rfl,rfl,h3,fun dx hd=>h4 dx hd⟩
variable [KFrag]
section
variable {P:Program} {w:World} {K:PySem.W.Frag} {mg:Str->Option Value} {base:Heap} {N:List Str} {qual:Str} {scope:Scope} {fad:Addr} {cd:Value} {A:Around} {outer:List Env} {s:Shared} {H:Hp} {E:XK} {own:Nat->Bool} {pos p cpos:Pos} {x:Str} {e:Expr} {es:List Expr} {fa:FA} {r:Bool} {fl:List Str} {k k':Nat}
theorem aBn (R:aLj P w K mg base k x fl) (hK:KFrag.K=K) (hr:iI k' (A.deeper (envOfC qual scope s.heap.objs.size fad cd))) (hkk:k+1<=k') (hg:Gl (CG (CX2 P w) P w K mg base N qual scope fad cd A outer s H E) x) (ha:PA (CG (CX2 P w) P w K mg base N qual scope fad cd A outer s H E) (e::es) (gA fa r))
  (hdb:nDb x:=by decide) (he:starEach (e::es) (envOfC qual scope s.heap.objs.size fad cd)=(false,eval e (envOfC qual scope s.heap.objs.size fad cd))::starEach es (envOfC qual scope s.heap.objs.size fad cd):=by rfl) (hpl:(backTo cpos (starEach es (envOfC qual scope s.heap.objs.size fad cd))).any (·.1)=false:=by rfl) :
  PS (CG (CX2 P w) P w K mg base N qual scope fad cd A outer s H E) (.Raise (some (.Call (.Name x p) (e::es) [] cpos)) none pos) (tZ own E (yR x fl (noE fa))):=by
 obtain ⟨C,fi,fd,ps,hn,hm,M,F,hb,hz⟩:=R;exact aFh hK hn M F hr hkk hb hz hg hm ha hdb he hpl
end
end Mi
namespace Mi
open PySem L2 PySem.SeqAt PySem.Spec PyProof.Rows
inductive Srx where
 | par (i:Nat)
 | exp (f:FE)
def Srx.ev (ρ:List D):Srx->Res D
 | .par i=>h_ i ρ
 | .exp f=>f ρ
def okF (d:D):Bool:=d.pure||inner d
def evS (ρ:List D):List (Str×Srx)->Res (List (Str×D))
 | []=>.ok []
 | (f,s)::r=>do
  let d <- s.ev ρ
  let ds <- evS ρ r
  if okF d then .ok ((f,d)::ds) else .bad
def aNc (c f:Str) (fa:FE):FE:=fun ρ=>do
 let d <- fa ρ
 match d with
 | .ins c' fs=>if decide (c'=c) then Res.ofOpt (fs.lookup f) else .bad
 | _=>.bad
def GD (c:Str) (l:List (Str×Srx)) (n:Nat) (fa:FA):FE:=fun ρ=>do
 let ds <- fa ρ
 if decide (ds.length=n)&&D.aN ds then (do let fs <- evS (.uD::ds) l;.ok (.ins c fs)) else .bad
noncomputable def aNd:HO->Bool
 | .tup _=>true
 | .frz _ _=>true
 | .ext _=>true
 | _=>false
section
variable [KFrag]
def ZL (H H':Hp):Prop:=∀a o,H a=some o->aNd o=true->H' a=some o
mutual
theorem Rep.nC {P P':Addr->Prop} {H H':Hp} (k:ZL H H'):∀{v:V} {d:D},Rep P H v d->d.pure=true->Rep P' H' v d
 | _,_,.non,_=>.non
 | _,_,.bl b,_=>.bl b
 | _,_,.int i,_=>.int i
 | _,_,.str x,_=>.str x
 | _,_,.tup e r,h=>.tup (k _ _ e rfl) (bG.nC k r (by rw [D.pure] at h;exact h))
 | _,_,.lst _ _ _,h=>by rw [D.pure] at h;cases h
 | _,_,.cel _ _ _,h=>by rw [D.pure] at h;cases h
 | _,_,.frz e r,h=>.frz (e.imp (fun ⟨o,e⟩=>⟨o,k _ _ e rfl⟩) id) (bG.nC k r (by rw [D.pure] at h;exact h))
 | _,_,.dK _ _ _ _,h=>by rw [D.pure] at h;cases h
 | _,_,.dT _ _ _ _,h=>by rw [D.pure] at h;cases h
 | _,_,.fdK _ _ _,h=>by rw [D.pure] at h;cases h
 | _,_,.fdT _ _ _,h=>by rw [D.pure] at h;cases h
 | _,_,.exc _ _ _,h=>by rw [D.pure] at h;cases h
 | _,_,.ins _ _ _,h=>by rw [D.pure] at h;cases h
theorem bG.nC {P P':Addr->Prop} {H H':Hp} (k:ZL H H'):∀{v:List V} {d:List D},bG P H v d->D.aN d=true->bG P' H' v d
 | _,_,.nil,_=>.nil
 | _,_,.cons r t,h=>by
  rw [D.aN,Bool.and_eq_true] at h;exact .cons (Rep.nC k r h.1) (bG.nC k t h.2)
end
theorem gQ.nC (k:ZL H H'):∀{v:List (Key×V)} {d:List (D×D)},gQ P H v d->D.aN (d.map (·.2))=true->gQ P' H' v d
 | _,_,.nil,_=>.nil
 | _,_,.cons r t,h=>by
  rw [List.map_cons,D.aN,Bool.and_eq_true] at h;exact .cons (r.nC k h.1) (gQ.nC k t h.2)
theorem m9.nC (k:ZL H H'):∀{v:List (List Key×V)} {d:List (D×D)},m9 P H v d->D.aN (d.map (·.2))=true->m9 P' H' v d
 | _,_,.nil,_=>.nil
 | _,_,.cons r t,h=>by
  rw [List.map_cons,D.aN,Bool.and_eq_true] at h;exact .cons (r.nC k h.1) (m9.nC k t h.2)
def aAc (x:Addr) (H H':Hp):Prop:=∀a o,H a=some o->a≠x->H' a=some o
theorem aAc.upd:aAc x H (upd H x o):=fun a o' e n=>by rw [aR n];exact e
theorem aAc.use (b:aAc x H H') (hx:H x=some (.ins C dx fs)):ZL H H':=fun a o e u=>b a o e fun z=>by
 subst z;rw [hx] at e;cases e;cases u
theorem Rep.okK (b:aAc x H H') (hx:H x=some (.ins C dx fs)) (m:∀a,P a->P' a) (r:Rep P H v d) (h:okF d=true):Rep P' H' v d:=by
 have k:=b.use hx;rcases (Bool.or_eq_true _ _).mp h with h|h
 ·exact r.nC k h
 ·cases r with
  | lst e p r=>exact .lst (b _ _ e (M6 e hx (by intro z;cases z))) (m _ p) (r.nC k h)
  | cel e p r=>exact .cel (b _ _ e (M6 e hx (by intro z;cases z))) (m _ p) (r.nC k h)
  | dK e p r n=>exact .dK (b _ _ e (M6 e hx (by intro z;cases z))) (m _ p) (r.nC k h) n
  | dT e p r n=>exact .dT (b _ _ e (M6 e hx (by intro z;cases z))) (m _ p) (r.nC k h) n
  | _=>cases h
theorem nF.okK (b:aAc x H H') (hx:H x=some (.ins C dx fs)) (m:∀a,P a->P' a):∀{v:List (Str×V)} {d:List (Str×D)},nF P H v d->(d.all fun p=>okF p.2)=true->nF P' H' v d
 | _,_,.nil,_=>.nil
 | _,_,.cons r t,h=>by
  rw [List.all_cons,Bool.and_eq_true] at h;exact .cons (r.okK b hx m h.1) (nF.okK b hx m t h.2)
theorem nF.snoc (r1:Rep P H w e):∀{v:List (Str×V)} {d:List (Str×D)},nF P H v d->nF P H (v++[(f,w)]) (d++[(f,e)])
 | _,_,.nil=>.cons r1 .nil
 | _,_,.cons r t=>.cons r (nF.snoc r1 t)
theorem nF.look:∀{v:List (Str×V)} {d:List (Str×D)},nF P H v d->d.lookup f=some e->∃w,v.lookup f=some w/\Rep P H w e
 | _,_,.nil,h=>by cases h
 | _,_,.cons r t,h=>by
  rw [List.lookup_cons] at h ⊢;split at h
  ·cases h;exact ⟨_,rfl,r⟩
  ·exact nF.look t h
theorem SJ:∀{vf:List (Str×V)},f∉vf.map (·.1)->BZ f y vf=vf++[(f,y)]
 | [],_=>rfl
 | (g,x)::r,h=>by
  rw [List.map_cons,List.mem_cons,not_or] at h;show (if g=f then (g,y)::r else (g,x)::BZ f y r)=_;rw [if_neg (fun z=>h.1 z.symm),SJ h.2];rfl
def sT:Srx->TE
 | .par i=>aAf i
 | .exp f=>gE f true
def aK9 (K:PySem.W.Frag):List (Str×Srx)->TS
 | []=>aGz
 | (f,s)::r=>aH0 (aM3 K (aAf 0) (sT s) f) (aK9 K r)
def RFx (H1:Hp) (us:List V) (ds:List D) (H:Hp) (vf:List (Str×V)) (fs:List (Str×D)):Prop:=∀P:Addr->Prop,(∀a,H1 a=none->P a)->bG P H1 us ds->nF P H vf fs
theorem aDe {K:PySem.W.Frag} (cls:Cls K C) (hx0:σ[0]?=some (some (.ref x))) (hn:H1 x=none) (hr:bG All H1 us ds) (hρ:∀i d,h_ i ρ=.ok d->∃v,σ[i]?=some (some v)/\∀P,bG P H1 us ds->Rep P H1 v d):∀(l:List (Str×Srx)) (H:Hp) (vf:List (Str×V)) (fs0 fs:List (Str×D)),H x=some (.ins C dx vf)->bV H1 H->RFx H1 us ds H vf fs0->(fs0.all fun p=>okF p.2)=true->evS ρ l=.ok fs->(vf.map (·.1)++l.map (·.1)).Nodup->(∀f∈l.map (·.1),lL K C f)->vf.length+l.length<1000->
  (∀H' vf',bV H1 H'->H' x=some (.ins C dx vf')->RFx H1 us ds H' vf' (fs0++fs)->D'.nx σ H')->aK9 K l D' σ H
 | [],H,vf,fs0,fs,hx,sm,rf,ok0,he,nd,na,hl,q=>by
  cases he;exact q H vf sm hx (by rw [List.append_nil];exact rf)
 | (f,s)::r,H,vf,fs0,fs,hx,sm,rf,ok0,he,nd,na,hl,q=>by
  obtain ⟨d,h1,he⟩:=bA he;obtain ⟨ds',h2,he⟩:=bA he;split at he
  ·rename_i hk;cases he;have hlf:f∉vf.map (·.1):=fun z=>(List.nodup_append.mp nd).2.2 f z f (by simp) rfl
   have key:∀y H2,bV H H2->(∀P,(∀a,H1 a=none->P a)->bG P H1 us ds->Rep P H2 y d)->∃a C' dx' fs',aAf 0 σ H2 fun x' H3=>x'=.ref a/\H3 a=some (.ins C' dx' fs')/\Cls K C'/\lL K C' f/\fs'.length<1000/\aK9 K r D' σ (upd H3 a (.ins C' dx' (BZ f y fs'))):=by
    intro y H2 s2 ry;have hx2:=s2 _ _ hx;refine ⟨x,C,dx,vf,_,hx0,rfl,hx2,cls,na f (by simp),by lia,?_⟩;have sm':bV H1 (upd H2 x (.ins C dx (BZ f y vf))):=fun a o e=>by
     rw [aR (fun z=>by subst z;rw [hn] at e;cases e)];exact s2 _ _ (sm _ _ e)
    rw [SJ hlf] at sm' ⊢;refine aDe cls hx0 hn hr hρ r _ (vf++[(f,y)]) (fs0++[(f,d)]) ds' aG sm' (fun P hP hR=>?_) (by rw [List.all_append,ok0];simp [hk]) h2 ?_ (fun g hg=>na g (by simp at hg ⊢;exact .inr hg)) (by simp at hl ⊢;lia) (fun H' vf' a b c=>q H' vf' a b (by simpa using c))
    ·have z1:=(rf P hP hR)
     have z2:nF P H2 vf fs0:=z1.keep (fun a o e _=>s2 _ _ e) fun _ h=>h
     exact nF.snoc ((ry P hP hR).okK aAc.upd hx2 (fun _ h=>h) hk) (z2.okK aAc.upd hx2 (fun _ h=>h) ok0)
    ·simpa [List.append_assoc] using nd
   cases s with
   | par i=>
    obtain ⟨v,e1,e2⟩:=hρ i d h1;obtain ⟨a,C',dx',fs',z⟩:=key v H (bV.refl H) fun P hP hR=>(e2 P hR).same sm
    obtain ⟨v0,w1,w2⟩:=z;exact ⟨v,e1,v0,w1,a,C',dx',fs',w2⟩
   | exp g=>
    refine ⟨ρ,d,fun i hi=>?_,h1,fun y H2 s2 r2 n2=>?_⟩
    ·obtain ⟨v,e1,e2⟩:=hρ i (ρ.getD i .uD) (by
      unfold h_;split
      ·rename_i q;exact absurd q hi
      ·rfl)
     exact ⟨v,e1,(e2 All hr).same sm⟩
    ·obtain ⟨a,C',dx',fs',z⟩:=key y H2 s2 fun P hP hR=>(n2 rfl).mono fun a ha=>hP a (by
      cases hq:H1 a with
      | none=>rfl
      | some o=>have:=sm a o hq;rw [show H a=none from ha] at this;cases this)
     obtain ⟨v0,w1,w2⟩:=z;exact ⟨v0,w1,a,C',dx',fs',w2⟩
  ·exact bx he
def sV (C:Addr) (l:List (Str×Srx)) (n:Nat):Sp:=fun vs H Q _=>∃x dx H1 us ds fs,vs=.ref x::us/\us.length=n/\H x=some (.ins C dx [])/\H1 x=none/\bV H1 H/\bG All H1 us ds/\evS (.uD::ds) l=.ok fs/\∀H' vf,bV H1 H'->H' x=some (.ins C dx vf)->RFx H1 us ds H' vf fs->Q .non H'
theorem GF:∀{us:List V} {ds:List D} {i:Nat} {d:D},us.length=ds.length->ds[i]?=some d->∃v,us[i]?=some v/\∀P,bG P H us ds->Rep P H v d
 | [],[],_,_,_,h=>by simp at h
 | u::us,e::ds,0,d,_,h=>by
  simp at h;subst h;exact ⟨u,rfl,fun P r=>by cases r;assumption⟩
 | u::us,e::ds,i+1,d,hl,h=>by
  obtain ⟨v,h1,h2⟩:=GF (by simpa using hl) (by simpa using h);exact ⟨v,by simpa using h1,fun P r=>by cases r with|cons _ t=>exact h2 P t⟩
theorem aIx {P:Program} {w:World} {K:PySem.W.Frag} {mg:Str->Option Value} {base:Heap} {x qual:Str} {st:Stmt} {fad C:Addr} {fd:FuncData} {N ps:List Str} {k:Nat} {l:List (Str×Srx)} (F:Fun K x qual st fad fd) (S:bL N ps (aK st)) (hN:N.length=ps.length) {n:Nat} (hp:ps.length=n+1) (cls:Cls K C) (nd:(l.map (·.1)).Nodup) (na:∀f∈l.map (·.1),lL K C f) (hl:l.length<1000)
  (hbody:∀(cdv:Value) (A:Around) (outer:List Env) (s:Shared) (H:Hp) (E:XK),iI k (A.deeper (envOfC qual (aK st) s.heap.objs.size fad cdv))->PSs (CG CX0 P w K mg base N qual (aK st) fad cdv A outer s H E).nox (cN st) (aK9 K l)):jQ P w K mg base CX0 (k+1) fad fd ps (sV C l n):=by
 refine F.ok S (fun vs H Q E ⟨_,_,_,us,_,_,e,h,_⟩=>by rw [e,hp,List.length_cons,h]) fun cdv A outer s H vs Q E hr ⟨x,dx,H1,us,ds,fs,e,hu,hx,hn,sm,r,he,q⟩=>⟨_,hbody cdv A outer s H E hr,?_⟩
 subst e;have hst:L2.start N (V.ref x::us)=some (.ref x)::us.map some:=by
  unfold L2.start;rw [hN,hp,List.length_cons,hu,Nat.sub_self];simp
 rw [hst];refine aDe cls rfl hn r (fun i d hd=>?_) l H [] [] fs hx sm (fun _ _ _=>.nil) rfl he (by simpa using nd) na (by simpa using hl) fun H' vf s' hx' rf=>q H' vf s' hx' (by simpa using rf)
 match i,hd with
 | 0,hd=>exact bx hd
 | i+1,hd=>
  have hd':h_ i ds=.ok d:=hd;have hg:ds[i]?=some d:=by
   unfold h_ at hd';rw [List.getD_eq_getElem?_getD] at hd';cases hq:ds[i]? with
   | none=>rw [hq] at hd';exact bx hd'
   | some e=>
    rw [hq] at hd';have:e=d:=by
     revert hd'
     cases e <;> intro z <;> first|(exact bx z;done)|(cases z;rfl)
    rw [this]
  obtain ⟨v,h1,h2⟩:=GF r.length hg;exact ⟨v,by simpa using h1,h2⟩
def ZM (P:Program) (w:World) (K:PySem.W.Frag) (mg:Str->Option Value) (base:Heap) (k:Nat) (c:Str) (l:List (Str×Srx)) (n:Nat):Prop:=
 ∃(C fi:Addr) (fd:FuncData) (ps:List Str),PySem.W.nsIn K mainGlobals c=some (some (.ref C))/\mg c=some (.ref C)/\Mk K C fi/\jQ P w K mg base CX0 k fi fd ps (sV C l n)/\Binds K fd ps []
def tMk (K:PySem.W.Frag) (c:Str) (l:List (Str×Srx)) (n:Nat) (t:TA):TE:=fun σ H Q=>t σ H fun us H1=>∃ds fs,us.length=n/\bG All H1 us ds/\evS (.uD::ds) l=.ok fs/\∀C x dx H' vf,PySem.W.nsIn K mainGlobals c=some (some (.ref C))->H1 x=none->bV H1 H'->H' x=some (.ins C dx vf)->RFx H1 us ds H' vf fs->Q (.ref x) H'
section
variable {x c:Str}
theorem aLk (R:ZM X.prog X.w X.K X.mg X.base k x l n) (hr:iI k' X.A) (hkk:k+1<=k') (hg:Gl X x) (ha:PA X (e::es) t) (hdb:nDb x:=by decide) (he:starEach (e::es) X.env=(false,eval e X.env)::starEach es X.env:=by rfl) (hpl:(backTo pos (starEach es X.env)).any (·.1)=false:=by rfl) (hmono:∀(σ:L2.St) (H:Hp) (Q Q':List V->Hp->Prop),(∀vs H',Q vs H'->Q' vs H')->t σ H Q->t σ H Q') :
  PE X (.Call (.Name x p) (e::es) [] pos) (tMk X.K x l n t):=by
 obtain ⟨C,fi,fd,ps,hn,hm,M,F,hb⟩:=R;refine PE.imp (aE7 M F (hr.mono hkk) hg hm hb .nil DN ha hdb he hpl) fun σ H Q h=>hmono σ H _ _ ?_ h
 rintro us H1 ⟨ds,fs,hl,r,he,q⟩ y dx hy hdx hne;refine ⟨y,dx,H1,us,ds,fs,by rw [List.append_nil],hl,aG,hy,fun a o e=>?_,r,he,fun H' vf s' hx' rf=>⟨rfl,q C y dx H' vf hn hy s' hx' rf⟩⟩;rw [aR (bI e hy),aR (bI e hdx)];exact e
theorem aFk (hq:∀vs H',Q vs H'->Q' vs H') (h:gA fa rr σ H Q):gA fa rr σ H Q':=by
 obtain ⟨ρ,ds,E,h1,q⟩:=h;exact ⟨ρ,ds,E,h1,fun vs H' s r n=>hq _ _ (q vs H' s r n)⟩
theorem ZP (hK:KFrag.K=X.K) (R:ZM X.prog X.w X.K X.mg X.base k x l n) (hr:iI k' X.A) (hkk:k+1<=k') (hg:Gl X x) (ha:PA X (e::es) (gA fa rr)) (hdb:nDb x:=by decide) (he:starEach (e::es) X.env=(false,eval e X.env)::starEach es X.env:=by rfl) (hpl:(backTo pos (starEach es X.env)).any (·.1)=false:=by rfl) :
  PE X (.Call (.Name x p) (e::es) [] pos) (gE (GD x l n fa) true):=PE.imp (aLk R hr hkk hg ha hdb he hpl fun _ _ _ _=>aFk) fun σ H Q ⟨ρ,d,E,h,q⟩=>by
 obtain ⟨ds,h1,h⟩:=bA h;split at h
 ·rename_i hc;rw [Bool.and_eq_true] at hc;obtain ⟨fs,h2,h⟩:=bA h;cases h;refine ⟨ρ,ds,E,h1,fun vs H1 s1 r1 _=>⟨ds,fs,by rw [r1.length];exact of_decide_eq_true hc.1,r1,h2,fun C y dx H' vf hn hy s' hx rf=>?_⟩⟩;have hn':PySem.W.nsIn KFrag.K mainGlobals x=some (some (.ref C)):=by rw [hK];exact hn
  refine q _ _ (s1.trans s') (.ins hn' hx (rf All (fun _ _=>trivial) r1)) fun _=>.ins hn' hx (rf (New H) (fun a ha=>?_) (r1.bM hc.2))
  cases hq:H a with
  | none=>exact hq
  | some o=>have:=s1 a o hq;rw [ha] at this;cases this
 ·exact bx h
def MP (K:PySem.W.Frag) (c f:Str):Prop:=∀C,PySem.W.nsIn K mainGlobals c=some (some (.ref C))->Cls K C/\lL K C f
theorem aIy (hK:KFrag.K=X.K) (R:MP X.K c f) (he:PE X e (gE fe re)) (hb:attributeBase e f X.env (eval e X.env)=eval e X.env:=by rfl):PE X (.Attribute e f pos) (gE (aNc c f fe) false):=PE.imp (aHb he hb) fun σ H Q ⟨ρ,d,E,h,q⟩=>by
 obtain ⟨d0,h1,h2⟩:=bA h;split at h2
 ·rename_i c' fs;split at h2
  ·rename_i hc;have hc:=of_decide_eq_true hc;subst hc;refine ⟨ρ,_,E,h1,fun v H1 s1 r1 _=>?_⟩;obtain ⟨_,_,_,_,rfl,hn,hx,rf⟩:=r1.inv;rw [hK] at hn;obtain ⟨k1,k2⟩:=R _ hn;cases hl:fs.lookup f with
   | none=>rw [hl] at h2;exact bx h2
   | some d1=>
    rw [hl] at h2;cases h2;obtain ⟨w,g1,g2⟩:=rf.look hl;exact ⟨_,_,_,_,w,rfl,hx,k1,k2,g1,q w H1 s1 g2 (fun z=>by cases z)⟩
  ·exact bx h2
 ·exact bx h2
end
end
noncomputable def aLl (c m:Str) (f:List D->Res D) (n:Nat) (fo:FE) (fa:FA):FE:=fun ρ=>do
 let d <- fo ρ
 let ds <- fa ρ
 match d with
 | .ins c' fs=>if decide (c'=c)&&((fs.lookup m).isNone&&decide (ds.length+1=n)) then f (.ins c' fs::ds) else .bad
 | _=>.bad
section
variable [KFrag]
theorem nF.yS:∀{v:List (Str×V)} {d:List (Str×D)},nF P H v d->d.lookup f=none->v.lookup f=none
 | _,_,.nil,_=>rfl
 | _,_,.cons r t,h=>by
  rw [List.lookup_cons] at h ⊢;split at h
  ·cases h
  ·exact nF.yS t h
def V8 (P:Program) (w:World) (K:PySem.W.Frag) (mg:Str->Option Value) (base:Heap) (k:Nat) (c m:Str) (n:Nat) (f:List D->Res D):Prop:=
 ∃(C fm:Addr) (fd:FuncData) (ps:List Str),PySem.W.nsIn K mainGlobals c=some (some (.ref C))/\Cls K C/\Meth K C m fm/\jQ P w K mg base CX0 k fm fd ps (spD f n)/\Binds K fd ps []
section
theorem aFl (hK:KFrag.K=X.K) (R:V8 X.prog X.w X.K X.mg X.base k c m n f) (hr:iI k' X.A) (hkk:k<=k') (ho:PE X o (gE fo ro)) (ha:PA X (e::es) (gA fa ra))
  (hst:starEach (e::es) X.env=(false,eval e X.env)::starEach es X.env:=by rfl) (hpl:(backTo pos (starEach es X.env)).any (·.1)=false:=by rfl)
  (ht:eval (.Call (.Attribute o m apos) (e::es) [] pos) X.env=(do
   let ov <- eval o X.env
   standAt apos.atName
   let (f,first) <- holding [ov] (getMethod ov m pl)
   callWith pos f first (backTo pos (starEach (e::es) X.env)) (backToKw pos (keywordEach [] X.env))):=by rfl) :
  PE X (.Call (.Attribute o m apos) (e::es) [] pos) (gE (aLl c m f n fo fa) true):=by
 obtain ⟨C,fm,fd,ps,hn,cl,M,F,hb⟩:=R;refine PE.imp (aE6 ho cl M F (hr.mono hkk) hb .nil DN ha hst hpl ht) fun σ H Q ⟨ρ,d,E,h,q⟩=>?_
 obtain ⟨d0,h1,h2⟩:=bA h;obtain ⟨ds,h3,h4⟩:=bA h2;split at h4
 ·rename_i c' fs;split at h4
  ·rename_i hc;rw [Bool.and_eq_true,Bool.and_eq_true,Option.isNone_iff_eq_none] at hc;obtain ⟨hc1,hc2,hc3⟩:=hc;have hc1:=of_decide_eq_true hc1;have hc3:=of_decide_eq_true hc3;subst hc1;refine ⟨ρ,_,E,h1,fun v H1 s1 r1 _=>?_⟩;have r1':=r1;obtain ⟨_,_,_,_,rfl,hn',hx,rf⟩:=r1.inv;rw [hK,hn] at hn';cases hn';refine ⟨_,_,_,rfl,hx,rf.yS hc2,ρ,ds,E.same s1,h3,fun vs H2 s2 r2 _=>?_⟩;refine ⟨.ins c' fs::ds,d,by rw [List.length_cons];exact hc3,by rw [List.append_nil];exact .cons (r1'.same s2) r2,h4,q.imp (s1.trans s2) id⟩
  ·exact bx h4
 ·exact bx h4
end
end
open PySem.W
section
variable [KFrag]
section
theorem xG {X:Cx} {E:XK} (F:jQ X.prog X.w X.K X.mg X.base CX0 k f fd ps sp) (hr:iI k X.A) (hb:Binds X.K fd ps []) (hk:keepIn X.K (.ref f)=true) (hg:Gl X x) (hm:X.mg x=some (.ref M)) (hga:specialIn X.K (.ref M) "__getattribute__" = some (some (.builtin "type.__getattribute__"))) (hrd:readsIn X.K M (.type "type")=true)
  (hf:findCls X.K (.ref M) (.type "type") "__init__" = some (.val (.ref f))) (hx:oJ CX0 X E) (ha:PA X (e::es) t) (hdb:nDb x:=by decide) (he:starEach (e::es) X.env=(false,eval e X.env)::starEach es X.env:=by rfl) (hpl:(backTo cp (starEach es X.env)).any (·.1)=false:=by rfl)
  (ht:eval (.Call (.Attribute (.Name x np) "__init__" ap) (e::es) [] cp) X.env=(do
   let ov <- eval (.Name x np) X.env
   standAt ap.atName
   let (f,first) <- holding [ov] (getMethod ov "__init__" pl)
   callWith cp f first (backTo cp (starEach (e::es) X.env)) (backToKw cp (keywordEach [] X.env))):=by rfl):PE X (.Call (.Attribute (.Name x np) "__init__" ap) (e::es) [] cp) (aE4 sp [] E t):=by
 intro pins s σ H Q I h;refine methodCall_KW (j_ I hg hm ?_ hdb) ht;refine method_cls I.kIn hga (cls_value I.kIn hrd hf rfl ?_);refine PySem.W.callWith_K (h₀:=X.base) I.ok.mod.kin hk (thn (ha cp pins _ σ H _ (I.tok _) h) fun us s1 ⟨vs,H1,I1,r,q⟩=>⟨I1.kIn,?_⟩) he hpl;exact QR F hr hb .nil hx I1 r q
end
def aIz (C:Addr) (lR:List (Str×Srx)) (E:XK) (f1 f2:FE):TS:=aDv (aE4 (sV C lR 2) [] E (UJ (aAf 0) (UJ (gE f1 true) (UJ (gE f2 true) aHc))))
noncomputable def JV:List (Str×Srx):=[("giving",.par 1),("taking",.par 2)]
theorem SM (b:aAc x H H') (hx:H x=some (.ins C dx fs)) (m:∀a,P a->P' a) (r1:Rep P H v d) (r2:Rep P H v' d') (h1:okF d=true) (h2:okF d'=true):bG P' H' [v,v'] [d,d']:=.cons (r1.okK b hx m h1) (.cons (r2.okK b hx m h2) .nil)
theorem aFm {E:XK} (hx:H x=some (.ins C dx [])) (hn:H1 x=none) (sm:bV H1 H) (hr:bG All H1 us ds) (hσ:σ[0]?=some (some (.ref x))) (hρ:ER H σ ρ) (h1:f1 ρ=.ok d1) (h2:f2 ρ=.ok d2) (k1:okF d1=true) (k2:okF d2=true)
  (q:∀H' vf,bV H1 H'->H' x=some (.ins C dx vf)->RFx H1 us ds H' vf [("giving",d1),("taking",d2)]->D'.nx σ H'):aIz C JV E f1 f2 D' σ H:=by
 refine ⟨_,hσ,ρ,d1,hρ,h1,fun y1 H2 s2 r1 n1=>⟨ρ,d2,fun i hi=>?_,h2,fun y2 H3 s3 r2 n2=>?_⟩⟩
 ·obtain ⟨v,e1,e2⟩:=hρ i hi;exact ⟨v,e1,e2.same s2⟩
 ·have hx3:=s3 _ _ (s2 _ _ hx)
  let H4:Hp:=fun a=>if a=x then none else H3 a
  have b4:aAc x H3 H4:=fun a o e n=>by show (if a=x then none else H3 a)=_;rw [if_neg n];exact e
  have s4:bV H4 H3:=fun a o e=>by
   have e':(if a=x then none else H3 a)=some o:=e;split at e'
   ·cases e'
   ·exact e'
  have h4:H4 x=none:=if_pos rfl;have lo:∀a,H4 a=none->H1 a=none:=fun a ha=>by
   by_cases z:a=x
   ·rw [z];exact hn
   ·have e':(if a=x then none else H3 a)=none:=ha;rw [if_neg z] at e';cases hq:H1 a with
    | none=>rfl
    | some o=>rw [s3 _ _ (s2 _ _ (sm _ _ hq))] at e';cases e'
  have s14:bV H1 H4:=fun a o e=>b4 _ _ (s3 _ _ (s2 _ _ (sm _ _ e))) fun z=>by rw [z,hn] at e;cases e
  refine ⟨x,dx,H4,[y1,y2],[d1,d2],[("giving",d1),("taking",d2)],rfl,rfl,hx3,h4,s4,SM b4 hx3 (fun _ h=>h) (r1.same s3) r2 k1 k2,?_,fun H' vf s' hx' rf=>q H' vf (s14.trans s') hx' fun P hP hR=>?_⟩
  ·have b1:h_ 1 [.uD,d1,d2]=.ok d1:=by cases d1 <;> first|rfl|cases k1
   have b2:h_ 2 [.uD,d1,d2]=.ok d2:=by cases d2 <;> first|rfl|cases k2
   show (h_ 1 [.uD,d1,d2] >>= fun d=>(h_ 2 [.uD,d1,d2] >>= fun d=>(if okF d then Res.ok [(("taking" : Str),d)] else .bad)) >>= fun ds=>if okF d then Res.ok ((("giving" : Str),d)::ds) else .bad)=_;rw [b1,b2,Res.aW,Res.aW,if_pos k2,Res.aW,if_pos k1]
  ·refine rf P (fun a ha=>hP a (lo a ha)) (SM b4 hx3 (fun _ h=>h) (((n1 rfl).same s3).mono fun a ha=>hP a ?_) ((n2 rfl).mono fun a ha=>hP a ?_) k1 k2)
   ·cases hq:H1 a with
    | none=>rfl
    | some o=>have:=sm _ _ hq;rw [show H a=none from ha] at this;cases this
   ·cases hq:H1 a with
    | none=>rfl
    | some o=>have:=s2 _ _ (sm _ _ hq);rw [show H2 a=none from ha] at this;cases this
theorem GJ {P:Program} {w:World} {K:PySem.W.Frag} {mg:Str->Option Value} {base:Heap} {x qual:Str} {st:Stmt} {fad C:Addr} {fd:FuncData} {N ps:List Str} {k:Nat} {f1 f2:FE} {E2:XK} (F:Fun K x qual st fad fd) (S:bL N ps (aK st)) (hN:N.length=ps.length) {n:Nat} (hp:ps.length=n+1)
  (hbody:∀(cdv:Value) (A:Around) (outer:List Env) (s:Shared) (H:Hp) (E:XK),iI k (A.deeper (envOfC qual (aK st) s.heap.objs.size fad cdv))->PSs (CG CX0 P w K mg base N qual (aK st) fad cdv A outer s H E).nox (cN st) (aIz C JV E2 f1 f2)):jQ P w K mg base CX0 (k+1) fad fd ps (sV C [("giving",.exp f1),("taking",.exp f2)] n):=by
 refine F.ok S (fun vs H Q E ⟨_,_,_,us,_,_,e,h,_⟩=>by rw [e,hp,List.length_cons,h]) fun cdv A outer s H vs Q E hr ⟨x,dx,H1,us,ds,fs,e,hu,hx,hn,sm,r,he,q⟩=>⟨_,hbody cdv A outer s H E hr,?_⟩
 subst e;have hst:L2.start N (V.ref x::us)=some (.ref x)::us.map some:=by
  unfold L2.start;rw [hN,hp,List.length_cons,hu,Nat.sub_self];simp
 rw [hst];obtain ⟨d1,h1,he⟩:=bA he;obtain ⟨ds',h2,he⟩:=bA he;obtain ⟨d2,h5,h3⟩:=bA h2;obtain ⟨ds2,h4,h3⟩:=bA h3;cases h4;split at h3
 ·rename_i k2;cases h3;split at he
  ·rename_i k1;cases he;refine aFm hx hn sm r rfl (fun i hi=>?_) h1 h5 k1 k2 q
   match i,hi with
   | 0,hi=>exact absurd rfl hi
   | i+1,hi=>
    have hi':ds.getD i .uD≠.uD:=hi;rw [List.getD_eq_getElem?_getD] at hi';cases hg:ds[i]? with
    | none=>rw [hg] at hi';exact absurd rfl hi'
    | some d=>
     obtain ⟨v,e1,e2⟩:=GF r.length hg;refine ⟨v,by simpa using e1,?_⟩;show Rep All H v (ds.getD i .uD);rw [List.getD_eq_getElem?_getD,hg];exact (e2 All r).same sm
  ·exact bx he
 ·exact bx h3
noncomputable def aJ0 (c m:Str) (f:List D->Res D) (fo:FE):FE:=fun ρ=>do
 let d <- fo ρ
 match d with
 | .ins c' fs=>if decide (c'=c)&&(fs.lookup m).isNone then f [.ins c' fs] else .bad
 | _=>.bad
theorem aBo {X:Cx} (hK:KFrag.K=X.K) (R:V8 X.prog X.w X.K X.mg X.base k c m 1 f) (hr:iI k' X.A) (hkk:k<=k') (ho:PE X o (gE fo ro))
  (ht:eval (.Call (.Attribute o m apos) [] [] pos) X.env=(do
   let ov <- eval o X.env
   standAt apos.atName
   let (f,first) <- holding [ov] (getMethod ov m pl)
   callWith pos f first (backTo pos (starEach [] X.env)) (backToKw pos (keywordEach [] X.env))):=by rfl) :
  PE X (.Call (.Attribute o m apos) [] [] pos) (gE (aJ0 c m f fo) true):=by
 obtain ⟨C,fm,fd,ps,hn,cl,M,F,hb⟩:=R;refine PE.imp (aAm ho cl M F (hr.mono hkk) hb .nil DN ht) fun σ H Q ⟨ρ,d,E,h,q⟩=>?_
 obtain ⟨d0,h1,h4⟩:=bA h;split at h4
 ·rename_i c' fs;split at h4
  ·rename_i hc;rw [Bool.and_eq_true,Option.isNone_iff_eq_none] at hc;obtain ⟨hc1,hc2⟩:=hc;have hc1:=of_decide_eq_true hc1;subst hc1;refine ⟨ρ,_,E,h1,fun v H1 s1 r1 _=>?_⟩;have r1':=r1;obtain ⟨_,_,_,_,rfl,hn',hx,rf⟩:=r1.inv;rw [hK,hn] at hn';cases hn';exact ⟨_,_,_,rfl,hx,rf.yS hc2,[.ins c' fs],d,rfl,.cons r1' .nil,h4,q.imp s1 id⟩
  ·exact bx h4
 ·exact bx h4
def JW (c:Str) (l:List (Str×Srx)):FE:=fun _=>do let fs <- evS [.uD] l;.ok (.ins c fs)
theorem SN {X:Cx} (hK:KFrag.K=X.K) (R:ZM X.prog X.w X.K X.mg X.base k x l 0) (hr:iI k' X.A) (hkk:k+1<=k') (hg:Gl X x) (hdb:nDb x:=by decide) :
  PE X (.Call (.Name x p) [] [] pos) (gE (JW x l) true):=by
 obtain ⟨C,fi,fd,ps,hn,hm,M,F,hb⟩:=R;refine PE.imp (aAn M F (hr.mono hkk) hg hm hb .nil DN hdb) fun σ H Q ⟨ρ,d,E,h,q⟩=>?_
 obtain ⟨fs,h2,h⟩:=bA h;cases h;have hn':PySem.W.nsIn KFrag.K mainGlobals x=some (some (.ref C)):=by rw [hK];exact hn
 intro y dx hy hdx hne;refine ⟨y,dx,H,[],[],fs,rfl,rfl,aG,hy,fun a o e=>?_,.nil,h2,fun H' vf s' hx' rf=>⟨rfl,q _ _ s' (.ins hn' hx' (rf All (fun _ _=>trivial) .nil)) fun _=>.ins hn' hx' (rf (New H) (fun a ha=>ha) .nil)⟩⟩;rw [aR (bI e hy),aR (bI e hdx)];exact e
noncomputable def O6 (tbl:List (Str×Bool)) (i:Nat):FE:=fun ρ=>match ρ.getD i .uD with
 | .ins c _=>(match tbl.lookup c with|some b=>.ok (.bl b)|none=>.bad)
 | _=>.bad
structure CI (K:Frag) (C:Addr):Prop where
 cl:Cls K C
 kc:findIn K (.ref C) "__class__" = some (some (.builtin "object.__class__"))
 kg:specialIn K (.builtin "object.__class__") "__get__" = some (some (.builtin "getset_descriptor.__get__"))
 kt:takesIn K (.builtin "object.__class__")=some true
 ob:mroIn K C (.type "object")=some true
theorem yU {X:Cx} (hK:KFrag.K=X.K) (ht:∀c b,tbl.lookup c=some b->∃C,nsIn X.K mainGlobals c=some (some (.ref C))/\CI X.K C/\kitOne X.K (.ref C) u=some b) (hu:∀u',RelV v u'->u'=u) (hg:Gl X "isinstance") (hm:X.mg "isinstance" = none) (hN:X.N[i]?=some y) (hv:Vis X.env.scope y) (ha:PE X ce (tC v))
  (hst:starEach [ce] X.env=(false,eval ce X.env)::starEach [] X.env) (hpl:(backTo pos (starEach [ce] X.env)).any (·.1)=false)
  (hd:(y==("__debug__" : Str))=false:=by decide) (hcd:(y==("__classdict__" : Str))=false:=by decide) :
  PE X (.Call (.Name "isinstance" p) [.Name y np,ce] [] pos) (gE (O6 tbl i) true):=by
 have hc:nR X (.builtin "isinstance") (fun vs H Q=>∃a C dx fs b,vs=[.ref a,v]/\H a=some (.ins C dx fs)/\CI X.K C/\kitOne X.K (.ref C) u=some b/\Q (.bl b) H):=by
  intro pins s σ H vs us Q I r ⟨a,C,dx,fs,b,e,ea,c,hk,q⟩;subst e;cases r with
  | cons r1 r=>
   cases r with
   | cons r2 r=>
    cases r;have e2:=hu _ r2;subst e2;cases r1;obtain ⟨mA,O,_⟩:=DG I.hok ea;obtain ⟨od,hi,_⟩:=O.look;exact kia_one (kitx_own (c.cl.get _) c.cl.hd c.kc c.kg c.kt c.ob) I.kIn hi hk (by intro z;cases z) fun tk=>⟨.bl b,H,I.tok tk,rfl,q⟩
 refine PE.imp (wW hc hg hm (by decide +kernel) (cA (dF hN hv hd hcd) (cA ha lD hst)) (hpl:=hpl)) fun σ H Q ⟨ρ,d,er,h,q⟩=>?_
 unfold O6 at h;split at h
 ·rename_i c fs hρ;split at h
  ·rename_i b hb;cases h;obtain ⟨w,h1,r1⟩:=er i (by rw [hρ];intro z;cases z);rw [hρ] at r1;obtain ⟨a,C,dx,vs,rfl,n,e,_⟩:=r1.inv;obtain ⟨C',n',xc,hk⟩:=ht c b hb;rw [hK,n'] at n;cases n;exact ⟨.ref a,h1,a,C,dx,vs,b,rfl,e,xc,hk,q _ _ (fun _ _ z=>z) (.bl b) fun _=>.bl b⟩
  ·exact bx h
 ·exact bx h
end
noncomputable def lB (cs:List Str) (m:Str) (f:List D->Res D) (fo:FE):FE:=fun ρ=>do
 let d <- fo ρ
 match d with
 | .ins c fs=>if cs.contains c&&(fs.lookup m).isNone then f [.ins c fs] else .bad
 | _=>.bad
noncomputable def JX (cs:List Str) (m:Str) (f:List D->Res D) (n:Nat) (fo:FE) (fa:FA):FE:=fun ρ=>do
 let d <- fo ρ
 let ds <- fa ρ
 match d with
 | .ins c fs=>if cs.contains c&&((fs.lookup m).isNone&&decide (ds.length+1=n)) then f (.ins c fs::ds) else .bad
 | _=>.bad
def GK (cs:List Str) (f:Str) (fa:FE):FE:=fun ρ=>do
 let d <- fa ρ
 match d with
 | .ins c fs=>if cs.contains c then Res.ofOpt (fs.lookup f) else .bad
 | _=>.bad
variable [KFrag]
theorem oW {X:Cx} (hK:KFrag.K=X.K) (R:∀c∈cs,V8 X.prog X.w X.K X.mg X.base k c m 1 f) (hr:iI k' X.A) (hkk:k<=k') (ho:PE X o (gE fo ro))
  (ht:eval (.Call (.Attribute o m apos) [] [] pos) X.env=(do
   let ov <- eval o X.env
   standAt apos.atName
   let (f,first) <- holding [ov] (getMethod ov m pl)
   callWith pos f first (backTo pos (starEach [] X.env)) (backToKw pos (keywordEach [] X.env))):=by rfl) :
  PE X (.Call (.Attribute o m apos) [] [] pos) (gE (lB cs m f fo) true):=by
 intro pins s σ H Q I ⟨ρ,d,E,h,q⟩;obtain ⟨d0,h1,h2⟩:=bA h;split at h2
 ·rename_i c fs;split at h2
  ·rename_i hc;rw [Bool.and_eq_true] at hc;refine aBo hK (R c (by simpa using hc.1)) hr hkk ho ht pins s σ H Q I ⟨ρ,d,E,?_,q⟩;show (fo ρ >>= _)=_;rw [h1];show (if decide (c=c)&&(fs.lookup m).isNone then f [.ins c fs] else .bad)=_;rw [decide_eq_true rfl,hc.2];exact h2
  ·exact bx h2
 ·exact bx h2
theorem aBp {X:Cx} (hK:KFrag.K=X.K) (R:∀c∈cs,V8 X.prog X.w X.K X.mg X.base k c m n f) (hr:iI k' X.A) (hkk:k<=k') (ho:PE X o (gE fo ro)) (ha:PA X (e::es) (gA fa ra))
  (hst:starEach (e::es) X.env=(false,eval e X.env)::starEach es X.env:=by rfl) (hpl:(backTo pos (starEach es X.env)).any (·.1)=false:=by rfl)
  (ht:eval (.Call (.Attribute o m apos) (e::es) [] pos) X.env=(do
   let ov <- eval o X.env
   standAt apos.atName
   let (f,first) <- holding [ov] (getMethod ov m pl)
   callWith pos f first (backTo pos (starEach (e::es) X.env)) (backToKw pos (keywordEach [] X.env))):=by rfl) :
  PE X (.Call (.Attribute o m apos) (e::es) [] pos) (gE (JX cs m f n fo fa) true):=by
 intro pins s σ H Q I ⟨ρ,d,E,h,q⟩;obtain ⟨d0,h1,h2⟩:=bA h;obtain ⟨ds,h3,h4⟩:=bA h2;split at h4
 ·rename_i c fs;split at h4
  ·rename_i hc;rw [Bool.and_eq_true] at hc;refine aFl hK (R c (by simpa using hc.1)) hr hkk ho ha hst hpl ht pins s σ H Q I ⟨ρ,d,E,?_,q⟩;show (fo ρ >>= _)=_;rw [h1];show (fa ρ >>= _)=_;rw [h3];show (if decide (c=c)&&((fs.lookup m).isNone&&decide (ds.length+1=n)) then f (.ins c fs::ds) else .bad)=_;rw [decide_eq_true rfl,hc.2];exact h4
  ·exact bx h4
 ·exact bx h4
theorem GP {X:Cx} (hK:KFrag.K=X.K) (R:∀c∈cs,MP X.K c f) (he:PE X e (gE fe re)) (hb:attributeBase e f X.env (eval e X.env)=eval e X.env:=by rfl):PE X (.Attribute e f pos) (gE (GK cs f fe) false):=by
 intro pins s σ H Q I ⟨ρ,d,E,h,q⟩;obtain ⟨d0,h1,h2⟩:=bA h;split at h2
 ·rename_i c fs;split at h2
  ·rename_i hc;refine aIy (c:=c) hK (R c (by simpa using hc)) he hb pins s σ H Q I ⟨ρ,d,E,?_,q⟩;show (fe ρ >>= _)=_;rw [h1];show (if decide (c=c) then Res.ofOpt (fs.lookup f) else .bad)=_;rw [decide_eq_true rfl];exact h2
  ·exact bx h2
 ·exact bx h2
end Mi
namespace Lw
open PySem PySem.Spec
noncomputable abbrev enO (f0:Value) (fb:Bool) (it:Addr) (k:Int) (old:Value):Obj:={cls:=.type "enumerate",data:=.fields #[f0,.bool fb,.ref it,rawInt k,.none,old]}
section
variable {prog:Program} {w:World} {A:Around} {E:Value->Shared->Prop} {s:Shared}
theorem alive {M:Model} {a:Addr} {Q:Option Obj->Shared->Prop} (h:Q (s.heap.get? a) s):wpAny M A (loadIfAlive a) Q E s:=fun _ _ _=>h
def Hd (f0:Value):Prop:=f0=.none\/∃a:Int,f0=rawInt a
theorem aFn {Q:Fin->Shared->Prop} (hf:Hd f0) (he:s.heap.get? e=some (enO f0 fb it k old)) (h1:s.heap.get? it=some (Wz.itO t i)) (h2:s.heap.get? t=some (Wz.tuO xs n dd sl)) (hx:xs[i]?=some x) (hne:e≠it)
  (q:∀h' tk f0' fb' old',Hd f0'->h'.get? e=some (enO f0' fb' it (k+1) old')->h'.get? it=some (Wz.itO t (i+1))->h'.get? s.heap.objs.size=some {cls:=.type "tuple",data:=.seq #[.int k tk,x]}->
   (∀b o,b≠e->b≠it->s.heap.get? b=some o->h'.get? b=some o)->Q (.done (.ret (.ref s.heap.objs.size))) {s with heap:=h',toks:=tk+1}) :
  wpAny (model prog w) A (Builtin.«enumerate.__next__» ⟨[.ref e],[]⟩) Q E s:=by
 obtain ⟨hp,g,d,tk,os⟩:=s;unfold Builtin.«enumerate.__next__»;refine wpAny_bind (wpAny_pure ?_);dsimp only;refine wpAny_bind (wpAny_field he rfl (x:=.ref it) rfl ?_);refine wpAny_bind (Wz.drawn h1 h2 hx fun hA e1 kA=>?_);have he1:hA.get? e=some (enO f0 fb it k old):=(kA.2 e hne).trans he;refine wpAny_bind (wpAny_field he1 rfl (x:=rawInt k) rfl ?_);dsimp only;refine wpAny_bind (wpAny_field he1 rfl (x:=.none) rfl ?_);rw [if_pos (by rfl)];refine wpAny_bind (wpAny_mkInt (wpAny_bind (wpAny_setField_rec he1 (by simp) fun hB e2 kB=>?_)));replace e2:hB.get? e=some (enO f0 fb it (k+1) old):=e2;refine wpAny_bind (wpAny_setField_rec e2 (by simp) fun hC e3 kC=>?_);replace e3:hC.get? e=some (enO f0 fb it (k+1) old):=e3;replace kA:Heap.SameBut it hp hA:=kA;replace kB:Heap.SameBut e hA hB:=kB;replace kC:Heap.SameBut e hB hC:=kC;have sz:hC.objs.size=hp.objs.size:=by rw [kC.1,kB.1,kA.1]
 have el:e<hp.objs.size:=Heap.lt_size he;have il:it<hp.objs.size:=Heap.lt_size h1;refine wpAny_bind (wpAny_newTuple ?_);dsimp only;rw [sz];generalize hD:hC.push {cls:=.type "tuple",data:=.seq [Value.int k tk,x].toArray}=hF;have k4:∀b o,b≠e->b≠it->hp.get? b=some o->hF.get? b=some o:=fun b o x1 x2 z=>by
  rw [<-hD];exact Heap.get?_push_of_some _ (kC.extBut b o x1 (kB.extBut b o x1 (kA.extBut b o x2 z)))
 have e4:hF.get? e=some (enO f0 fb it (k+1) old):=by rw [<-hD];exact Heap.get?_push_of_some _ e3
 have i4:hF.get? it=some (Wz.itO t (i+1)):=by rw [<-hD];exact Heap.get?_push_of_some _ (kC.extBut _ _ (Ne.symm hne) (kB.extBut _ _ (Ne.symm hne) e1))
 have t4:hF.get? hp.objs.size=some {cls:=.type "tuple",data:=.seq #[.int k tk,x]}:=by rw [<-hD,<-sz];exact Heap.get?_push_size _ rfl
 refine wpAny_bind ?_;unfold Builtin.SmallTypes.ownedTupleIsFree;have fin:wpAny (model prog w) A (if true=true then (do
   rule "enumerate.__next__.owned-tuple-again"
   let old <- field (Value.ref e) 5
   setField (Value.ref e) 5 x
   Builtin.SmallTypes.ownedTupleHandOut (Value.ref e) (Value.ref hp.objs.size)
   letGo [old] [Value.ref hp.objs.size]
   ret (Value.ref hp.objs.size)) else ret (Value.ref hp.objs.size)) Q E {heap:=hF,gens:=g,drawn:=d,toks:=tk+1,os:=os}:=by
  rw [if_pos (by rfl)];refine wpAny_bind (wpAny_rule (wpAny_bind (wpAny_field e4 rfl (x:=old) rfl (wpAny_bind (wpAny_setField_rec e4 (by simp) fun h5 e5 k5=>?_)))));replace e5:h5.get? e=some (enO f0 fb it (k+1) x):=e5;replace k5:Heap.SameBut e hF h5:=k5;refine wpAny_bind ?_;unfold Builtin.SmallTypes.ownedTupleHandOut;refine wpAny_bind (wpAny_setField_rec e5 (by simp) fun h6 e6 k6=>?_);replace e6:h6.get? e=some (enO (rawInt hp.objs.size) fb it (k+1) x):=e6;replace k6:Heap.SameBut e h5 h6:=k6;refine wpAny_setField_rec e6 (by simp) fun h7 e7 k7=>?_
  replace e7:h7.get? e=some (enO (rawInt hp.objs.size) false it (k+1) x):=e7;replace k7:Heap.SameBut e h6 h7:=k7;have up:∀b o,b≠e->hF.get? b=some o->h7.get? b=some o:=fun b o nb z=>k7.extBut b o nb (k6.extBut b o nb (k5.extBut b o nb z))
  exact wpAny_bind (wpAny_letGo (wpAny_pure (q h7 tk _ _ _ (.inr ⟨_,rfl⟩) e7 (up _ _ (Ne.symm hne) i4) (up _ _ (Nat.ne_of_gt el) t4) fun b o x1 x2 z=>up b o x1 (k4 b o x1 x2 z))))
 refine wpAny_bind (wpAny_field e4 rfl (x:=f0) rfl ?_);rcases hf with rfl|⟨a,rfl⟩
 ·exact wpAny_pure fin
 ·show wpAny _ _ (loadIfAlive a.toNat >>= _) _ _ _;refine wpAny_bind (alive ?_);cases hF.get? a.toNat with
  | none=>exact wpAny_pure fin
  | some o=>
   refine wpAny_bind (wpAny_field e4 rfl (x:=.bool fb) rfl ?_);cases fb with
   | true=>exact wpAny_pure (wpAny_pure (q hF tk _ _ _ (.inr ⟨_,rfl⟩) e4 i4 t4 k4))
   | false=>
    refine wpAny_bind (wpAny_setField_rec e4 (by simp) fun h5 e5 k5=>?_);replace e5:h5.get? e=some (enO (rawInt a) true it (k+1) old):=e5;replace k5:Heap.SameBut e hF h5:=k5;exact wpAny_pure (wpAny_pure (q h5 tk _ _ _ (.inr ⟨_,rfl⟩) e5 (k5.extBut _ _ (Ne.symm hne) i4) (k5.extBut _ _ (Nat.ne_of_gt el) t4) fun b o x1 x2 z=>k5.extBut b o x1 (k4 b o x1 x2 z)))
theorem aFo {Q:Option Value->Shared->Prop} (hf:Hd f0) (he:s.heap.get? e=some (enO f0 fb it k old)) (h1:s.heap.get? it=some (Wz.itO t i)) (h2:s.heap.get? t=some (Wz.tuO xs n dd sl)) (hx:xs[i]?=some x) (hne:e≠it)
  (q:∀h' tk f0' fb' old',Hd f0'->h'.get? e=some (enO f0' fb' it (k+1) old')->h'.get? it=some (Wz.itO t (i+1))->h'.get? s.heap.objs.size=some {cls:=.type "tuple",data:=.seq #[.int k tk,x]}->
   (∀b o,b≠e->b≠it->s.heap.get? b=some o->h'.get? b=some o)->Q (some (.ref s.heap.objs.size)) {s with heap:=h',toks:=tk+1}) :
  wpAny (model prog w) A (pyNext (.ref e)) Q E s:=by
 have hT:s.TypeIs (.ref e) "enumerate":=⟨_,he,rfl⟩
 unfold pyNext;refine wpAny_bind (wpAny_attempt (wpAny_callSpecial?_slot hT F.slot_enumerate_next (wpAny_call_entry F.slot_enumerate_next hT F.entry_enumerate_next ?_ (F.args_enumerate_next_1 _))));exact aFn hf he h1 h2 hx hne fun h' tk a b c x1 x2 x3 x4 x5=>⟨_,rfl,wpAny_pure (q h' tk a b c x1 x2 x3 x4 x5)⟩
theorem aJ1 {Q:Option Value->Shared->Prop} (hh:A.handled=none) (he:s.heap.get? e=some (enO f0 fb it k old)) (h1:s.heap.get? it=some (Wz.itO t i)) (h2:s.heap.get? t=some (Wz.tuO xs n dd sl)) (hx:xs[i]?=none)
  (q:∀h',Heap.ExtBut it s.heap h'->Q none {s with heap:=h'}) :
  wpAny (model prog w) A (pyNext (.ref e)) Q E s:=by
 have hT:s.TypeIs (.ref e) "enumerate":=⟨_,he,rfl⟩
 unfold pyNext;refine wpAny_bind (wpAny_attempt (wpAny_callSpecial?_slot hT F.slot_enumerate_next (wpAny_call_entry F.slot_enumerate_next hT F.entry_enumerate_next ?_ (F.args_enumerate_next_1 _))));unfold Builtin.«enumerate.__next__»;refine wpAny_bind (wpAny_pure ?_);dsimp only;refine wpAny_bind (wpAny_field he rfl (x:=.ref it) rfl ?_);refine wpAny_bind (Wz.over (by first|exact hh|(show A.handled=none;exact hh)) h1 h2 hx fun h' a k o=>?_);exact wpAny_bind (wpAny_isInstance (T := "StopIteration") (b:=true) o isSubtype_stop (wpAny_pure (q h' k)))
def Pf (m:Int) (xs:Array Value) (S e it:Addr) (h:Heap) (acc:Array Value):Prop:=∀(j:Nat) (v:Value),acc[j]?=some v->∃(T:Addr) (tk:Tok) (x:Value),v=.ref T/\xs[j]?=some x/\h.get? T=some {cls:=.type "tuple",data:=.seq #[.int (m+j) tk,x]}/\S<T/\T≠e/\T≠it
noncomputable abbrev lsO (acc:Array Value) (c:Nat):Obj:={cls:=.type "list",dict:=none,data:=.seq acc c,slots:=#[]}
theorem aFp {R:Result->Shared->Prop} (hh:A.handled=none) (hn:xs.size<=sizeLine) (nei:e≠it) (nSe:S≠e) (nSi:S≠it) (nSt:S≠t) (nte:t≠e) (nti:t≠it) (res:Value):∀(k i:Nat) (s:Shared) (acc:Array Value) (c:Nat) (f0:Value) (fb:Bool) (old:Value),xs.size-i=k->i<=xs.size->Hd f0->s.heap.get? e=some (enO f0 fb it (m+i) old)->s.heap.get? it=some (Wz.itO t i)->s.heap.get? t=some (Wz.tuO xs n dd sl)->s.heap.get? S=some (lsO acc c)->acc.size=i->Pf m xs S e it s.heap acc->
  (∀h' tk acc' c',(∀b o,b≠S->b≠e->b≠it->s.heap.get? b=some o->h'.get? b=some o)->h'.get? S=some (lsO acc' c')->acc'.size=xs.size->Pf m xs S e it h' acc'->R (.ok (.ret res)) {s with heap:=h',toks:=tk})->
  codeAny (model prog w) A (.builtin "list.extend.loop" ⟨[.ref S,.ref e,res],[]⟩) R s:=by
 intro k;induction k with
 | zero=>
  intro i s acc c f0 fb old hk hi hf he h1 h2 hS ha hp hR;refine codeAny_builtin F.entry_extend_loop ?_;rw [Around.under_plainId F.plain_extend_loop _];show wpAny _ A.in1 (pyNext (.ref e) >>= _) _ _ s;refine wpAny_bind (aJ1 hh he h1 h2 (Array.getElem?_eq_none (by lia)) fun h' x=>?_);refine wpAny_pure (hR h' s.toks acc c (fun b o _ _ q z=>x b o q z) (x S _ nSi hS) (by lia) fun j v hv=>?_);obtain ⟨T,tk,y,a,b,c,d,f,g⟩:=hp j v hv;exact ⟨T,tk,y,a,b,x T _ g c,d,f,g⟩
 | succ k ih=>
  intro i s acc c f0 fb old hk hi hf he h1 h2 hS ha hp hR;have hlt:i<xs.size:=by lia
  refine codeAny_builtin F.entry_extend_loop ?_;rw [Around.under_plainId F.plain_extend_loop _];show wpAny _ A.in1 (pyNext (.ref e) >>= _) _ _ s;refine wpAny_bind (aFo hf he h1 h2 (Array.getElem?_eq_getElem hlt) nei fun h' tk f0' fb' old' x1 x2 x3 x4 x5=>?_);have hS':=x5 S _ nSe nSi hS;have up:∀b o,b≠S->h'.get? b=some o->(h'.update S (Obj.mapSeq (·.push (Value.ref s.heap.objs.size)))).get? b=some o:=fun b o nb z=>(Heap.get?_update_other _ _ (Ne.symm nb)).trans z
  have nw:∀{b:Addr} {o:Obj},s.heap.get? b=some o->s.heap.objs.size≠b:=fun z=>Nat.ne_of_gt (Heap.lt_size z)
  show wpAny _ A.in1 (updateSeq S (·.push (.ref s.heap.objs.size)) >>= _) _ _ _;refine wpAny_bind (wpAny_updateSeq hS' rfl (wpAny_pure ⟨plainId_quiet F.plain_extend_loop _,ih (i+1) _ (acc.push (.ref s.heap.objs.size)) _ f0' fb' old' (by lia) hlt x1 (up _ _ (Ne.symm nSe) (by rw [x2];simp [Int.add_assoc])) (up _ _ (Ne.symm nSi) x3) (up _ _ (Ne.symm nSt) (x5 _ _ nte nti h2)) (Heap.get?_update_self _ hS' rfl) (by rw [Array.size_push,ha]) (fun j v hv=>?_) fun h2' tk2 acc2 c2 y1 y2 y3 y4=>?_⟩) (by rw [ha];lia) (by show (acc.push _).size<=sizeLine+1;rw [Array.size_push,ha];lia))
  ·rw [Array.getElem?_push] at hv;split at hv
   ·rename_i ej;cases hv;rw [ha] at ej;subst ej;exact ⟨_,tk,_,rfl,Array.getElem?_eq_getElem hlt,up _ _ (nw hS) x4,Heap.lt_size hS,nw he,nw h1⟩
   ·obtain ⟨T,tk',y,a,b,c,d,f,g⟩:=hp j v hv;exact ⟨T,tk',y,a,b,up T _ (Nat.ne_of_gt d) (x5 T _ f g c),d,f,g⟩
  ·exact hR h2' tk2 acc2 c2 (fun b o a b' c z=>y1 b o a b' c (up b o a (x5 b o b' c z))) y2 y3 y4
theorem ZQ {T:String} {R:Result->Shared->Prop} (ty:s.TypeIs (.ref I) T) (n1:(Value.type T==Value.type "list")=false) (n2:(Value.type T==Value.type "tuple")=false) (hSI:S≠I) (hS:s.heap.get? S=some {cls:=.type "list",data:=.seq #[]})
  (it:∀(h:Heap) (tk:Nat) (Q:Value->Shared->Prop) (E:Value->Shared->Prop),(∀b o,b≠S->s.heap.get? b=some o->h.get? b=some o)->Q (.ref I) {s with heap:=h,toks:=tk}->wpAny (model prog w) A.in1 (pyIter (.ref I)) Q E {s with heap:=h,toks:=tk})
  (hint:∀(h:Heap) (tk:Nat) (Q:Bool->Shared->Prop) (E:Value->Shared->Prop),(∀b o,b≠S->s.heap.get? b=some o->h.get? b=some o)->(∀b tk',Q b {s with heap:=h,toks:=tk'})->wpAny (model prog w) A.in1 (Builtin.List.listLengthHint (.ref I)) Q E {s with heap:=h,toks:=tk})
  (key:∀(h:Heap) (c tk:Nat),(∀b o,b≠S->s.heap.get? b=some o->h.get? b=some o)->h.get? S=some (lsO #[] c)->codeAny (model prog w) A (.builtin "list.extend.loop" ⟨[.ref S,.ref I,.none],[]⟩) R {s with heap:=h,toks:=tk}) :
  wpAny (model prog w) A.in1 (Builtin.«list.__init__» ⟨[.ref S,.ref I],[]⟩)
   (fun fin s'=>match fin with|.done f=>R (.ok f) s'|.again c'=>c'.quiet=true/\codeAny (model prog w) A c' R s') (fun e s'=>R (.error e) s') s:=by
 show wpAny _ _ (do let old <- Builtin.List.listItems (.ref S);Builtin.List.listUpdate (.ref S) (fun _=>#[]);letGo old.toList.reverse;Builtin.List.listExtendWith (.ref S) (.ref I) .none) _ _ s;refine wpAny_bind ?_;unfold Builtin.List.listItems;refine wpAny_bind (wpAny_seqItems hS rfl (wpAny_pure ?_));show wpAny _ _ (updateSeq S (fun _=>#[]) >>= fun _=>letGo (#[]:Array Value).toList.reverse >>= fun _=>Builtin.List.listExtendWith (.ref S) (.ref I) .none) _ _ s;refine wpAny_bind (wpAny_updateSeq hS rfl ?_);have hS₂:=Heap.get?_update_self (Obj.mapSeq (fun _=>(#[]:Array Value))) hS rfl;have oth:∀b o,b≠S->s.heap.get? b=some o->(s.heap.update S (Obj.mapSeq (fun _=>(#[]:Array Value)))).get? b=some o:=fun b o hb z=>(Heap.get?_update_other _ _ (Ne.symm hb)).trans z
 refine wpAny_bind (wpAny_letGo ?_);generalize s.heap.update S (Obj.mapSeq (fun _=>(#[]:Array Value)))=hA at hS₂ oth;unfold Builtin.List.listExtendWith;refine wpAny_bind (wpAny_typeOf (T:=T) (let ⟨o,e,c⟩:=ty;⟨o,oth _ o (Ne.symm hSI) e,c⟩) ?_);have d1:Builtin.List.listSameRef (.ref S) (.ref I)=false:=by simp [Builtin.List.listSameRef,hSI]
 simp only [d1,n1,n2,Bool.or_false,Bool.false_eq_true,if_false];refine wpAny_bind (it hA s.toks _ _ oth ?_);refine wpAny_bind (wpAny_holding (hint hA s.toks _ _ oth fun b tk=>?_));refine wpAny_ite_split (fun _=>?_) (fun _=>wpAny_pure ⟨plainId_quiet PySem.F.plain_extend_loop _,key _ _ _ oth hS₂⟩);refine wpAny_bind (wpAny_rule (wpAny_bind ?_));show wpAny _ _ (updateSeq S (·.push .none) >>= fun _=>updateSeq S (·.pop)) _ _ _;refine wpAny_bind (wpAny_updateSeq hS₂ rfl ?_);have hS₃:=Heap.get?_update_self (Obj.mapSeq (·.push Value.none)) hS₂ rfl;refine wpAny_updateSeq (hz:=by seq_fits) hS₃ rfl ?_;have hS₄:=Heap.get?_update_self (Obj.mapSeq (·.pop)) hS₃ rfl;exact wpAny_pure ⟨plainId_quiet PySem.F.plain_extend_loop _,key _ _ _ (fun b o hb z=>(Heap.get?_update_other _ _ (Ne.symm hb)).trans ((Heap.get?_update_other _ _ (Ne.symm hb)).trans (oth b o hb z))) hS₄⟩
theorem aJ2:typeLookup (.type "enumerate") "__len__" = pure none:=by rw [typeLookup_type,builtinLookup_eq_fast];kernel_rfl
theorem aFq:typeLookup (.type "enumerate") "__length_hint__" = pure none:=by rw [typeLookup_type,builtinLookup_eq_fast];kernel_rfl
theorem aFr {Q:Value->Shared->Prop} (hh:A.handled=none) (hn:xs.size<=sizeLine) (nei:e≠it) (nte:t≠e) (nti:t≠it) (he:s.heap.get? e=some (enO .none false it m .none)) (h1:s.heap.get? it=some (Wz.itO t 0)) (h2:s.heap.get? t=some (Wz.tuO xs n dd sl))
  (q:∀h' tk acc' c',(∀b o,b≠e->b≠it->s.heap.get? b=some o->h'.get? b=some o)->h'.get? s.heap.objs.size=some (lsO acc' c')->acc'.size=xs.size->Pf m xs s.heap.objs.size e it h' acc'->Q (.ref s.heap.objs.size) {s with heap:=h',toks:=tk}) :
  wpAny (model prog w) A (call (.type "list") [.ref e]) Q E s:=by
 refine callType_codes (Q₁:=fun obj s₁=>obj=.ref s.heap.objs.size/\s₁={s with heap:=s.heap.push {cls:=.type "list",data:=.seq #[]}}) PySem.F.called_list (PySem.F.typeCall_list_1 _) PySem.F.entry_list_init
  (code_list_new _ ⟨rfl,rfl⟩) fun obj s₁ h₁=>?_
 obtain ⟨rfl,rfl⟩:=h₁;have hS:(s.heap.push {cls:=.type "list",data:=.seq #[]}).get? s.heap.objs.size=some {cls:=.type "list",data:=.seq #[]}:=Heap.get?_push_size _ rfl;have lt:∀{b:Addr} {o:Obj},s.heap.get? b=some o->s.heap.objs.size≠b:=fun z=>Nat.ne_of_gt (Heap.lt_size z)
 refine ⟨⟨_,hS,rfl⟩,PySem.F.args_list_init_2 _ _,?_⟩;have hE:=Heap.get?_push_of_some {cls:=.type "list",data:=.seq #[]} he;have hI:=Heap.get?_push_of_some {cls:=.type "list",data:=.seq #[]} h1;have hT:=Heap.get?_push_of_some {cls:=.type "list",data:=.seq #[]} h2;refine ZQ (A:=A.in1) (T := "enumerate") ⟨_,hE,rfl⟩ (by decide) (by decide) (lt he) hS (fun h tk Q E k z=>?_) (fun h tk Q E k z=>?_) fun h c tk k z=>?_
 ·exact wpAny_pyIter_enum (k _ _ (Ne.symm (lt he)) hE) z
 ·have ty:({s with heap:=h,toks:=tk}:Shared).TypeIs (.ref e) "enumerate":=⟨_,k _ _ (Ne.symm (lt he)) hE,rfl⟩
  unfold Builtin.List.listLengthHint;refine wpAny_bind (wpAny_specialOf ty aJ2 ?_);dsimp only;refine wpAny_ite_split (fun hab=>absurd hab (by decide +kernel)) (fun _=>?_);rw [if_neg (by simp)];refine wpAny_bind (wpAny_specialOf ty aFq ?_);exact wpAny_pure (z _ _)
 ·have e0:h.get? e=some (enO .none false it (m+(0:Nat)) .none):=by
   rw [show m+((0:Nat):Int)=m by simp];exact k _ _ (Ne.symm (lt he)) hE
  exact aFp (A:=A.in1) (s:={s with heap:=h,toks:=tk}) hh hn nei (lt he) (lt h1) (lt h2) nte nti .none _ 0 #[] c _ _ _ rfl (Nat.zero_le _) (.inl rfl) e0 (k _ _ (Ne.symm (lt h1)) hI) (k _ _ (Ne.symm (lt h2)) hT) z rfl (fun j v hv=>by simp at hv) fun h' tk' acc' c' y1 y2 y3 y4=>⟨rfl,q h' tk' acc' c' (fun b o a b' x=>y1 b o (Ne.symm (lt x)) a b' (k b o (Ne.symm (lt x)) (Heap.get?_push_of_some _ x))) y2 y3 y4⟩
end
section
variable {prog:Program} {w:World} {A:Around} {E:Value->Shared->Prop} {s:Shared} {m:Int}
theorem aLm {α:Type} {M:Model} {c:Prop} [Decidable c] {a b:Sem α} {Q:α->Shared->Prop} (h1:wpAny M A a Q E s) (h2:wpAny M A b Q E s):wpAny M A (if c then a else b) Q E s:=if h:c then (if_pos h).symm▸h1 else (if_neg h).symm▸h2
theorem aNe (l:Addr) (items:Array Value) (n:Nat) (dd:Option Addr) (sl:Array (Option Value)) (t:Tok) (hm:Builtin.SmallTypes.fitsIndex m=true) :
  Meets (Builtin.«enumerate.__new__» ⟨[.type "enumerate",.ref l],[("start",.int m t)]⟩) (fun _ R s=>s.heap.get? l=some (Wz.tuO items n dd sl)/\
   ∀h' e it tk,it=s.heap.objs.size->e=it+1->h'.get? e=some (enO .none false it m .none)->h'.get? it=some (Wz.itO l 0)->(∀b o,s.heap.get? b=some o->h'.get? b=some o)->R (.ok (.ret (.ref e))) {s with heap:=h',toks:=tk}):=.of_wp fun prog w A R s hs=>by
 obtain ⟨hp,g,d,tk,os⟩:=s;obtain ⟨hl,q⟩:=hs;have sub:=sub_enumerate;have p:Heap.IsTuple (Shared.heap ⟨hp,g,d,tk,os⟩) l items:=⟨_,hl,rfl,n,rfl⟩
 have hz:(hp.push (Wz.itO l 0)).objs.size=hp.objs.size+1:=Heap.size_push ..;have fin:∀(tk':Nat),R (.ok (.ret (.ref (hp.push (Wz.itO l 0)).objs.size))) ⟨(hp.push (Wz.itO l 0)).push (enO .none false hp.objs.size m .none),g,d,tk',os⟩:=fun tk'=>by
  refine q _ _ _ tk' rfl hz (Heap.get?_push_size _ rfl) (Heap.get?_push_of_some _ (Heap.get?_push_size _ rfl)) fun b o e=>Heap.get?_push_of_some _ (Heap.get?_push_of_some _ e)
 have hm':(!Builtin.SmallTypes.fitsIndex m)=false:=by rw [hm];rfl
 wp_walk using PySem.AutoSeq1.wpAny_loadPart' hl
 refine wpAny_stack_any fun st=>wpAny_pure ?_
 refine aLm ?_ ?_
 ·wp_walk using PySem.AutoSeq1.wpAny_loadPart' hl,wpAny_pyIter_tuple p
  exact ⟨_,rfl,fin tk⟩
 ·wp_walk using PySem.AutoSeq1.wpAny_loadPart' hl,wpAny_pyIter_tuple p
  exact ⟨_,rfl,fin tk⟩
theorem aLn (a:Value) (m:Int) (t:Tok):checkTypeCall "enumerate" ⟨[a],[("start",.int m t)]⟩=pure ():=by kernel_rfl
theorem aLo (a:Value) (m:Int) (t:Tok):checkBuiltinCall "enumerate.__new__" ⟨[.type "enumerate",a],[("start",.int m t)]⟩=pure ():=by kernel_rfl
theorem aLp (a b:Value) (m:Int) (t:Tok):argsOk "object.__init__" ⟨[a,b],[("start",.int m t)]⟩:=by kernel_rfl
theorem aFs {self b:Value} {t:Tok} {R:PySem.Fin->Shared->Prop} (hT:s.TypeIs self "enumerate") (q:R (.done (.ret .none)) s):wpAny (model prog w) A (Builtin.«object.__init__» ⟨[self,b],[("start",.int m t)]⟩) R E s:=by
 have hl:=F.called_enumerate.init.lookup;have hm:=F.called_enumerate.made
 repeat (any_goals (first|assumption|wp_step))
theorem aFt {l:Addr} {items:Array Value} {t:Tok} {Q:Value->Shared->Prop} (hm:Builtin.SmallTypes.fitsIndex m=true) (e:s.heap.get? l=some (Wz.tuO items n dd sl))
  (q:∀h' e it tk,it=s.heap.objs.size->e=it+1->h'.get? e=some (enO .none false it m .none)->h'.get? it=some (Wz.itO l 0)->(∀b o,s.heap.get? b=some o->h'.get? b=some o)->Q (.ref e) {s with heap:=h',toks:=tk}) :
  wpAny (model prog w) A (call (.type "enumerate") [.ref l] [("start",.int m t)]) Q E s:=by
 have ft:=F.called_enumerate;obtain ⟨c,tl,m0⟩:=ft.mro;have m1:=ft.made;have m2:=ft.sub;have m3:=ft.notType;have m4:=ft.canCreate;have k1:=aLn (.ref l) m t;refine wpAny_call (codeAny_of_tree (show wpAny _ _ (callAny (.type "enumerate") _) _ _ _ from wpAny_pure ⟨Code.quiet_builtin _ (by decide +kernel),codeAny_builtin F.entry_type_call ?_⟩));rw [Around.under_plain (weight_type_call_type "enumerate" _ _) (units_type_call_type "enumerate" _ _)]
 repeat (any_goals (first|assumption|wp_step))
 have step:∀c (R:Result->Shared->Prop),c=(Code.call (.builtin "enumerate.__new__") ⟨[.type "enumerate",.ref l],[("start",.int m t)]⟩)->(∀h' e it tk,it=s.heap.objs.size->e=it+1->h'.get? e=some (enO .none false it m .none)->h'.get? it=some (Wz.itO l 0)->(∀b o,s.heap.get? b=some o->h'.get? b=some o)->R (.ok (.ret (.ref e))) {s with heap:=h',toks:=tk})->codeAny (model prog w) A.in1 c R s:=fun c R hc hq=>by
  subst hc;exact codeAny_call_builtin ft.plain F.entry_enumerate_new (wpAny_of_eq (aLo (.ref l) m t) (aNe l items n dd sl t hm prog w A.in1 R s ⟨e,hq⟩))
 refine codeAny_mono (step _ (fun r s1=>∃h' a it tk,r=.ok (.ret (.ref a))/\s1={s with heap:=h',toks:=tk}/\h'.get? a=some (enO .none false it m .none)/\Q (.ref a) s1) rfl fun h' a it tk x1 x2 x3 x4 x5=>⟨h',a,it,tk,rfl,rfl,x3,q h' a it tk x1 x2 x3 x4 x5⟩) fun r s1 hr=>?_
 obtain ⟨h',a,it,tk,rfl,rfl,x3,hq⟩:=hr;have hT:({s with heap:=h',toks:=tk}:Shared).TypeIs (.ref a) "enumerate":=⟨_,x3,rfl⟩
 have hli:=ft.init.lookup;have hbi:=ft.init.bind (.ref a)
 repeat (any_goals (first|assumption|wp_step))
 have step2:∀c (R:Result->Shared->Prop),c=(Code.call (.builtin "object.__init__") ⟨[.ref a,.ref l],[("start",.int m t)]⟩)->R (.ok (.ret .none)) {s with heap:=h',toks:=tk}->codeAny (model prog w) A.in1 c R {s with heap:=h',toks:=tk}:=fun c R hc hq=>by
  subst hc;exact codeAny_call_builtin ft.init.plain F.entry_object_init (ft.init.check _ _ _ _ _ _ _ _ hT (aLp _ _ _ _) (aFs hT hq))
 refine codeAny_mono (step2 _ (fun r s2=>r=.ok (.ret .none)/\s2={s with heap:=h',toks:=tk}) rfl ⟨rfl,rfl⟩) fun r s2 hr=>?_
 obtain ⟨rfl,rfl⟩:=hr
 repeat (any_goals (first|assumption|wp_step))
end
end Lw
namespace Mi
open PySem L2 PySem.SeqAt PySem.Spec PyProof.Rows
def enT (m:Int):D->Res D
 | .tup xs=>if D.aN xs&&decide (xs.length<=lim) then .ok (.lst ((List.range xs.length).map fun (j:Nat)=>.tup [.int (m+j),xs.getD j .non])) else .bad
 | _=>.bad
noncomputable def adr:Value->Addr
 | .ref T=>T
 | _=>0
variable [KFrag]
theorem aBq {X:Cx} {H':Hp} {h':Heap} {t':Nat} (I:Inv X pins σ H s) (k:∀b u,s.heap.get? b=some u->h'.get? b=some u) (old:∀b,b<s.heap.objs.size->H' b=H b) (new:∀a o,H' a=some o->s.heap.objs.size<=a->fD X.prog X.w H' h' a o):Inv X pins σ H' {s with heap:=h',toks:=t'}:=by
 have up:∀b o,H b=some o->H' b=some o:=fun b o e=>(old b (I.hok.lt e)).trans e
 refine I.un ⟨fun b u q _ _ _=>k b u q,fun b u q _ _ _=>⟨u.slots,k b u q⟩,fun b u q n _=>(old b (Heap.lt_size q)).trans n,fun b u q _=>⟨u,k b u q⟩,fun b xs q=>up b _ q,fun b u xs q=>up b _ q,fun b ps q=>⟨#[],by rw [up b _ q];simp⟩⟩ fun a o e=>?_
 by_cases ha:a<s.heap.objs.size
 ·rw [old a ha] at e;exact (I.hok a o e).stay (fun c v _ q=>k c v q) (fun c q=>up c _ q) fun c xs q=>up c _ q
 ·exact new a o e (Nat.le_of_not_lt ha)
section
variable {X:Cx} {e:Expr} {fe:FE} {re:Bool} {p p2 pos pos2 kp cp:Pos} {j:Nat} {m:Int}
theorem aJ3 {M:Model} {A:Around} {E:Value->Shared->Prop} {s:Shared} {T:String} {args:List (Bool×Sem Value)} {kws:List (Option Str×Sem Value)} {Q:Value->Shared->Prop} (hp:args.any (·.1)=false) (hk:kws.any (·.1.isNone)=false)
  (h:wpAny M A (evalArgs (.type T) true args kws) (fun a s₁=>wpAny M A (call (.type T) a.pos a.kw) Q E s₁) E s):wpAny M A (callWith pos (.type T) [] args kws) Q E s:=by
 unfold callWith;refine wpAny_bind (wpAny_holding (wpAny_mono h (fun a s1 h1=>wpAny_bind (wpAny_standAt ?_)) fun _ _ x=>x));rw [hp,hk];exact wpAny_bind (wpAny_pure (wpAny_bind (wpAny_mono h1 (fun r s2 hr=>wpAny_bind (wpAny_holding (wpAny_point (wpAny_pure hr)))) fun _ _ x=>x)))
theorem SQ (hc:X.calm=true) (hf:Builtin.SmallTypes.fitsIndex m=true) (hg:Gl X "list") (hm:X.mg "list" = none) (hg2:Gl X "enumerate") (hm2:X.mg "enumerate" = none) (he:PE X e (gE fe re)) (hs:starEach [e] X.env=[(false,eval e X.env)]:=by rfl)
  (hs2:starEach [.Call (.Name "enumerate" p2) [e] [⟨some "start",.Constant (.int m) j cp,kp⟩] pos2] X.env=[(false,eval (.Call (.Name "enumerate" p2) [e] [⟨some "start",.Constant (.int m) j cp,kp⟩] pos2) X.env)]:=by rfl) :
  PE X (.Call (.Name "list" p) [.Call (.Name "enumerate" p2) [e] [⟨some "start",.Constant (.int m) j cp,kp⟩] pos2] [] pos) (gE (b1 (enT m) fe) true):=by
 intro pins s σ H Q I ⟨ρ,d,E,h,q⟩;obtain ⟨d0,h1,h2⟩:=bA h;unfold enT at h2;split at h2
 rotate_left
 ·exact bx h2
 rename_i ds;split at h2
 rotate_left
 ·exact bx h2
 rename_i hb;cases h2;rw [Bool.and_eq_true] at hb;refine wpAny_Call_Name_kw (lF I hg hm sJ ?_);refine PyProof.Rows.callWith_type1 ?_ hs2 rfl;rw [hs2];show wpAny _ _ (spliced [(false,eval (.Call (.Name "enumerate" p2) [e] [⟨some "start",.Constant (.int m) j cp,kp⟩] pos2) X.env)]) _ _ s;refine Calls.spliced_cons ?_;refine wpAny_Call_Name_kw (lF I hg2 hm2 PyProof.Rows.boot_enumerate (aJ3 (by rw [hs];rfl) rfl ?_));have hA:=cA (X:=X) he lD hs pos2 pins s σ H (fun vs H1=>∃v,vs=[v]/\bV H H1/\Rep All H1 v (.tup ds)) I ⟨ρ,_,E,h1,fun v H1 s1 r1 _=>⟨_,rfl,s1,r1⟩⟩;rw [hs] at hA ⊢;refine evalArgs_kwB rfl (thn hA fun us s1 ⟨vs,H1,I1,r1,q1⟩=>kws_cons (wpAny_Constant_int (kws_nil ?_)));obtain ⟨v,rfl,sm,rx⟩:=q1;cases r1 with
 | cons rv rr=>
  cases rr;obtain ⟨t,xs,rfl,ex,rr⟩:=rx.iM;cases rv;obtain ⟨hz,its,vr,⟨ocl,odc,oda,osl⟩,ho,hcl,n,hdt⟩:=I1.hok t _ ex;simp only [Prod.mk.injEq] at hdt;obtain ⟨rfl,rfl⟩:=hdt;obtain rfl:ocl=_:=hcl;have ho:s1.heap.get? t=some (Wz.tuO its.toArray n none osl):=ho;have hlen:xs.length=its.length:=vr.length;refine Lw.aFt (s:={s1 with toks:=s1.toks+1}) hf ho fun h' en it tk e1 e2 e3 e4 e5=>?_
  subst e2;subst e1;have e5:∀b o,s1.heap.get? b=some o->h'.get? b=some o:=e5;have nt:∀{b:Addr} {o:Obj},s1.heap.get? b=some o->b≠s1.heap.objs.size/\b≠s1.heap.objs.size+1:=fun z=>⟨Nat.ne_of_lt (Heap.lt_size z),Nat.ne_of_lt (Nat.lt_succ_of_lt (Heap.lt_size z))⟩
  refine Calls.spliced_nil ?_;refine Lw.aFr (s:={s1 with heap:=h',toks:=tk}) (I1.ok.hd hc) (by rw [List.size_toArray,<-hlen];exact hz) (Nat.succ_ne_self _) (nt ho).2 (nt ho).1 e3 e4 (e5 _ _ ho) fun h2 tk2 acc c k2 hS hsz hp=>?_
  have hS:h2.get? h'.objs.size=some (Lw.lsO acc c):=hS;have k2:∀b o,b≠s1.heap.objs.size+1->b≠s1.heap.objs.size->h'.get? b=some o->h2.get? b=some o:=k2;have hp:Lw.Pf m its.toArray h'.objs.size (s1.heap.objs.size+1) s1.heap.objs.size h2 acc:=hp;have lte:s1.heap.objs.size+1<h'.objs.size:=Heap.lt_size e3;have hsz:acc.size=xs.length:=by rw [hsz,List.size_toArray,hlen]
  -- the items
  let tu:Nat->HO:=fun j=>.tup [.int (m+j),xs.getD j .non]
  let H2:Hp:=fun b=>if b<s1.heap.objs.size then H1 b else if b=h'.objs.size then some (.lst ((List.range xs.length).map fun j=>.ref (adr (acc.getD j .none)))) else ((List.range xs.length).find? fun j=>acc[j]?==some (.ref b)).map tu
  have hat:∀j,j<xs.length->∃(T:Addr) (tk:Tok) (x:Value),acc[j]?=some (.ref T)/\its[j]?=some x/\h2.get? T=some {cls:=.type "tuple",data:=.seq #[.int (m+j) tk,x]}/\h'.objs.size<T:=fun j hj=>by
   have hv:acc[j]?=some (acc[j]'(by lia)):=Array.getElem?_eq_getElem (by lia);obtain ⟨T,tk,x,a,b,c,d,_,_⟩:=hp j _ hv;exact ⟨T,tk,x,by rw [hv,a],by simpa using b,c,d⟩
  have gd:∀j T,acc[j]?=some (.ref T)->adr (acc.getD j .none)=T:=fun j T e=>by
   have:acc.getD j .none=.ref T:=by simp [Array.getD_eq_getD_getElem?,e]
   rw [this];rfl
  have hT:∀j T,j<xs.length->acc[j]?=some (.ref T)->H2 T=some (tu j):=fun j T hj e=>by
   obtain ⟨T',tk,x,a1,a2,a3,a4⟩:=hat j hj;obtain rfl:T=T':=by rw [e] at a1;cases a1;rfl
   show (if T<s1.heap.objs.size then H1 T else if T=h'.objs.size then _ else _)=_;rw [if_neg (Nat.not_lt.mpr (Nat.le_trans (Nat.le_of_lt (Nat.lt_of_succ_lt lte)) (Nat.le_of_lt a4))),if_neg (Nat.ne_of_gt a4)];cases h0:(List.range xs.length).find? fun j=>acc[j]?==some (Value.ref T) with
   | none=>exact absurd (List.find?_eq_none.mp h0 j (List.mem_range.mpr hj)) (by simp [e])
   | some j0=>
    have p0:=List.find?_some h0;have m0:=List.mem_range.mp (List.mem_of_find?_eq_some h0);obtain ⟨T0,tk0,x0,b1,b2,b3,b4⟩:=hat j0 m0;have p0:acc[j0]?=some (Value.ref T):=by simpa using p0
    obtain rfl:T=T0:=by rw [p0] at b1;cases b1;rfl
    rw [a3] at b3;have:m+(j:Int)=m+(j0:Int):=by
     injection b3 with b3
     injection b3 with _ _ b3 _
     injection b3 with b3 _
     have:=congrArg (fun z:Array Value=>z[0]?) b3;simp at this;lia
    obtain rfl:j=j0:=by lia
    rfl
  have hL:H2 h'.objs.size=some (.lst ((List.range xs.length).map fun j=>.ref (adr (acc.getD j .none)))):=by
   show (if h'.objs.size<s1.heap.objs.size then H1 h'.objs.size else if h'.objs.size=h'.objs.size then _ else _)=_;rw [if_neg (Nat.not_lt.mpr (Nat.le_of_lt (Nat.lt_of_succ_lt lte))),if_pos rfl]
  have k3:∀b o,s1.heap.get? b=some o->h2.get? b=some o:=fun b o z=>k2 b o (nt z).2 (nt z).1 (e5 b o z)
  have accL:acc.toList=(List.range xs.length).map fun j=>Value.ref (adr (acc.getD j .none)):=by
   refine List.ext_getElem? fun j=>?_
   by_cases hj:j<xs.length
   ·obtain ⟨T,tk,x,a1,_⟩:=hat j hj;rw [List.getElem?_map,List.getElem?_range hj,Option.map_some,gd j T a1,Array.getElem?_toList,a1]
   ·rw [List.getElem?_eq_none (by simp;lia),List.getElem?_eq_none (by simp;lia)]
  have I2:Inv X pins σ H2 {s1 with heap:=h2,toks:=tk2}:=aBq I1 k3 (fun b hb=>if_pos hb) fun a o ea ha=>by
   have eb:(if a<s1.heap.objs.size then H1 a else if a=h'.objs.size then some (HO.lst ((List.range xs.length).map fun j=>.ref (adr (acc.getD j .none)))) else ((List.range xs.length).find? fun j=>acc[j]?==some (.ref a)).map tu)=some o:=ea;clear ea;rw [if_neg (Nat.not_lt.mpr ha)] at eb;split at eb
   ·rename_i hz2;subst hz2;have eb:=Option.some.inj eb;subst eb;refine ⟨by simpa using hz,acc.toList,c,?_,by simpa using hS⟩;rw [accL];generalize List.range xs.length=l;induction l with
    | nil=>exact .nil
    | cons z l ih=>exact .cons rfl ih
   ·cases h0:(List.range xs.length).find? fun j=>acc[j]?==some (Value.ref a) with
    | none=>rw [h0] at eb;cases eb
    | some j0=>
     rw [h0] at eb;cases eb;have p0:acc[j0]?=some (Value.ref a):=by simpa using List.find?_some h0
     have m0:=List.mem_range.mp (List.mem_of_find?_eq_some h0);obtain ⟨T0,tk0,x0,b1,b2,b3,b4⟩:=hat j0 m0;obtain rfl:a=T0:=by rw [p0] at b1;cases b1;rfl
     have hx:xs[j0]?=some (xs.getD j0 .non):=by rw [List.getD_eq_getElem?_getD,List.getElem?_eq_getElem m0];rfl
     obtain ⟨u,hu,ru⟩:=vr.get hx;rw [b2] at hu;cases hu;exact ⟨by show 2<=sizeLine;rw [sizeLine_eq];decide,[.int (m+j0) tk0,x0],.cons ⟨_,rfl⟩ (.cons ru .nil),_,b3,rfl,0,rfl⟩
  have sm2:bV H1 H2:=fun a o ea=>(if_pos (I1.hok.lt ea)).trans ea
  have rp:∀P:Addr->Prop,bG P H2 ((List.range xs.length).map fun j=>V.ref (adr (acc.getD j .none))) ((List.range ds.length).map fun (j:Nat)=>D.tup [.int (m+j),ds.getD j .non]):=fun P=>by
   rw [<-rr.length];have go:∀l:List Nat,(∀j∈l,j<xs.length)->bG P H2 (l.map fun j=>V.ref (adr (acc.getD j .none))) (l.map fun (j:Nat)=>D.tup [.int (m+j),ds.getD j .non]):=fun l=>by
    induction l with
    | nil=>intro _;exact .nil
    | cons z l ih=>
     intro hl;refine .cons ?_ (ih fun j hj=>hl j (List.mem_cons_of_mem _ hj));have hz3:=hl z (List.mem_cons_self ..);obtain ⟨T,tk,x,a1,a2,a3,a4⟩:=hat z hz3;show Rep P H2 (V.ref (adr (acc.getD z .none))) (D.tup [.int (m+z),ds.getD z .non]);rw [gd z T a1];have hd:ds[z]?=some (ds.getD z .non):=by rw [List.getD_eq_getElem?_getD,List.getElem?_eq_getElem (by rw [<-rr.length];exact hz3)];rfl
     obtain ⟨v,g1,g2⟩:=rr.get hd;have hx:xs.getD z .non=v:=by rw [List.getD_eq_getElem?_getD,g1];rfl
     refine .tup (hT z T hz3 a1) (.cons (.int _) (.cons ?_ .nil));rw [hx];exact (g2.bM (lX.mp hb.1 _ (List.mem_of_getElem? hd))).same sm2
   exact go _ fun j hj=>List.mem_range.mp hj
  refine ⟨.ref h'.objs.size,H2,I2,rfl,q _ _ (sm.trans sm2) (.lst hL trivial (rp All)) fun _=>.lst hL (sm.free (I1.hok.fresh (Nat.le_of_lt (Nat.lt_of_succ_lt lte)))) (rp _)⟩
end
end Mi
namespace Lw
open PySem PySem.Spec
theorem aFu:typeLookup (.type "list_reverseiterator") "__len__" = pure none:=by rw [typeLookup_type,builtinLookup_eq_fast];kernel_rfl
theorem aBr:Slot "list_reverseiterator" "__length_hint__" "list_reverseiterator.__length_hint__":=
 .of (owner := "list_reverseiterator") (n := "__length_hint__") (by rw [typeLookup_type,builtinLookup_eq_fast];kernel_rfl) (by decide +kernel) (by decide +kernel) (by decide +kernel)
  (by first|exact .inl (by decide +kernel)|exact .inr (by decide +kernel)) (by rw [isSubtype_type];kernel_rfl)
theorem aBs:isSubtype (.type "list_reverseiterator") (.type "list_reverseiterator")=pure true:=by rw [isSubtype_type];kernel_rfl
section
variable {prog:Program} {w:World} {A:Around} {E:Value->Shared->Prop} {s:Shared}
theorem aLq (ty:s.TypeIs (.ref I) "list_reverseiterator") (h:∀b tk,Q b {s with toks:=tk}):wpAny (model prog w) A (Builtin.List.listLengthHint (.ref I)) Q E s:=by
 unfold Builtin.List.listLengthHint;refine wpAny_bind (wpAny_specialOf ty aFu ?_);dsimp only;refine wpAny_ite_split (fun hab=>absurd hab (by decide +kernel)) (fun _=>?_);rw [if_neg (by simp)];refine wpAny_bind (wpAny_specialOf ty aBr.lookup ?_);generalize hid:("list_reverseiterator.__length_hint__" : String)=id0
 wp_delta
 rw [show splitId id0=some ("list_reverseiterator", "__length_hint__") from by subst hid;decide +kernel];subst hid;refine wpAny_bind (wpAny_isInstance (T := "list_reverseiterator") (b:=true) ty aBs ?_);refine wpAny_ite_split (fun hab=>absurd hab (by decide)) (fun _=>?_);rw [if_pos (by decide +kernel),if_neg (by decide)];exact wpAny_pure (h _ _)
theorem aBt {Q:Value->Shared->Prop} (hh:A.handled=none) (hn:xs.size<=sizeLine) (hne:l≠I) (hit:s.heap.IsRevIter I l ((xs.size:Int)-1)) (hl:s.heap.IsList l xs)
  (q:∀h' tk acc' c',(∀b o,b≠I->s.heap.get? b=some o->h'.get? b=some o)->h'.get? s.heap.objs.size=some (lsO acc' c')->ItemsOf (fun i v=>xs[xs.size-1-i]?=some v) acc' xs.size->Q (.ref s.heap.objs.size) {s with heap:=h',toks:=tk}) :
  wpAny (model prog w) A (call (.type "list") [.ref I]) Q E s:=by
 refine callType_codes (Q₁:=fun obj s₁=>obj=.ref s.heap.objs.size/\s₁={s with heap:=s.heap.push {cls:=.type "list",data:=.seq #[]}}) PySem.F.called_list (PySem.F.typeCall_list_1 _) PySem.F.entry_list_init
  (code_list_new _ ⟨rfl,rfl⟩) fun obj s₁ h₁=>?_
 obtain ⟨rfl,rfl⟩:=h₁;have hS:(s.heap.push {cls:=.type "list",data:=.seq #[]}).get? s.heap.objs.size=some {cls:=.type "list",data:=.seq #[]}:=Heap.get?_push_size _ rfl;have lt:∀{b:Addr} {o:Obj},s.heap.get? b=some o->s.heap.objs.size≠b:=fun z=>Nat.ne_of_gt (Heap.lt_size z)
 have l1:s.heap.objs.size≠I:=let ⟨o,e,_⟩:=hit;lt e
 have l2:s.heap.objs.size≠l:=let ⟨o,e,_⟩:=hl;lt e
 have hit':=hit.at (h':=s.heap.push {cls:=.type "list",data:=.seq #[]}) fun o e=>Heap.get?_push_of_some _ e
 have hl':(s.heap.push {cls:=.type "list",data:=.seq #[]}).IsList l xs:=hl.at fun o e=>Heap.get?_push_of_some _ e
 refine ⟨⟨_,hS,rfl⟩,PySem.F.args_list_init_2 _ _,?_⟩;refine ZQ (A:=A.in1) (T := "list_reverseiterator") hit'.typeIs (by decide) (by decide) l1 hS (fun h tk Q E k z=>?_) (fun h tk Q E k z=>?_) fun h c tk k z=>?_
 ·exact wpAny_pyIter_revIter (hit'.at fun o e=>k _ o (Ne.symm l1) e) z
 ·exact aLq (hit'.at fun o e=>k _ o (Ne.symm l1) e).typeIs z
 ·have W:=Walks.listRev (prog:=prog) (w:=w) (A:=A.in1.in1) hh I l hne xs;refine codeAny_extend_loopS (A:=A.in1) W.toS hn s.heap.objs.size (by simp only [List.mem_cons,List.not_mem_nil,or_false,not_or];exact ⟨l1,l2⟩) .none xs.size 0 _ #[] c rfl (Nat.zero_le _) ⟨Nat.zero_le _,by simpa using hit'.at fun o e=>k _ o (Ne.symm l1) e,hl'.at fun o e=>k _ o (Ne.symm l2) e⟩ z (ItemsOf.nil _) fun s' acc' c' hm hS' hacc=>?_
  rw [Moved.eq_with hm];refine ⟨rfl,q s'.heap s'.toks acc' c' (fun b o hb e=>hm.heap b o (fun hmem=>?_) (k b o (Ne.symm (lt e)) (Heap.get?_push_of_some _ e))) hS' hacc⟩;rcases List.mem_cons.mp hmem with e'|hmem
  ·exact lt e e'.symm
  ·exact hb (List.mem_singleton.mp hmem)
end
end Lw
namespace Mi
open PySem L2 PySem.SeqAt PySem.Spec PyProof.Rows
def aKa:D->Res D
 | .lst xs=>if D.aN xs&&decide (xs.length<=lim) then .ok (.lst xs.reverse) else .bad
 | _=>.bad
variable [KFrag]
section
variable {X:Cx} {e:Expr} {fe:FE} {re:Bool} {p p2 pos pos2:Pos}
theorem aBu (hc:X.calm=true) (hg:Gl X "list") (hm:X.mg "list" = none) (hg2:Gl X "reversed") (hm2:X.mg "reversed" = none) (he:PE X e (gE fe re)) (hs:starEach [e] X.env=[(false,eval e X.env)]:=by rfl)
  (hs2:starEach [.Call (.Name "reversed" p2) [e] [] pos2] X.env=[(false,eval (.Call (.Name "reversed" p2) [e] [] pos2) X.env)]:=by rfl) :
  PE X (.Call (.Name "list" p) [.Call (.Name "reversed" p2) [e] [] pos2] [] pos) (gE (b1 aKa fe) true):=by
 intro pins s σ H Q I ⟨ρ,d,E,h,q⟩;obtain ⟨d0,h1,h2⟩:=bA h;unfold aKa at h2;split at h2
 rotate_left
 ·exact bx h2
 rename_i ds;split at h2
 rotate_left
 ·exact bx h2
 rename_i hb;cases h2;rw [Bool.and_eq_true] at hb;refine wpAny_Call_Name_kw (lF I hg hm sJ ?_);refine PyProof.Rows.callWith_type1 ?_ hs2 rfl;rw [hs2];show wpAny _ _ (spliced [(false,eval (.Call (.Name "reversed" p2) [e] [] pos2) X.env)]) _ _ s;refine Calls.spliced_cons ?_;refine wpAny_Call_Name_kw (lF I hg2 hm2 O5 ?_);refine PyProof.Rows.callWith_type1 ?_ hs rfl;rw [hs];show wpAny _ _ (spliced [(false,eval e X.env)]) _ _ s;refine Calls.spliced_cons (thn (he pins s σ H (fun v H1=>bV H H1/\Rep All H1 v (.lst ds)) I ⟨ρ,_,E,h1,fun v H1 s1 r1 _=>⟨s1,r1⟩⟩) fun u s1 ⟨x,H1,I1,ru,sm,rx⟩=>?_);obtain ⟨t,xs,rfl,ex,_,rr⟩:=rx.inv;cases ru;obtain ⟨hz,its,n,rv,ho⟩:=I1.hok t _ ex;have htt:s1.heap.IsList t its.toArray:=⟨_,ho,rfl,n,rfl⟩
 refine Calls.spliced_nil ?_;have hz':its.toArray.size<=sizeLine:=by rw [List.size_toArray,<-rv.length];exact hz
 refine call_reversed_list htt ?_;refine Calls.spliced_nil ?_;have hne:t≠s1.heap.objs.size:=Nat.ne_of_lt (Heap.lt_size ho);generalize hO:s1.heap.push (revObj t ((its.toArray.size:Int)-1))=hB;have kB:∀b o,s1.heap.get? b=some o->hB.get? b=some o:=fun b o z=>by rw [<-hO];exact Heap.get?_push_of_some _ z
 have iB:hB.IsRevIter s1.heap.objs.size t ((its.toArray.size:Int)-1):=by rw [<-hO];exact ⟨_,Heap.get?_push_size _ rfl,rfl,rfl⟩
 have szB:hB.objs.size=s1.heap.objs.size+1:=by rw [<-hO];exact Heap.size_push ..
 refine Lw.aBt (s:={s1 with heap:=hB}) (I:=s1.heap.objs.size) (l:=t) (xs:=its.toArray) (I1.ok.hd hc) hz' hne iB (htt.at fun o e=>kB _ o e) fun h' tk acc c k hS hacc=>?_
 have hS:h'.get? hB.objs.size=some (Lw.lsO acc c):=hS;have k:∀b o,b≠s1.heap.objs.size->hB.get? b=some o->h'.get? b=some o:=k;have hfr:H1 hB.objs.size=none:=I1.hok.fresh (by rw [szB];lia);have hlen:acc.toList.length=its.length:=by have:=hacc.1;simpa using this
 have hv:Vals xs.reverse acc.toList:=R4 rv hlen fun j v hj=>by
  have:=hacc.2 j v (by simpa using hj);simpa using this
 have sm2:bV H1 (upd H1 hB.objs.size (.lst xs.reverse)):=bV.upd hfr;refine ⟨.ref hB.objs.size,_,I1.laid (a:=hB.objs.size) (o:=.lst xs.reverse) (h':=h') (t':=tk) (fun b o e=>k b o (Nat.ne_of_lt (Heap.lt_size e)) (kB b o e)) (by rw [szB];lia) ⟨by rw [List.length_reverse];exact hz,acc.toList,c,hv,by simpa using hS⟩,rfl,?_⟩;exact q _ _ (sm.trans sm2) (.lst aG trivial (rr.rev.same sm2)) fun _=>.lst aG (sm.free hfr) ((rr.rev.bM (JT hb.1)).same sm2)
end
noncomputable def aKb (i:Nat):FS:=fun ρ=>match ρ.getD i .uD with
 | .lst xs=>.ok (.nx (ρ.set i (.lst xs.reverse)))
 | _=>.bad
def aNf:V->List V->Hp->VK->Prop:=fun x vs H Q=>∃l xs,x=.ref l/\vs=[]/\H l=some (.lst xs)/\Q .non (upd H l (.lst xs.reverse))
theorem aJ4 {X:Cx}:MtM X "list.reverse" aNf:=by
 intro pins s σ H x vs v us Q I rx rv h;obtain ⟨l,xs,rfl,rfl,hH,q⟩:=h;cases rx;have hus:=rv.zero;subst hus;obtain ⟨z,its,n,r,hl,e⟩:=I.aM5 hH;refine call_meets PySem.F.slot_list_reverse ⟨_,e,rfl⟩ PySem.F.entry_list_reverse (PySem.F.args_list_reverse_1 _) (PySem.AutoSeq1.list_reverse_list_0 l its.toArray n (by rw [List.size_toArray];lia)) ⟨e,?_⟩;refine ⟨.non,_,I.aM4 (its':=its.reverse) hH e ?_ ?_ ?_,rfl,q⟩
 ·simp
 ·exact R4 r (by simp) fun j v hj=>by
   have hjl:j<its.length:=by have:=(List.getElem?_eq_some_iff.mp hj).1;simpa using this
   rw [List.getElem?_reverse hjl] at hj;exact hj
 ·rw [List.length_reverse];lia
theorem aJ5 {X:Cx} {own:Nat->Bool} (ho:own i=true) (hN:X.N[i]?=some x) (hv:Vis X.env.scope x) (hd:nDb x:=by decide) (hcd:nCd x:=by decide)
  (hbase:attributeBase (.Name x p1) "reverse" X.env (eval (.Name x p1) X.env)=eval (.Name x p1) X.env:=by rfl)
  (hline:(apos.endLine==cpos.line)=true:=by rfl)
  (hs:swapsWith (.Call (.Attribute (.Name x p1) "reverse" apos) [] [] cpos) none pos.line X.env=pure false:=by rfl) :
  PS X (.Expr (.Call (.Attribute (.Name x p1) "reverse" apos) [] [] cpos) pos) (tS own (aKb i)):=
 PS.imp (lJ (aHn PySem.F.plainAttrs_list PySem.F.slot_list_reverse PySem.F.type_list_reverse aJ4 (dF hN hv hd hcd) hbase hline) hs) fun D' σ H ⟨ρ,fl,E,h,q⟩=>by
 unfold aKb at h;split at h
 ·rename_i xs hx;cases h;obtain ⟨a,o,hσ,r,hin,ha,hm⟩:=E.ownAt ho (by rw [hx];intro z;cases z);rw [hx] at r hin;obtain ⟨vs,hl,rr⟩:=oU r;have hp:D.aN xs.reverse=true:=JT hin;obtain ⟨E2,k2⟩:=E.mut ho hσ rfl (.lst aG trivial (rr.rev.upd hp hl rfl)) hp;exact ⟨_,hσ,.inl ⟨rfl,vs,.of hl⟩,a,vs,rfl,rfl,hl,q _ _ k2 E2⟩
 ·exact bx h
def aFv (f:FE):FS:=fun ρ=>do
 let d <- f ρ
 match d with
 | .lst xs=>if decide (xs.length<lim) then .ok (.nx ρ) else .bad
 | _=>.bad
theorem aDf {X:Cx} {own:Nat->Bool} {e:Expr} {i:Int} (he:PE X e (gE fe true))
  (hbase:attributeBase e "append" X.env (eval e X.env)=eval e X.env:=by rfl)
  (hs1:starEach [.Constant (.int i) ji pi] X.env=(false,eval (.Constant (.int i) ji pi) X.env)::starEach [] X.env:=by rfl)
  (hfew:((backTo cpos (starEach [.Constant (.int i) ji pi] X.env)).all (fun x=>!x.1)&&(backToKw cpos (keywordEach [] X.env)).all (fun x=>x.1.isSome)
   && decide (([.Constant (.int i) ji pi]:List Expr).length+([]:List Keyword).length+(if ([]:List Keyword).isEmpty then 0 else 1)<30))=true:=by rfl)
  (hline:(apos.endLine==cpos.line)=true:=by rfl)
  (hs:swapsWith (.Call (.Attribute e "append" apos) [.Constant (.int i) ji pi] [] cpos) none pos.line X.env=pure false:=by rfl) :
  PS X (.Expr (.Call (.Attribute e "append" apos) [.Constant (.int i) ji pi] [] cpos) pos) (tS own (aFv fe)):=
 PS.imp (lJ (aHo PySem.F.plainAttrs_list PySem.F.slot_list_append PySem.F.type_list_append xV he (cA aCo lD hs1) hbase hfew hline hs1 rfl) hs) fun D' σ H ⟨ρ,fl,E,h,q⟩=>by
 obtain ⟨d,h1,h2⟩:=bA h;split at h2
 ·rename_i xs;split at h2
  ·rename_i hk;cases h2;refine ⟨ρ,_,E.er,h1,fun v H1 s1 r1 n1=>?_⟩;obtain ⟨a,vs,rfl,hl,ha,rr⟩:=(n1 rfl).inv;refine ⟨.inl ⟨rfl,vs,.of hl⟩,a,vs,_,rfl,rfl,hl,by rw [rr.length];exact X8 hk,?_⟩;have ha:H a=none:=ha;have s2:bV H (upd H1 a (.lst (vs++[V.int i]))):=fun b o e=>by
    rw [aR (fun z=>by subst z;rw [ha] at e;cases e)];exact s1 b o e
   exact q _ _ (.same s2) (E.same s2)
  ·exact bx h2
 ·exact bx h2
end Mi
namespace Wx
open PySem PySem.Spec
open Wz
noncomputable abbrev liO (t:Addr) (i:Nat):Obj:={cls:=.type "list_iterator",data:=.fields #[.ref t,.int i 0]}
noncomputable abbrev lsO (xs:Array Value) (n:Nat) (dd:Option Addr) (sl:Array (Option Value)):Obj:={cls:=.type "list",dict:=dd,data:=.seq xs n,slots:=sl}
theorem O7 (it t:Addr) (i:Nat) (xs:Array Value) (n:Nat) (dd:Option Addr) (sl:Array (Option Value)) (x:Value) (hx:xs[i]?=some x) :
  Meets (Builtin.«list_iterator.__next__» ⟨[.ref it],[]⟩) (fun _ R s=>s.heap.get? it=some (liO t i)/\s.heap.get? t=some (lsO xs n dd sl)/\R (.ok (.ret x)) {s with heap:=s.heap.update it (Obj.mapFields (·.setIfInBounds 1 (rawInt (i+1))))}):=.of_wp fun prog w A R s hs=>by
 obtain ⟨hp,g,d,tk,os⟩:=s;obtain ⟨e1,e2,hq⟩:=hs
 wp_walk
 rw [Int.toNat_natCast,hx]
 wp_walk
 exact ⟨_,rfl,hq⟩
section
variable {prog:Program} {w:World} {A:Around} {E:Value->Shared->Prop} {s:Shared} {it t:Addr} {i:Nat} {xs:Array Value} {x:Value} {n:Nat} {dd:Option Addr} {sl:Array (Option Value)}
theorem aDg {Q:Value->Shared->Prop} (e1:s.heap.get? it=some (liO t i)) (e2:s.heap.get? t=some (lsO xs n dd sl)) (hx:xs[i]?=some x)
  (q:∀h',h'.get? it=some (liO t (i+1))->Heap.SameBut it s.heap h'->Q x {s with heap:=h'}):wpAny (model prog w) A (Builtin.SmallTypes.nextOf (.ref it)) Q E s:=by
 have ty:s.TypeIs (.ref it) "list_iterator":=⟨_,e1,rfl⟩
 refine wpAny_bind (wpAny_callSpecial?_slot ty slot_listiter_next ?_);refine call_meets slot_listiter_next ty entry_listiter_next (args_listiter_next _) (O7 it t i xs n dd sl x hx) ⟨e1,e2,wpAny_pure (q _ ?_ (Heap.SameBut.update ..))⟩;exact Heap.get?_update_self _ e1 rfl
theorem aJ6 {Q:Value->Shared->Prop} (hh:A.handled=none) (e1:s.heap.get? it=some (liO t i)) (e2:s.heap.get? t=some (lsO xs n dd sl)) (hx:xs[i]?=none)
  (q:∀h' e,Heap.ExtBut it s.heap h'->(∃o,h'.get? e=some o/\o.cls=.type "StopIteration")->E (.ref e) {s with heap:=h'}):wpAny (model prog w) A (Builtin.SmallTypes.nextOf (.ref it)) Q E s:=
 wpAny_nextOf_list_end hh ⟨_,e1,rfl,rfl⟩ ⟨_,e2,rfl,n,rfl⟩ hx q
end
structure W (z TI TO i1 i2 l1 l2:Addr) (o1 o2:Obj) (f0 f1 a b:Value) (k1 k2:Nat) (h:Heap):Prop where
 z_:h.get? z=some (zpO f0 f1 TI TO)
 ti:h.get? TI=some (prO (.ref i1) (.ref i2))
 to:h.get? TO=some (prO a b)
 j1:h.get? i1=some (liO l1 k1)
 j2:h.get? i2=some (itO l2 k2)
 t1:h.get? l1=some o1
 t2:h.get? l2=some o2
section
variable {z TI TO i1 i2 l1 l2:Addr} {o1 o2:Obj} {f0 f1 g0 g1 a b c d:Value} {k1 k2:Nat} {h h':Heap}
theorem W.onZ (x:W z TI TO i1 i2 l1 l2 o1 o2 f0 f1 a b k1 k2 h) (ap:Apart z TI TO i1 i2 l1 l2) (e:h'.get? z=some (zpO g0 g1 TI TO)) (k:Heap.SameBut z h h'):W z TI TO i1 i2 l1 l2 o1 o2 g0 g1 a b k1 k2 h':=
 ⟨e,(k.2 _ ap.zTI.symm).trans x.ti,(k.2 _ ap.zTO.symm).trans x.to,(k.2 _ ap.z1.symm).trans x.j1,(k.2 _ ap.z2.symm).trans x.j2,(k.2 _ ap.zl.symm).trans x.t1,(k.2 _ ap.zm.symm).trans x.t2⟩
theorem W.onT (x:W z TI TO i1 i2 l1 l2 o1 o2 f0 f1 a b k1 k2 h) (ap:Apart z TI TO i1 i2 l1 l2) (e:h'.get? TO=some (prO c d)) (k:Heap.SameBut TO h h'):W z TI TO i1 i2 l1 l2 o1 o2 f0 f1 c d k1 k2 h':=
 ⟨(k.2 _ ap.zTO).trans x.z_,(k.2 _ ap.TT).trans x.ti,e,(k.2 _ ap.O1.symm).trans x.j1,(k.2 _ ap.O2.symm).trans x.j2,(k.2 _ ap.Ol.symm).trans x.t1,(k.2 _ ap.Om.symm).trans x.t2⟩
theorem W.on1 {k:Nat} (x:W z TI TO i1 i2 l1 l2 o1 o2 f0 f1 a b k1 k2 h) (ap:Apart z TI TO i1 i2 l1 l2) (e:h'.get? i1=some (liO l1 k)) (s:Heap.SameBut i1 h h'):W z TI TO i1 i2 l1 l2 o1 o2 f0 f1 a b k k2 h':=
 ⟨(s.2 _ ap.z1).trans x.z_,(s.2 _ ap.T1).trans x.ti,(s.2 _ ap.O1).trans x.to,e,(s.2 _ ap.ij.symm).trans x.j2,(s.2 _ ap.il.symm).trans x.t1,(s.2 _ ap.im.symm).trans x.t2⟩
theorem W.on2 {k:Nat} (x:W z TI TO i1 i2 l1 l2 o1 o2 f0 f1 a b k1 k2 h) (ap:Apart z TI TO i1 i2 l1 l2) (e:h'.get? i2=some (itO l2 k)) (s:Heap.SameBut i2 h h'):W z TI TO i1 i2 l1 l2 o1 o2 f0 f1 a b k1 k h':=
 ⟨(s.2 _ ap.z2).trans x.z_,(s.2 _ ap.T2).trans x.ti,(s.2 _ ap.O2).trans x.to,(s.2 _ ap.ij).trans x.j1,e,(s.2 _ ap.jl.symm).trans x.t1,(s.2 _ ap.jm.symm).trans x.t2⟩
theorem W.up (x:W z TI TO i1 i2 l1 l2 o1 o2 f0 f1 a b k1 k2 h) (k:∀c o,c=z\/c=TI\/c=TO\/c=i1\/c=i2\/c=l1\/c=l2->h.get? c=some o->h'.get? c=some o):W z TI TO i1 i2 l1 l2 o1 o2 f0 f1 a b k1 k2 h':=
 ⟨k _ _ (by simp) x.z_,k _ _ (by simp) x.ti,k _ _ (by simp) x.to,k _ _ (by simp) x.j1,k _ _ (by simp) x.j2,k _ _ (by simp) x.t1,k _ _ (by simp) x.t2⟩
end
section
variable {s:Shared} {z TI TO i1 i2 l1 l2:Addr} {f0 f1 a b:Value}
theorem W.ty {o1 o2:Obj} {k1 k2:Nat} (hw:W z TI TO i1 i2 l1 l2 o1 o2 f0 f1 a b k1 k2 s.heap):s.TypeIs (.ref z) "zip":=⟨_,hw.z_,rfl⟩
end
section
variable {prog:Program} {w:World} {A:Around} {E:Value->Shared->Prop} {s:Shared} {z TI TO i1 i2 l1 l2:Addr} {n1 n2:Nat} {d1 d2:Option Addr} {s1 s2:Array (Option Value)} {f0 f1 a b x y:Value} {k:Nat} {xs ys:Array Value}
theorem keptAt {o1 o2:Obj} {k1 k2:Nat} {Q:Unit->Shared->Prop} (j:Nat) (v c d:Value) (hw:W z TI TO i1 i2 l1 l2 o1 o2 f0 f1 a b k1 k2 s.heap) (ap:Apart z TI TO i1 i2 l1 l2) (hj:(#[a,b]:Array Value).setIfInBounds j v=#[c,d])
  (q:∀h',W z TI TO i1 i2 l1 l2 o1 o2 f0 f1 c d k1 k2 h'->Heap.SameBut TO s.heap h'->Q () {s with heap:=h'}):wpAny (model prog w) A (updateSeq TO (·.setIfInBounds j v)) Q E s:=
 wpAny_updateSeq_pair hw.to fun h' e sb=>q h' (hw.onT ap (by rw [e,hj]) sb) sb
theorem first {Q:Value->Shared->Prop} (ap:Apart z TI TO i1 i2 l1 l2) (hw:W z TI TO i1 i2 l1 l2 (lsO xs n1 d1 s1) (tuO ys n2 d2 s2) .none (.bool false) a b k k s.heap) (hx:xs[k]?=some x) (hy:ys[k]?=some y)
  (q:∀(h':Heap) (p:Addr),W z TI TO i1 i2 l1 l2 (lsO xs n1 d1 s1) (tuO ys n2 d2 s2) (rawInt p) (.bool false) x y (k+1) (k+1) h'->h'.get? p=some (prO x y)->p=s.heap.objs.size->aBj z TO i1 i2 s.heap h'->Q (.ref p) {s with heap:=h'}) :
  wpAny (model prog w) A (nxt z) (Got Q) E s:=by
 refine wpAny_bind (m:=field (.ref z) 2) (wpAny_field hw.z_ rfl (x:=.bool false) rfl (wpAny_bind (m:=field (.ref z) 3) (wpAny_field hw.z_ rfl (x:=.ref TI) rfl (wpAny_bind (wpAny_seqItems hw.ti rfl ?_)))));refine wpAny_bind (m:=Builtin.SmallTypes.ownedTupleIsFree (.ref z)) (wpAny_bind (wpAny_field hw.z_ rfl (x:=.none) rfl (wpAny_pure ?_)));rw [if_pos rfl];refine wpAny_bind (wpAny_rule (wpAny_bind (wpAny_field hw.z_ rfl (x:=.ref TO) rfl (wpAny_bind (wpAny_setField_rec hw.z_ (by simp) fun h1 e1 k1=>?_)))));have w1:W z TI TO i1 i2 l1 l2 (lsO xs n1 d1 s1) (tuO ys n2 d2 s2) .ellipsis (.bool false) a b k k h1:=hw.onZ ap e1 k1;simp only [List.zipIdx_cons,List.zipIdx_nil,List.forIn_cons,List.forIn_nil];refine wpAny_bind (wpAny_bind (wpAny_bind (wpAny_onRaise (wpAny_bind (m:=Builtin.SmallTypes.nextOf (.ref i1)) (aDg w1.j1 w1.t1 hx fun h2 e2 k2=>wpAny_pure ?_)))));have w2:=w1.on1 ap e2 k2;refine wpAny_bind (wpAny_seqItems w2.to rfl (wpAny_bind (keptAt 0 x x b w2 ap rfl fun h3 w3 k3=>wpAny_bind (wpAny_letGo (wpAny_pure ?_)))));refine wpAny_bind (wpAny_bind (wpAny_onRaise (wpAny_bind (m:=Builtin.SmallTypes.nextOf (.ref i2)) (drawn w3.j2 w3.t2 hy fun h4 e4 k4=>wpAny_pure ?_))));have w4:=w3.on2 ap e4 k4;refine wpAny_bind (wpAny_seqItems w4.to rfl (wpAny_bind (keptAt 1 y x y w4 ap rfl fun h5 w5 k5=>wpAny_bind (wpAny_letGo (wpAny_pure (wpAny_pure ?_))))));have sd:aBj z TO i1 i2 s.heap h5:=fun c o c1 c2 c3 c4 e=>(k5.2 c c2).trans ((k4.2 c c4).trans ((k3.2 c c2).trans ((k2.2 c c3).trans ((k1.2 c c1).trans e))))
 have sz:h5.objs.size=s.heap.objs.size:=by rw [k5.1,k4.1,k3.1,k2.1,k1.1]
 refine wpAny_bind (wpAny_seqItems w5.to rfl (wpAny_bind (wpAny_newTuple ?_)));have w6:W z TI TO i1 i2 l1 l2 (lsO xs n1 d1 s1) (tuO ys n2 d2 s2) .ellipsis (.bool false) x y (k+1) (k+1) (h5.push (prO x y)):=w5.up fun c o _ e=>Heap.get?_push_of_some _ e
 refine wpAny_bind (m:=Builtin.SmallTypes.ownedTupleHandOut (.ref z) (.ref h5.objs.size)) (wpAny_bind (wpAny_setField_rec w6.z_ (by simp) fun h7 e7 k7=>?_));have w7:W z TI TO i1 i2 l1 l2 (lsO xs n1 d1 s1) (tuO ys n2 d2 s2) (rawInt h5.objs.size) (.bool false) x y (k+1) (k+1) h7:=w6.onZ ap e7 k7;refine wpAny_setField_rec w7.z_ (by simp) fun h8 e8 k8=>wpAny_pure ⟨_,rfl,?_⟩
 have w8:W z TI TO i1 i2 l1 l2 (lsO xs n1 d1 s1) (tuO ys n2 d2 s2) (rawInt h5.objs.size) (.bool false) x y (k+1) (k+1) h8:=w7.onZ ap e8 k8;have nz:h5.objs.size≠z:=Nat.ne_of_gt (Heap.lt_size w5.z_);exact q h8 _ w8 ((k8.2 _ nz).trans ((k7.2 _ nz).trans (Heap.get?_push_size _ rfl))) sz fun c o c1 c2 c3 c4 e=>(k8.2 c c1).trans ((k7.2 c c1).trans (Heap.get?_push_of_some _ (sd c o c1 c2 c3 c4 e)))
theorem aBv {Q:Fin->Shared->Prop} (hh:A.handled=none) (ap:Apart z TI TO i1 i2 l1 l2) (hw:W z TI TO i1 i2 l1 l2 (lsO xs n1 d1 s1) (tuO ys n2 d2 s2) .none (.bool false) a b k k s.heap) (hx:xs[k]?=none)
  (q:∀h' e,aBj z TO i1 i2 s.heap h'->(∃o,h'.get? e=some o/\o.cls=.type "StopIteration")->E (.ref e) {s with heap:=h'}) :
  wpAny (model prog w) A (nxt z) Q E s:=by
 refine wpAny_bind (m:=field (.ref z) 2) (wpAny_field hw.z_ rfl (x:=.bool false) rfl (wpAny_bind (m:=field (.ref z) 3) (wpAny_field hw.z_ rfl (x:=.ref TI) rfl (wpAny_bind (wpAny_seqItems hw.ti rfl ?_)))));refine wpAny_bind (m:=Builtin.SmallTypes.ownedTupleIsFree (.ref z)) (wpAny_bind (wpAny_field hw.z_ rfl (x:=.none) rfl (wpAny_pure ?_)));rw [if_pos rfl];refine wpAny_bind (wpAny_rule (wpAny_bind (wpAny_field hw.z_ rfl (x:=.ref TO) rfl (wpAny_bind (wpAny_setField_rec hw.z_ (by simp) fun h1 e1 k1=>?_)))));have w1:W z TI TO i1 i2 l1 l2 (lsO xs n1 d1 s1) (tuO ys n2 d2 s2) .ellipsis (.bool false) a b k k h1:=hw.onZ ap e1 k1;simp only [List.zipIdx_cons,List.zipIdx_nil,List.forIn_cons,List.forIn_nil];refine wpAny_bind (wpAny_bind (wpAny_bind (wpAny_onRaise (wpAny_bind (m:=Builtin.SmallTypes.nextOf (.ref i1)) (aJ6 hh w1.j1 w1.t1 hx fun h2 e k2 he=>?_)))));obtain ⟨oe,he,hc⟩:=he;have ez:h2.get? z=some (zpO .ellipsis (.bool false) TI TO):=k2 _ _ ap.z1 w1.z_;have hez:e≠z:=fun v=>by
  rw [v,ez] at he;cases he;exact absurd (show Value.type "zip" = Value.type "StopIteration" from hc) (by decide)
 exact wpAny_setField_rec ez (by simp) fun h3 _ k3=>q h3 e (fun c o c1 _ c3 _ v=>(k3.2 c c1).trans (k2 c o c3 ((k1.2 c c1).trans v))) ⟨oe,(k3.2 e hez).trans he,hc⟩
theorem taken {o1 o2 oT:Obj} {k1 k2:Nat} {T:Addr} {bb:Bool} {Q:Bool->Shared->Prop} (ap:Apart z TI TO i1 i2 l1 l2) (hw:W z TI TO i1 i2 l1 l2 o1 o2 (rawInt T) (.bool bb) a b k1 k2 s.heap) (hT:s.heap.get? T=some oT)
  (q:∀h',W z TI TO i1 i2 l1 l2 o1 o2 (rawInt T) (.bool true) a b k1 k2 h'->Heap.SameBut z s.heap h'->Q false {s with heap:=h'}):wpAny (model prog w) A (Builtin.SmallTypes.ownedTupleIsFree (.ref z)) Q E s:=by
 refine wpAny_bind (wpAny_field hw.z_ rfl (x:=rawInt T) rfl (wpAny_bind (m:=loadIfAlive T) (there hT ?_)));refine wpAny_bind (wpAny_field hw.z_ rfl (x:=.bool bb) rfl ?_);cases bb
 ·exact wpAny_bind (wpAny_setField_rec hw.z_ (by simp) fun h1 e1 k1=>wpAny_pure (q h1 (hw.onZ ap e1 k1) k1))
 ·exact wpAny_pure (q _ hw (Heap.SameBut.refl _ _))
theorem more {T:Addr} {bb:Bool} {oT:Obj} {Q:Value->Shared->Prop} (ap:Apart z TI TO i1 i2 l1 l2) (hw:W z TI TO i1 i2 l1 l2 (lsO xs n1 d1 s1) (tuO ys n2 d2 s2) (rawInt T) (.bool bb) a b k k s.heap) (hT:s.heap.get? T=some oT) (hx:xs[k]?=some x) (hy:ys[k]?=some y)
  (q:∀h' p,W z TI TO i1 i2 l1 l2 (lsO xs n1 d1 s1) (tuO ys n2 d2 s2) (rawInt T) (.bool true) a b (k+1) (k+1) h'->h'.get? p=some (prO x y)->aBj z TO i1 i2 s.heap h'->Q (.ref p) {s with heap:=h'}) :
  wpAny (model prog w) A (nxt z) (Got Q) E s:=by
 refine wpAny_bind (m:=field (.ref z) 2) (wpAny_field hw.z_ rfl (x:=.bool false) rfl (wpAny_bind (m:=field (.ref z) 3) (wpAny_field hw.z_ rfl (x:=.ref TI) rfl (wpAny_bind (wpAny_seqItems hw.ti rfl ?_)))));refine wpAny_bind (m:=Builtin.SmallTypes.ownedTupleIsFree (.ref z)) (taken ap hw hT fun h1 w1 k1=>?_);rw [if_neg Bool.false_ne_true];dsimp only;rw [<-Array.forIn_toList];simp only [List.forIn_cons,List.forIn_nil];refine wpAny_bind (wpAny_bind (wpAny_bind (wpAny_holding (wpAny_bind (m:=Builtin.SmallTypes.nextOf (.ref i1)) (aDg w1.j1 w1.t1 hx fun h2 e2 k2=>wpAny_pure (wpAny_pure ?_))))));have w2:=w1.on1 ap e2 k2;refine wpAny_bind (wpAny_bind (wpAny_holding (wpAny_bind (m:=Builtin.SmallTypes.nextOf (.ref i2)) (drawn w2.j2 w2.t2 hy fun h3 e3 k3=>wpAny_pure (wpAny_pure (wpAny_pure ?_))))));have w3:=w2.on2 ap e3 k3;refine wpAny_bind (wpAny_newTuple (wpAny_pure ⟨_,rfl,?_⟩) (hsz:=by show (2:Nat)<=sizeLine;decide));exact q _ _ (w3.up fun c o _ e=>Heap.get?_push_of_some _ e) (Heap.get?_push_size _ rfl) fun c o c1 c2 c3 c4 e=>Heap.get?_push_of_some _ ((k3.2 c c4).trans ((k2.2 c c3).trans ((k1.2 c c1).trans e)))
theorem aFw {T:Addr} {bb:Bool} {oT:Obj} {Q:Fin->Shared->Prop} (hh:A.handled=none) (ap:Apart z TI TO i1 i2 l1 l2) (hw:W z TI TO i1 i2 l1 l2 (lsO xs n1 d1 s1) (tuO ys n2 d2 s2) (rawInt T) (.bool bb) a b k k s.heap) (hT:s.heap.get? T=some oT) (hx:xs[k]?=none)
  (q:∀h' e,aBj z TO i1 i2 s.heap h'->(∃o,h'.get? e=some o/\o.cls=.type "StopIteration")->E (.ref e) {s with heap:=h'}) :
  wpAny (model prog w) A (nxt z) Q E s:=by
 refine wpAny_bind (m:=field (.ref z) 2) (wpAny_field hw.z_ rfl (x:=.bool false) rfl (wpAny_bind (m:=field (.ref z) 3) (wpAny_field hw.z_ rfl (x:=.ref TI) rfl (wpAny_bind (wpAny_seqItems hw.ti rfl ?_)))));refine wpAny_bind (m:=Builtin.SmallTypes.ownedTupleIsFree (.ref z)) (taken ap hw hT fun h1 w1 k1=>?_);rw [if_neg Bool.false_ne_true];dsimp only;rw [<-Array.forIn_toList];simp only [List.forIn_cons,List.forIn_nil];exact wpAny_bind (wpAny_bind (wpAny_bind (wpAny_holding (wpAny_bind (m:=Builtin.SmallTypes.nextOf (.ref i1)) (aJ6 hh w1.j1 w1.t1 hx fun h2 e k2 he=>q h2 e (fun c o c1 _ c3 _ v=>k2 c o c3 ((k1.2 c c1).trans v)) he)))))
end
theorem ZR (t u:Addr) (xs ys:Array Value) :
  Meets (Builtin.«zip.__new__» ⟨[.type "zip",.ref t,.ref u],[]⟩) (fun _ R s=>s.heap.IsList t xs/\s.heap.IsTuple u ys/\∀h' n,n=s.heap.objs.size->h'.get? n=some (liO t 0)->h'.get? (n+1)=some (itO u 0)->h'.get? (n+2)=some (prO (.ref n) (.ref (n+1)))->h'.get? (n+3)=some (prO .none .none)->h'.get? (n+4)=some (zpO .none (.bool false) (n+2) (n+3))->
   (∀x o,s.heap.get? x=some o->h'.get? x=some o)->h'.objs.size=n+5->R (.ok (.ret (.ref (n+4)))) {s with heap:=h'}):=
 .of_wp fun prog w A R s hs=>by
  obtain ⟨hp,g,d,tk,os⟩:=s;obtain ⟨ht,hu,q⟩:=hs;have sub:=sub_zip;have p1:Heap.IsList (Shared.heap ⟨hp,g,d,tk,os⟩) t xs:=ht;have p2:Heap.IsTuple (Shared.heap ⟨hp.push {cls:=.type "list_iterator",data:=.fields #[.ref t,.int 0 0]},g,d,tk,os⟩) u ys:=Heap.IsTuple.push hu _;have f:=five hp (liO t 0) (itO u 0) (prO (.ref hp.objs.size) (.ref (hp.objs.size+1))) (prO .none .none) (zpO .none (.bool false) (hp.objs.size+2) (hp.objs.size+3)) rfl rfl rfl rfl rfl
  wp_walk using wpAny_pyIter_list p1,wpAny_pyIter_tuple p2
  refine ⟨_,rfl,?_⟩;have fin:=q _ hp.objs.size rfl f.1 f.2.1 f.2.2.1 f.2.2.2.1 f.2.2.2.2.1 f.2.2.2.2.2.1 f.2.2.2.2.2.2;have gen:∀m1 m2 m3 m4:Nat,m1=hp.objs.size+1->m2=hp.objs.size+2->m3=hp.objs.size+3->m4=hp.objs.size+4->R (.ok (.ret (.ref m4))) ⟨((((hp.push (liO t 0)).push (itO u 0)).push (prO (.ref hp.objs.size) (.ref m1))).push (prO .none .none)).push (zpO .none (.bool false) m2 m3),g,d,tk,os⟩:=by
   intro m1 m2 m3 m4 q1 q2 q3 q4;subst q1 q2 q3 q4;exact fin
  exact gen _ _ _ _ (Heap.size_push ..) ((Heap.size_push ..).trans (congrArg (·+1) (Heap.size_push ..))) ((Heap.size_push ..).trans (congrArg (·+1) ((Heap.size_push ..).trans (congrArg (·+1) (Heap.size_push ..))))) ((Heap.size_push ..).trans (congrArg (·+1) ((Heap.size_push ..).trans (congrArg (·+1) ((Heap.size_push ..).trans (congrArg (·+1) (Heap.size_push ..)))))))
section
variable {prog:Program} {w:World} {A:Around} {E:Value->Shared->Prop} {s:Shared}
theorem aJ7 {t u:Addr} {xs ys:Array Value} {Q:Value->Shared->Prop} (ht:s.heap.IsList t xs) (hu:s.heap.IsTuple u ys)
  (q:∀h' n,n=s.heap.objs.size->h'.get? n=some (liO t 0)->h'.get? (n+1)=some (itO u 0)->h'.get? (n+2)=some (prO (.ref n) (.ref (n+1)))->h'.get? (n+3)=some (prO .none .none)->h'.get? (n+4)=some (zpO .none (.bool false) (n+2) (n+3))->
   (∀x o,s.heap.get? x=some o->h'.get? x=some o)->h'.objs.size=n+5->Q (.ref (n+4)) {s with heap:=h'}) :
  wpAny (model prog w) A (call (.type "zip") [.ref t,.ref u]) Q E s:=
 callType_new F.called_zip (by decide) (F.typeCall_zip_2 _ _) (F.newCall_zip_2 _ _) (fun obj=>F.args_object_init_3 obj _ _) F.entry_zip_new (ZR t u xs ys)
  ⟨ht,hu,fun h' n e a1 a2 a3 a4 a5 k z=>⟨⟨_,a5,rfl⟩,q h' n e a1 a2 a3 a4 a5 k z⟩⟩
end
def ZS (z TI TO i1 i2 l1 l2:Addr) (o1 o2:Obj) (k:Nat) (h:Heap):Prop:=∃f0 f1 a b,W z TI TO i1 i2 l1 l2 o1 o2 f0 f1 a b k k h/\
 ((f0=.none/\f1=.bool false)\/∃(T:Addr) (bb:Bool) (u v:Value),f0=rawInt T/\f1=.bool bb/\h.get? T=some (prO u v)/\T≠z/\T≠TO/\T≠i1/\T≠i2)
section
variable {prog:Program} {w:World} {A:Around} {E:Value->Shared->Prop} {s:Shared} {z TI TO i1 i2 l1 l2 d:Addr} {n1 n2:Nat} {d1 d2:Option Addr} {s1 s2:Array (Option Value)} {x y:Value} {k:Nat} {xs ys:Array Value}
theorem ZS.keep {h h':Heap} {od:Obj} (Z:ZS z TI TO i1 i2 l1 l2 (lsO xs n1 d1 s1) (tuO ys n2 d2 s2) k h) (ed:h.get? d=some od) (hd:od.cls=.type "dict") (e:∀c o,c≠d->h.get? c=some o->h'.get? c=some o):ZS z TI TO i1 i2 l1 l2 (lsO xs n1 d1 s1) (tuO ys n2 d2 s2) k h':=by
 obtain ⟨f0,f1,a,b,hw,hf⟩:=Z;refine ⟨f0,f1,a,b,⟨e _ _ (Wz.apart hw.z_ rfl ed hd (by decide)) hw.z_,e _ _ (Wz.apart hw.ti rfl ed hd (by decide)) hw.ti,e _ _ (Wz.apart hw.to rfl ed hd (by decide)) hw.to,e _ _ (Wz.apart hw.j1 rfl ed hd (by decide)) hw.j1,e _ _ (Wz.apart hw.j2 rfl ed hd (by decide)) hw.j2,e _ _ (Wz.apart hw.t1 rfl ed hd (by decide)) hw.t1,e _ _ (Wz.apart hw.t2 rfl ed hd (by decide)) hw.t2⟩,?_⟩;rcases hf with hf|⟨T,bb,u,v,h1,h2,h3,h4⟩
 ·exact .inl hf
 ·exact .inr ⟨T,bb,u,v,h1,h2,e _ _ (Wz.apart h3 rfl ed hd (by decide)) h3,h4⟩
theorem aFx {Q:Option Value->Shared->Prop} (ap:Apart z TI TO i1 i2 l1 l2) (Z:ZS z TI TO i1 i2 l1 l2 (lsO xs n1 d1 s1) (tuO ys n2 d2 s2) k s.heap) (hx:xs[k]?=some x) (hy:ys[k]?=some y)
  (q:∀h' p,ZS z TI TO i1 i2 l1 l2 (lsO xs n1 d1 s1) (tuO ys n2 d2 s2) (k+1) h'->h'.get? p=some (prO x y)->aBj z TO i1 i2 s.heap h'->Q (some (.ref p)) {s with heap:=h'}):wpAny (model prog w) A (pyNext (.ref z)) Q E s:=by
 obtain ⟨f0,f1,a,b,hw,hf⟩:=Z;refine wpAny_bind (wpAny_attempt (wpAny_callSpecial?_slot hw.ty F.slot_zip_next (wpAny_call_entry F.slot_zip_next hw.ty F.entry_zip_next ?_ (F.args_zip_next_1 _))));rcases hf with ⟨rfl,rfl⟩|⟨T,bb,u,v,rfl,rfl,hT,t1,t2,t3,t4⟩
 ·refine first ap hw hx hy fun h' p w' ep pp sd=>wpAny_pure (q h' p ⟨_,_,_,_,w',.inr ⟨p,false,x,y,rfl,rfl,ep,?_⟩⟩ ep sd)
  subst pp;have lt:∀{c o},s.heap.get? c=some o->s.heap.objs.size≠c:=fun e=>Nat.ne_of_gt (Heap.lt_size e)
  exact ⟨lt hw.z_,lt hw.to,lt hw.j1,lt hw.j2⟩
 ·exact more ap hw hT hx hy fun h' p w' ep sd=>wpAny_pure (q h' p ⟨_,_,_,_,w',.inr ⟨T,true,u,v,rfl,rfl,sd _ _ t1 t2 t3 t4 hT,t1,t2,t3,t4⟩⟩ ep sd)
theorem aJ8 {Q:Option Value->Shared->Prop} (hh:A.handled=none) (ap:Apart z TI TO i1 i2 l1 l2) (Z:ZS z TI TO i1 i2 l1 l2 (lsO xs n1 d1 s1) (tuO ys n2 d2 s2) k s.heap) (hx:xs[k]?=none)
  (q:∀h',aBj z TO i1 i2 s.heap h'->Q none {s with heap:=h'}):wpAny (model prog w) A (pyNext (.ref z)) Q E s:=by
 obtain ⟨f0,f1,a,b,hw,hf⟩:=Z;refine wpAny_bind (wpAny_attempt (wpAny_callSpecial?_slot hw.ty F.slot_zip_next (wpAny_call_entry F.slot_zip_next hw.ty F.entry_zip_next ?_ (F.args_zip_next_1 _))));have stop:∀h' e,aBj z TO i1 i2 s.heap h'->(∃o,h'.get? e=some o/\o.cls=.type "StopIteration")->wpAny (model prog w) A (do if <- isInstance (.ref e) (.type "StopIteration") then pure none else throw (.ref e)) Q E {s with heap:=h'}:=fun h' e sd he=>wpAny_bind (wpAny_isInstance (T := "StopIteration") (b:=true) he isSubtype_stop (wpAny_pure (q h' sd)))
 rcases hf with ⟨rfl,rfl⟩|⟨T,bb,u,v,rfl,rfl,hT,_⟩
 ·exact aBv hh ap hw hx fun h' e sd he=>stop h' e sd he
 ·exact aFw hh ap hw hT hx fun h' e sd he=>stop h' e sd he
end
section
variable {prog:Program} {w:World} {K:Type} [DecidableEq K] {knd:KeyKind prog w K} {A:Around} {R:Except Value Flow->Shared->Prop} {z TI TO i1 i2 l1 l2 d:Addr} {n1 n2:Nat} {d1 d2:Option Addr} {s1 s2:Array (Option Value)} {xs ys:Array Value} {ks:List K}
theorem F_ (hh:A.handled=none) (ap:Apart z TI TO i1 i2 l1 l2) (hdz:d≠z) (hdT:d≠TO) (hd1:d≠i1) (hd2:d≠i2) (hsz:ys.size=xs.size) (hk:∀(i:Nat) (x:Value),xs[i]?=some x->∃k,ks[i]?=some k/\knd.is k x=true) :
  ∀(m k:Nat) (s:Shared) (kvs:List (K×Value)),k+m=xs.size->kvs.length+m<=sizeLine->ZS z TI TO i1 i2 l1 l2 (lsO xs n1 d1 s1) (tuO ys n2 d2 s2) k s.heap->s.heap.DictOf knd d kvs->
  (∀h' tk,h'.DictOf knd d (merged kvs ((ks.zip ys.toList).drop k))->(∀c o,c≠d->c≠z->c≠TO->c≠i1->c≠i2->s.heap.get? c=some o->h'.get? c=some o)->R (.ok (.ret .none)) {s with heap:=h',toks:=tk})->
  codeAny (model prog w) A (.builtin "dict.update.loop" ⟨[.ref d,.ref z,rawInt k,.none],[]⟩) R s:=by
 intro m;induction m with
 | zero=>
  intro k s kvs hkm hl Z hd q;refine codeAny_builtin oV ?_;rw [Around.under_plainId (show plainId "dict.update.loop" = true by decide +kernel) _];refine wpAny_bind (m:=pyNext (.ref z)) (aJ8 hh ap Z (Array.getElem?_eq_none (by lia)) fun h' kp=>?_);refine wpAny_bind (m:=Builtin.Dict.addKeywords d []) ?_;unfold Builtin.Dict.addKeywords;rw [List.forIn_nil];refine wpAny_bind (wpAny_pure (wpAny_pure (wpAny_pure ?_)));have e:(ks.zip ys.toList).drop k=[]:=List.drop_eq_nil_of_le (by rw [List.length_zip];have:ys.toList.length=ys.size:=Array.length_toList;lia);rw [e] at q;obtain ⟨o,es,ep,ho,r⟩:=hd;exact q _ s.toks ⟨o,es,ep,kp d o hdz hdT hd1 hd2 ho,r⟩ fun c o _ c1 c2 c3 c4 e=>kp c o c1 c2 c3 c4 e
 | succ m ih=>
  intro k s kvs hkm hl Z hd q;have hlt:k<xs.size:=by lia
  have hlt2:k<ys.size:=by lia
  have hx:xs[k]?=some xs[k]:=Array.getElem?_eq_getElem hlt;have hy:ys[k]?=some ys[k]:=Array.getElem?_eq_getElem hlt2;obtain ⟨key,hkey,his⟩:=hk k _ hx;refine codeAny_builtin oV ?_;rw [Around.under_plainId (show plainId "dict.update.loop" = true by decide +kernel) _];refine wpAny_bind (m:=pyNext (.ref z)) (aFx ap Z hx hy fun h' p Z' hp kp=>?_);refine wpAny_bind (wpAny_holding (wpAny_bind (wpAny_tryCatch ?_)));refine wpAny_bind (wpAny_typeOf (T := "tuple") ⟨_,hp,rfl⟩ ?_);rw [if_pos (by decide)];refine wpAny_bind (wpAny_seqItems hp rfl (wpAny_pure ?_));show wpAny _ _ (holding [xs[k],ys[k]] (dictSet d xs[k] ys[k])) _ _ _;have hd':h'.DictOf knd d kvs:=let ⟨o,es,ep,ho,r⟩:=hd;⟨o,es,ep,kp d o hdz hdT hd1 hd2 ho,r⟩
  obtain ⟨od,es,ep,ho,hc,_⟩:=id hd';refine wpAny_holding (wpAny_dictSet_pairs his hd' (fun h2 hd2' sb=>?_) (by lia));refine wpAny_pure ⟨Code.quiet_builtin _ (by decide +kernel),?_⟩;have ek:(rawInt (k+1):Value)=rawInt ((k+1:Nat):Int):=rfl;rw [ek];have hzip:(ks.zip ys.toList).drop k=(key,ys[k])::(ks.zip ys.toList).drop (k+1):=by
   have hlz:(ks.zip ys.toList)[k]?=some (key,ys[k]):=by
    rw [List.getElem?_zip_eq_some];exact ⟨hkey,by rw [Array.getElem?_toList];exact hy⟩
   obtain ⟨h1,h2⟩:=List.getElem?_eq_some_iff.mp hlz;rw [List.drop_eq_getElem_cons h1,h2]
  have ls:(stored kvs key ys[k]).length<=kvs.length+1:=by
   unfold stored;split
   ·rw [List.length_map];lia
   ·rw [List.length_append];exact Nat.le_refl _
  refine ih (k+1) _ (stored kvs key ys[k]) (by lia) (by lia) (Z'.keep ho hc.1 fun c o hcd e=>(sb.2 c hcd).trans e) hd2' fun h3 tk hd3 kp3=>?_
  refine q h3 tk (by rw [hzip];exact hd3) fun c o c0 c1 c2 c3 c4 e=>kp3 c o c0 c1 c2 c3 c4 ((sb.2 c c0).trans (kp c o c1 c2 c3 c4 e))
end
section
variable {prog:Program} {w:World} {K:Type} [DecidableEq K] {knd:KeyKind prog w K} {A:Around} {E:Value->Shared->Prop} {hp:Heap} {g:Array GenState} {dr:Drawn} {tk:Nat} {os:OsState} {z TI TO i1 i2 l1 l2:Addr} {n1 n2:Nat} {d1 d2:Option Addr} {s1 s2:Array (Option Value)} {xs ys:Array Value} {ks:List K}
theorem aBw {Q:Value->Shared->Prop} (hh:A.handled=none) (ap:Apart z TI TO i1 i2 l1 l2) {a b:Value} (hw:W z TI TO i1 i2 l1 l2 (lsO xs n1 d1 s1) (tuO ys n2 d2 s2) .none (.bool false) a b 0 0 hp) (hsz:ys.size=xs.size) (hxs:xs.size<=1000) (hk:∀(i:Nat) (x:Value),xs[i]?=some x->∃k,ks[i]?=some k/\knd.is k x=true)
  (q:∀h' tk',h'.DictOf knd hp.objs.size (merged [] (ks.zip ys.toList))->aBj z TO i1 i2 hp h'->Q (.ref hp.objs.size) ⟨h',g,dr,tk',os⟩) :
  wpAny (model prog w) A (call (.type "dict") [.ref z]) Q E ⟨hp,g,dr,tk,os⟩:=by
 have hnew:(hp.push {cls:=.type "dict",data:=.dict #[]}).DictOf knd hp.objs.size []:=Heap.DictOf.new hp;have up:∀c o,hp.get? c=some o->(hp.push {cls:=.type "dict",data:=.dict #[]}).get? c=some o:=fun c o e=>Heap.get?_push_of_some _ e
 have lt:∀{c o},hp.get? c=some o->hp.objs.size≠c:=fun e=>Nat.ne_of_gt (Heap.lt_size e)
 refine callType_codes (Q₁:=fun v s₁=>v=.ref hp.objs.size/\s₁=⟨hp.push {cls:=.type "dict",data:=.dict #[]},g,dr,tk,os⟩) F.kt_called_dict (F.kt_typeCall_dict_1 _) F.entry_dict_init (kt_code_dict_new _ ⟨rfl,rfl⟩) fun v s₁ hv=>?_
 obtain ⟨rfl,rfl⟩:=hv;have ty:(⟨hp.push {cls:=.type "dict",data:=.dict #[]},g,dr,tk,os⟩:Shared).TypeIs (.ref hp.objs.size) "dict":=hnew.typeIs;have ez:=up _ _ hw.z_;have tz:(⟨hp.push {cls:=.type "dict",data:=.dict #[]},g,dr,tk,os⟩:Shared).TypeIs (.ref z) "zip":=⟨_,ez,rfl⟩
 refine ⟨ty,F.args_dict_init_2 _ _,wpAny_bind (m:=Builtin.Dict.selfAndRest "__init__" _) (wpAny_bind (wpAny_notOrdered_dict ty (wpAny_pure ?_)))⟩;refine wpAny_bind (m:=typeOf (.ref z)) (wpAny_typeOf tz ?_);rw [if_pos (by decide)];refine wpAny_bind (lacks ez hh fun h' tk' kp=>?_);rw [if_pos (show (none:Option Value).isNone=true from rfl)];refine wpAny_bind (wpAny_rule (wpAny_bind (wpAny_pyIter_zip (TI:=TI) (TO:=TO) (f0:=.none) (kp _ _ ez) (wpAny_pure ⟨Code.quiet_builtin _ (by decide +kernel),?_⟩))));have hd':h'.DictOf knd hp.objs.size []:=let ⟨o,es,ep,ho,r⟩:=hnew;⟨o,es,ep,kp _ _ ho,r⟩
 refine F_ (A:=A.in1) (ks:=ks) (show A.in1.handled=none from hh) ap (lt hw.z_) (lt hw.to) (lt hw.j1) (lt hw.j2) hsz hk xs.size 0 ⟨h',g,dr,tk',os⟩ [] (by lia) (by rw [List.length_nil,sizeLine_eq];lia) ⟨_,_,_,_,hw.up fun c o _ e=>kp c o (up c o e),.inl ⟨rfl,rfl⟩⟩ hd' fun h2 tk2 hd2 kp2=>?_
 exact ⟨rfl,q h2 tk2 hd2 fun c o c1 c2 c3 c4 e=>kp2 c o (fun x=>lt e x.symm) c1 c2 c3 c4 (kp c o (up c o e))⟩
end
end Wx
namespace Mi
open PySem L2 PySem.SeqAt PySem.Spec PyProof.Rows
def yV:List D->Res D
 | [.lst xs,.tup ys]=>if decide (xs.length<=1000)&&decide (ys.length=xs.length)&&xs.all gR&&D.aN ys then .ok (.dct (nJ xs ys [])) else .bad
 | _=>.bad
section
variable [KFrag]
theorem Rep.aNg (r:Rep P H v (.lst ds)):∃a vs,v=.ref a/\H a=some (.lst vs)/\bG P H vs ds:=by
 obtain ⟨_,_,rfl,e,_,r⟩:=r.inv;exact ⟨_,_,rfl,e,r⟩
section
theorem aBx (hg:Gl X "dict") (hm:X.mg "dict" = none) (hg2:Gl X "zip") (hm2:X.mg "zip" = none) (ha:PA X [a,b] (gA fs rr)) (hc:X.calm=true:=by rfl) (hs2:starEach [a,b] X.env=(false,eval a X.env)::starEach [b] X.env:=by rfl) (hpl2:(backTo pos2 (starEach [b] X.env)).any (·.1)=false:=by rfl)
  (hs:starEach [.Call (.Name "zip" p2) [a,b] [] pos2] X.env=(false,eval (.Call (.Name "zip" p2) [a,b] [] pos2) X.env)::starEach [] X.env:=by rfl) :
  PE X (.Call (.Name "dict" p) [.Call (.Name "zip" p2) [a,b] [] pos2] [] pos) (gE (aY yV fs) true):=by
 intro pins s σ H Q I ⟨ρ,d,E,h,q⟩;obtain ⟨xs,h1,h2⟩:=bA h;unfold yV at h2;split at h2
 ·rename_i xs ys;split at h2
  ·rename_i hb;cases h2;simp only [Bool.and_eq_true,decide_eq_true_eq] at hb;obtain ⟨⟨⟨hb1,hb2⟩,hb3⟩,hb4⟩:=hb;refine wpAny_Call_Name_kw (lF I hg hm R1 ?_);refine PyProof.Rows.callWith_type1 ?_ hs rfl;rw [hs];show wpAny _ _ (spliced ((false,eval (.Call (.Name "zip" p2) [a,b] [] pos2) X.env)::backTo pos (starEach [] X.env))) _ _ s;refine Calls.spliced_cons ?_;refine wpAny_Call_Name_kw (lF I hg2 hm2 boot_zip ?_);refine PyProof.Rows.callWith_type1 (thn (ha pos2 pins s σ H (fun vs H1=>bV H H1/\bG All H1 vs [.lst xs,.tup ys]) I ⟨ρ,_,E,h1,fun vs H1 s1 r1 _=>⟨s1,r1⟩⟩) fun us s1 ⟨vs,H1,I1,r1,sm,rp⟩=>?_) hs2 hpl2;cases rp with
   | cons rp1 rp=>
    cases rp with
    | cons rp2 rp=>
     cases rp;obtain ⟨l1,vs1,rfl,e1,rr1⟩:=rp1.aNg;obtain ⟨l2,vs2,rfl,e2,rr2⟩:=rp2.iM;cases r1 with
     | cons q1 r1=>
      cases r1 with
      | cons q2 r1=>
       cases r1;cases q1;cases q2;obtain ⟨its2,w2,p2,_⟩:=I1.tuple (.of e2);obtain ⟨_,its1,m1,w1,g1⟩:=I1.hok _ _ e1;have t2:s1.heap.IsTuple l2 its2.toArray:=p2;have t1:s1.heap.IsList l1 its1.toArray:=⟨_,g1,rfl,_,rfl⟩
       obtain ⟨⟨c2,dd2,da2,sl2⟩,g2,hc2,m2,hd2⟩:=id p2;simp only at hc2 hd2;subst hc2 hd2;have hl1:=Heap.lt_size g1;have hl2:=Heap.lt_size g2;refine Wx.aJ7 t1 t2 fun h' n hn z1 z2 z3 z4 z5 kp zsz=>?_
       subst hn;refine Calls.spliced_nil ?_;have n1:=w1.length;have n2:=w2.length;have m1:=rr1.length;have m2:=rr2.length;obtain ⟨ks,k1,k2,k3⟩:=Y7 rr1 w1 hb3;refine Wx.aBw (I1.ok.hd hc) (Y8 hl1 hl2) ⟨z5,z3,z4,z1,z2,kp _ _ g1,kp _ _ g2⟩ (by simp only [List.size_toArray];lia) (by simp only [List.size_toArray];lia) (fun i u hu=>k3 i u (by simpa using hu)) fun h2 tk dd kp2=>?_
       have hfr:H1 h'.objs.size=none:=I1.hok.fresh (by rw [zsz];lia);have kall:∀c o,s1.heap.get? c=some o->h2.get? c=some o:=fun c o e=>by
        have:=Heap.lt_size e;exact kp2 c o (Nat.ne_of_lt (Nat.lt_of_lt_of_le this (Nat.le_add_right _ 4))) (Nat.ne_of_lt (Nat.lt_of_lt_of_le this (Nat.le_add_right _ 3))) (Nat.ne_of_lt this) (Nat.ne_of_lt (Nat.lt_of_lt_of_le this (Nat.le_add_right _ 1))) (kp c o e)
       have rel:KV (fH [] (ks.zip vs2)) (merged [] (ks.zip its2)):=(aIn w2 ks).merge .nil;have hz:(fH [] (ks.zip vs2)).length<=sizeLine:=by
        have:=kE (ks.zip vs2) [];rw [List.length_nil,List.length_zip] at this;rw [sizeLine_eq];lia
       obtain ⟨rk,nd⟩:=R3 (rr2) gQ.nil List.nodup_nil;rw [k1] at rk;have sp:bV H1 (upd H1 h'.objs.size (.dK (fH [] (ks.zip vs2)))):=bV.upd hfr;have pv:D.aN ((nJ xs ys []).map (·.2))=true:=by
        have go:∀(a b:List D) (m:List (D×D)),D.aN b=true->D.aN (m.map (·.2))=true->D.aN ((nJ a b m).map (·.2))=true:=by
         intro a;induction a with
         | nil=>intro b m _ hm;cases b <;> exact hm
         | cons x a ih=>
          intro b m hb hm;cases b with
          | nil=>exact hm
          | cons y b=>
           rw [D.aN,Bool.and_eq_true] at hb;refine ih b _ hb.2 ?_;have hp:=m5 (ds:=m) (k:=x) hb.1 hm;exact hp
        exact go xs ys [] hb4 rfl
       have rk2:∀{P:Addr->Prop},gQ P (upd H1 h'.objs.size (.dK (fH [] (ks.zip vs2)))) (fH [] (ks.zip vs2)) (nJ xs ys []):=fun {P}=>(rk.keep (.same sp) fun _ h=>h).bM pv
       refine ⟨.ref h'.objs.size,_,I1.laid (a:=h'.objs.size) (t':=tk) (o:=.dK (fH [] (ks.zip vs2))) kall (by rw [zsz];lia) (XF hz (beq_eq_false_iff_ne.mpr ?_) rel (by simpa using dd)),rfl,?_⟩
       ·exact Ne.symm (Nat.ne_of_lt (Nat.lt_of_lt_of_le I1.big (by rw [zsz];exact Nat.le_add_right _ 5)))
       ·exact q _ _ (sm.trans sp) (.dK aG trivial rk2 nd) fun _=>.dK aG (sm.free hfr) rk2 nd
  ·exact bx h2
 ·exact bx h2
end
end
noncomputable def rowOf (s:Stmt) (j:Nat):Stmt:=match s with
 | .ClassDef _ _ _ b _ _ _ _ _ _ _=>b.getD j (.Pass ⟨0,0,0,0⟩)
 | _=>.Pass ⟨0,0,0,0⟩
section
variable [KFrag]
end
def bFz (f:FE):FE:=fun ρ=>do
 let d <- f ρ
 match d with
 | .lst xs=>if D.aN xs then .ok (.scr xs) else .bad
 | _=>.bad
section
variable [KFrag]
section
variable {X:Cx} {e:Expr} {f:FE}
def tFz (t:TE):TE:=fun σ H Q=>t σ H fun v H1=>∃a vs,v=.ref a/\H1 a=some (.lst vs)/\∀o,Q v (upd H1 a (.frz o (.lst vs)))
theorem aLr (h:PE X e t):PE X e (tFz t):=by
 intro pins s σ H Q I q;refine wpAny_mono (h pins s σ H _ (I.wish _) q) (fun u s1 ⟨v,H1,I1,r,a,vs,ev,ea,k⟩=>?_) fun _ _ z=>z
 obtain ⟨o,I2⟩:=VG I1 ea;exact ⟨v,_,I2,r,k o⟩
theorem aBy (h:PE X e (gE f true)):PE X e (gE (bFz f) true):=PE.imp (aLr h) fun σ H Q ⟨ρ,d,E,h,q⟩=>by
 obtain ⟨d0,h1,h2⟩:=bA h;split at h2
 ·rename_i xs;split at h2
  ·rename_i hp;cases h2;refine ⟨ρ,_,E,h1,fun v H1 s1 r n=>?_⟩;cases n rfl with
   | @lst a vs _ ea pa ra=>
    refine ⟨a,vs,rfl,ea,fun o=>?_⟩;have noT:∀ob,H1 a=some ob->aFb ob=true:=fun ob z=>by rw [ea] at z;cases z;rfl
    have s2:bV H (upd H1 a (.frz o (.lst vs))):=fun b ob eb=>by
     rw [aR (fun z=>by rw [z,show H a=none from pa] at eb;cases eb)];exact s1 b ob eb
    have rp:∀P:Addr->Prop,Rep P (upd H1 a (.frz o (.lst vs))) (.ref a) (.scr xs):=fun P=>.frz (.inl ⟨o,aG⟩) ((j4 noT ra hp).bM hp)
    exact q _ _ s2 (rp _) fun _=>rp _
  ·exact bx h2
 ·exact bx h2
end
end
def txK (kvs:List (D×D)):Bool:=!kvs.isEmpty&&kvs.all (fun p=>!isTup p.1)
def aKc (f:FE):FE:=fun ρ=>do
 let d <- f ρ
 match d with
 | .dct kvs=>if txK kvs&&D.aN (kvs.map (·.2)) then .ok (.fdc kvs) else .bad
 | _=>.bad
def aBz:List D->Res D
 | [.fdc kvs]=>if txK kvs then .ok (.lst (jH kvs)) else .bad
 | _=>.bad
def ZV (a b:D):Res D:=match b with
 | .fdc kvs=>if txK kvs&&gR a then .ok (.bl (!(fC kvs a).isSome)) else .bad
 | _=>.bad
def aLs (f:FE):FI:=fun ρ=>do
 let d <- f ρ
 match d with
 | .fdc kvs=>if txK kvs then .ok (jH kvs,true) else .bad
 | _=>.bad
variable [KFrag]
theorem ZW (r:Rep P H v (.fdc ds)) (hb:txK ds=true):∃a o kvs,v=.ref a/\H a=some (.frz o (.dK kvs))/\gQ P H kvs ds:=by
 unfold txK at hb;rw [Bool.and_eq_true] at hb;cases r with
 | fdK e rk n=>exact ⟨_,_,_,rfl,e,rk⟩
 | fdT e rt n=>
  cases rt with
  | nil=>exact absurd hb.1 (by simp)
  | cons r t=>exact absurd hb.2 (by simp [isTup])
section
variable {X:Cx} {e:Expr} {f:FE}
def aNh (t:TE):TE:=fun σ H Q=>t σ H fun v H1=>∃a kvs,v=.ref a/\H1 a=some (.dK kvs)/\∀o,Q v (upd H1 a (.frz o (.dK kvs)))
theorem aJ9 (h:PE X e t):PE X e (aNh t):=by
 intro pins s σ H Q I q;refine wpAny_mono (h pins s σ H _ (I.wish _) q) (fun u s1 ⟨v,H1,I1,r,a,kvs,ev,ea,k⟩=>?_) fun _ _ z=>z
 obtain ⟨z,hs,vs,rel,o,es,ep,ho,c⟩:=I1.hok a _ ea;exact ⟨v,_,I1.write (o:=.frz o (.dK kvs)) (by rw [ea];trivial) (.inl rfl) (fun _ _ _ q=>q) ⟨o,ho⟩ ⟨ho,z,hs,vs,rel,o,es,ep,ho,c⟩,r,k o⟩
theorem aJa (h:PE X e (gE f true)):PE X e (gE (aKc f) true):=PE.imp (aJ9 h) fun σ H Q ⟨ρ,d,E,h,q⟩=>by
 obtain ⟨d0,h1,h2⟩:=bA h;split at h2
 ·rename_i ds;split at h2
  ·rename_i hp;cases h2;rw [Bool.and_eq_true] at hp;refine ⟨ρ,_,E,h1,fun v H1 s1 r n=>?_⟩;have hk:=hp.1;unfold txK at hk;rw [Bool.and_eq_true] at hk;cases n rfl with
   | @dK a kvs _ ea pa ra nd=>
    refine ⟨a,kvs,rfl,ea,fun o=>?_⟩;have s2:bV H (upd H1 a (.frz o (.dK kvs))):=fun b ob eb=>by
     rw [aR (fun z=>by rw [z,show H a=none from pa] at eb;cases eb)];exact s1 b ob eb
    have rp:∀P:Addr->Prop,Rep P (upd H1 a (.frz o (.dK kvs))) (.ref a) (.fdc ds):=fun P=>aDb (Rep.dK ea pa ra nd) ea hp.2
    exact q _ _ s2 (rp _) fun _=>rp _
   | @dT a kvs _ ea pa ra nd=>
    cases ra with
    | nil=>exact absurd hk.1 (by simp)
    | cons r t=>exact absurd hk.2 (by simp [isTup])
  ·exact bx h2
 ·exact bx h2
theorem aC0 (hc:X.calm=true):nR X (.type "list") (rs aBz true):=by
 intro pins s σ H xs us Q I vr ⟨ds,d,r,e,k⟩;unfold aBz at e;split at e
 ·rename_i kd;split at e
  ·rename_i hl;cases e;obtain ⟨vv,uu,rfl,rfl,r,v⟩:=lY r vr;obtain ⟨l,o,kvs,rfl,ea,rk⟩:=ZW r hl;cases v;obtain ⟨z,hd,vs,rel,dd⟩:=UW I.hok (.inr ⟨o,ea⟩);obtain ⟨ep,da⟩:=dd.dictAt;have hlen:kvs.length=vs.length:=Paired.length rel;refine Mm.wC (I.ok.hd hc) hd da rfl (by rw [<-hlen];rw [sizeLine_eq] at z;lia) fun h' tk acc' c' kp e1 it=>?_
   obtain ⟨i1,i2⟩:=it;have hfr:H s.heap.objs.size=none:=I.hok.fresh (Nat.le_refl _);have sp:bV H (upd H s.heap.objs.size (.lst (kvs.map fun p=>kV p.1))):=bV.upd hfr;refine ⟨.ref s.heap.objs.size,_,I.laid (o:=.lst (kvs.map fun p=>kV p.1)) kp (Nat.le_refl _) ⟨by rw [List.length_map];exact z,acc'.toList,c',?_,by simpa using e1⟩,rfl,k _ _ sp (.lst aG trivial (rk.keys.same sp)) fun _=>.lst aG hfr (rk.keys.same sp)⟩;have gen:∀(kvs:List (Key×V)) (vs:List (Key×Value)) (xs:List Value),KV kvs vs->xs.length=vs.length->(∀(j:Nat) (v:Value),xs[j]?=some v->∃k x,vs[j]?=some (k,x)/\(bT X.prog X.w).is k v=true)->Vals (kvs.map fun p=>kV p.1) xs:=by
    intro kvs vs xs rel;induction rel generalizing xs with
    | nil=>intro hx _;cases xs with|nil=>exact .nil|cons a b=>cases hx
    | cons h t ih=>
     intro hx hv;cases xs with
     | nil=>cases hx
     | cons a b=>
      obtain ⟨k,x,g1,g2⟩:=hv 0 a rfl;cases g1;refine .cons ?_ (ih b (by simpa using hx) fun j v hj=>hv (j+1) v hj);show RelV (kV _) a;rw [h.1];exact aDa g2
   exact gen kvs vs acc'.toList rel (by simpa using i1) fun j v hj=>i2 j v (by simpa using hj)
  ·exact bx e
 ·exact bx e
theorem ZX (hu:X.A.units+20<cLine):OpR X (compareOp .NotIn) (r2 ZV true):=by
 intro pins s σ H x y v u Q I rx ry ⟨a,b,d,p,q,e,k⟩;unfold ZV at e;split at e
 ·rename_i kd;split at e
  ·rename_i hl;cases e;rw [Bool.and_eq_true] at hl;obtain ⟨l,o,kvs,rfl,ea,rk⟩:=ZW q hl.1;cases ry;obtain ⟨qk,rfl,rfl⟩:=wY hl.2 p;refine aEf (o:=zQ kvs qk) (by lia) I (.inl ⟨kvs,qk,.inr ⟨o,ea⟩,rfl,rfl⟩) rx fun s' I'=>⟨.bl _,H,I',rfl,?_⟩
   rcases aB2 (k:=qk) rk with ⟨v,d,g1,g2,g3⟩|⟨g1,g2⟩
   ·rw [g2] at k;rw [g1];exact k.bl
   ·rw [g2] at k;rw [g1];exact k.bl
  ·exact bx e
 ·exact bx e
theorem gQ.aJb:∀{kvs:List (Key×V)} {ds:List (D×D)},gQ P H kvs ds->bG P' H' (kvs.map fun p=>kV p.1) (jH ds)
 | _,_,.nil=>.nil
 | _,_,.cons (k:=k) _ t=>.cons (by cases k <;> first|exact .int _|exact .str _) t.aJb
theorem ItQ.kf {K:PySem.W.Frag} (a:Addr) (o:Obj) (kvs:List (Key×V)) (e:J=Itk a o (.dK kvs) kvs) (hH:H a=some (.frz o (.dK kvs))) (rk:gQ P0 H kvs ds):ItQ K P J H (jH ds):=by
 refine ⟨fun P' H' kk mm=>?_⟩;have hH':=kk _ _ hH (.inr rfl);have rr:bG P' H' (kvs.map fun p=>kV p.1) (jH ds):=rk.aJb;have hl:kvs.length=(jH ds).length:=by have:=rr.length;simpa using this
 subst e;refine ⟨fun i hi=>⟨hH',by lia⟩,fun i d hi=>?_⟩;obtain ⟨v,h1,h2⟩:=rr.get hi;rw [List.getElem?_map] at h1;obtain ⟨p,hp,rfl⟩:=Option.map_eq_some_iff.mp h1;refine ⟨⟨hH',p,hp⟩,fun x H'' ⟨e1,p',hp',ex⟩=>?_⟩;subst e1;rw [hp] at hp';cases hp';subst ex;exact ⟨bV.refl _,h2⟩
theorem aLt {tg l:Expr} (hl:PE X l (gE f rl)):PI X tg l (gI X.K (aLs f)):=by
 intro pins s σ H R I ⟨ρ,items,k,E,h,q⟩;obtain ⟨d,h1,h⟩:=bA h;split at h
 ·rename_i ds;split at h
  ·rename_i hb;cases h;refine thn (hl pins s σ H (fun v H1=>bV H H1/\Rep All H1 v (.fdc ds)) I ⟨ρ,_,E,h1,fun v H1 s1 r1 _=>⟨s1,r1⟩⟩) fun u s1 ⟨v,H1,I1,ru,sm,r1⟩=>?_
   obtain ⟨a,o,kvs,rfl,ea,rk⟩:=ZW r1 hb;cases ru;obtain ⟨z,hs,vs,rel,dd⟩:=UW I1.hok (.inr ⟨o,ea⟩);obtain ⟨ho,_⟩:=I1.hok a _ ea;obtain ⟨ep,da⟩:=dd.dictAt;have hda:∀h:Heap,h.get? a=some o->h.DictAt (bT X.prog X.w) a vs ep:=fun h e=>by
    obtain ⟨o',es,ho',r⟩:=id da;rw [ho] at ho';cases ho';exact ⟨o,es,e,r⟩
   refine wpAny_pyIter_dict hs da ?_;have I2:Inv X pins σ H1 {s1 with heap:=s1.heap.push {cls:=.type "dict_keyiterator",data:=.fields #[.ref a,.int 0 0,.int vs.length 0,.int ep 0]}}:=I1.kept fun b o e=>Heap.get?_push_of_some _ e
   refine ⟨s1.heap.objs.size,[s1.heap.objs.size],fun i h=>h.IsKeyIter s1.heap.objs.size a i vs.length ep,Itk a o (.dK kvs) kvs,_,rfl,I2,JS hda rel,⟨_,Heap.get?_push_size _ rfl,rfl,rfl⟩,fun b hb=>?_,q _ H1 sm (.kf a o kvs rfl ea rk) fun _=>.kf a o kvs rfl ea rk⟩;have e:b=s1.heap.objs.size:=by simpa using hb
   subst e;exact I1.aGl (Nat.le_refl _) (I1.hok.fresh (Nat.le_refl _))
  ·exact bx h
 ·exact bx h
end
end Mi
section
local macro_rules | `(tactic| trivial) => `(tactic| first | exact Or.inl rfl | exact Or.inr rfl | exact Or.inr (Or.inl rfl) | exact Or.inr (Or.inr rfl))
namespace Lk71
open PySem L2 Mi PySem.W
noncomputable def top (i:Nat):Stmt:=PySem.Challenge.pw_hookmill_k71_roles.main.body.getD i (.Pass ⟨0,0,0,0⟩)
noncomputable def rcs:List Str:=["MakerRole", "TakerRole", "CopyRole", "DropRole"]
abbrev j5:Stmt:=rowOf (top 9) 0
abbrev eU:Stmt:=rowOf (top 10) 0
def eV:List (Str×Srx):=[("giving",.exp (lE (aC (bPu (eZ (aC zO (aC dN aU)))) aU))),("taking",.exp (b1 (enT 1) cX))]
abbrev eX:Stmt:=rowOf (top 11) 0
def eY:List (Str×Srx):=[("giving",.exp (lE (aC (bPu (eZ (aC fQ (aC dN aU)))) aU))),("taking",.exp (b2 (aX .add) (lE (aC (bPu (eZ (aC zO (aC cX aU)))) aU)) (b1 (enT 2) eF)))]
abbrev fW:Stmt:=rowOf (top 12) 0
def j6:List (Str×Srx):=[("giving",.exp (lE (aC (eZ (aC fQ (aC (bC .non) aU))) (aC (eZ (aC iU (aC (bC .non) aU))) aU)))),("taking",.exp (lE (aC (eZ (aC zO (aC (bC .non) aU))) aU)))]
abbrev fX:Stmt:=rowOf (top 13) 0
def j7:List (Str×Srx):=[("giving",.exp (lE aU)),("taking",.exp (lE (aC (eZ (aC zO (aC (bC .non) aU))) aU)))]
abbrev iR:Stmt:=rowOf (top 9) 1
noncomputable def aFy:Nat->Bool:=fun i=>false
def aFz:FS:=kO (gC 1 (cF (GK rcs "giving" cO) false) (aEn 2) jU dN false) true
def mG:List D->Res D:=fnS 1 1 aFz
abbrev iT:Stmt:=rowOf (top 9) 2
noncomputable def aG0:Nat->Bool:=fun i=>false
def aG1:FS:=kO (gC 1 (cF (GK rcs "taking" cO) false) (aEn 2) jU dN false) true
def mH:List D->Res D:=fnS 1 1 aG1
abbrev d8:Stmt:=rowOf (top 9) 3
noncomputable def ZZ:Nat->Bool:=fun i=>false
def Z0:FS:=kO (b2 getD (b1 R5 (b2 (aX .add) (GK rcs "giving" cO) (GK rcs "taking" cO))) dN) false
def j8:List D->Res D:=fnS 2 2 Z0
abbrev mJ:Stmt:=top 15
noncomputable def JZ:Nat->Bool:=fun i=>i==2
def J0:FS:=bH (cG true 2 (lE aU) true) (bH (zP (jJ (aC dN aU) iV) (tg1 3) (sIf (bTB (b2 (cV (.ord .lt)) eF (aY iK (aC cO aU)))) (nW 2 (b2 getD cO eF)) (nW 2 (b2 (aX .mod) (b2 (aX .add) (b2 sO (b2 sO eF eF) eF) (b2 sO aHr eF)) (bC (.int 1009)))))) (XX 2))
def gG:List D->Res D:=fnS 2 4 J0
abbrev sW:Stmt:=top 16
noncomputable def VL:Nat->Bool:=fun i=>false
def VM:FS:=bH (cG false 1 (bC (.str "abcdefghijklmnopqrstuvwxyz")) true) (bH (cG false 2 (bC (.str "")) true) (bH (zP (jJ (aC V7 aU) iV) (tg1 3) (bH (cG false 2 (b2 (aX .add) cX (b2 getD dN (b2 (aX .mod) cO DQ))) true) (cG false 0 (b2 (aX .fdiv) cO DQ) true))) (kO cX false)))
def m7:List D->Res D:=fnS 1 4 VM
abbrev mK:Stmt:=top 17
noncomputable def J1:Nat->Bool:=fun i=>i==6
def J2:FS:=bH (cG false 2 (bC (.str "abcdefghijklmnopqrstuvwxyz")) true) (bH (cG false 3 (b2 (aX .add) fQ (b2 (aX .mod) (b2 (aX .fdiv) cO zT) V7)) true) (bH (cG false 4 (b2 (aX .mod) (b2 (aX .fdiv) cO (bC (.int 32))) eF) true) (bH (cG false 5 (aY (dO 1 m7) (aC (b2 (aX .fdiv) cO CK) aU)) true) (bH (cG true 6 (lE aU) true) (bH (zP (jJ (aC dN aU) iV) (tg1 7) (bH (cG false 8 (b2 getD cX (b2 (aX .mod) (b2 (aX .add) (b2 (aX .fdiv) cO CK) mW) DQ)) false) (bH (cG false 9 (b2 (aX .add) (b2 (aX .add) (m_ iC kJ (dC eG)) o_) (m_ iC (dC eG) (dC (b2 (aX .sub) eF fQ)))) true) (bH (sIf (bTB (b2 (cV .eq) (b2 (aX .mod) cO zT) fQ)) (cG false 9 (b2 (aX .add) (m_ iC kJ (dC (b2 (aX .fdiv) mW zT))) (b2 getD cX (b2 (aX .mod) (b2 (aX .add) (b2 (aX .fdiv) cO CK) (b2 (aX .mod) mW zT)) DQ))) true) jL) (bH (sIf (bTB (b2 (cV .eq) (b2 (aX .mod) cO zT) iU)) (cG false 9 (b2 (aX .add) (b2 getD (lE (aC (bC (.str "copy")) (aC (bC (.str "drop")) aU))) (b2 (aX .mod) mW iU)) o_) true) jL) (bH (sIf (bTB (b2 (cV .eq) (b2 (aX .mod) cO zT) CN)) (cG false 9 (b2 (aX .add) o_ (b2 getD (lE (aC (bC (.str "copy")) (aC (bC (.str "drop")) aU))) (b2 (aX .mod) mW iU))) true) jL) (bH (sIf (bOr (bTB (b2 (cV .eq) p_ (bC (.str "copy")))) (bTB (b2 (cV .eq) p_ (bC (.str "drop"))))) (cG false 9 (b2 (aX .add) p_ (bC (.str "ssss"))) true) jL) (nW 6 p_)))))))) (XX 6))))))
def cP:List D->Res D:=fnS 2 10 J2
abbrev jA:Stmt:=top 19
noncomputable def J3:Nat->Bool:=fun i=>i==5||i==9
def J4:FS:=bH (cG true 5 (lE aU) true) (bH (cG false 6 (lE (aC (bPu cX) aU)) true) (bH (aM7 (bTB (b2 (cV (.ord .gt)) (aY iK (aC nU aU)) zO)) (bH (cG false 7 (b2 getD nU zO) false) (bH (cG false 6 (m_ nU (dC fQ) kJ) true) (bH (cG false 8 (b2 (cV (.ord .lt)) (b2 (aX .add) (aY iK (aC iC aU)) (aY iK (aC nU aU))) MJ) true) (bH (cG true 9 (R0 19 3 yC (bTB (b2 (cV .eq) (b2 getD eF JG) mW)) (eZ (aC JG (aC (eZ aU) aU)))) true) (bH (yD 0 (tgN [10,11,12]) (sIf (aAb (bTB (b2 (cV .eq) lO mW)) (bOr (bTB (b2 (cV .eq) wN (eZ aU))) (bTr o_))) (nW 9 (eZ (aC xZ (aC wN aU)))) jL)) (bH (yD 1 (tgN [13,11,14,15]) (sIf (aAb (bTB (b2 (cV .eq) lO mW)) (bTr o_)) (nW 9 (eZ (aC zR (aC (b2 aBe (eZ (aC DP aU)) NQ) aU)))) jL)) (bH (cG false 16 (b2 getD eG (b2 (aX .mod) (aY iK (aC iC aU)) (aY iK (aC eG aU)))) false) (bH (aD5 (b2 getD p_ (b2 (aX .mod) XQ (aY iK (aC p_ aU)))) (tgN [17,18])) (bH (nW 5 XR) (cG false 6 (b2 (aX .add) (aY XS (aC (h_ 18) aU)) nU) true))))))))))) (kO (aY nD (aC iC aU)) false)))
def gH:List D->Res D:=fnS 5 19 J4
abbrev jB:Stmt:=top 20
noncomputable def J5:Nat->Bool:=fun i=>i==4
def J6:FS:=bH (cG true 4 (lE aU) true) (bH (yD 1 (tgN [5,6,7,8]) (yD 0 (tgN [9,10,11]) (sIf (bTB (b2 (cV .eq) xZ mW)) (bH (cG false 12 (b2 (aX .add) aCw (b2 sO (aY iK (aC eG aU)) aK7)) true) (bH (cG false 13 (b2 (aX .fdiv) (b2 getD eF (b2 (aX .add) wN fQ)) aK7) true) (bH (cG false 14 (gC 17 (jJ (aC (b2 (aX .add) (aY iK (aC lO aU)) (aY iK (aC o_ aU))) aU) iV) yC jU (b2 getD cX (b2 (aX .mod) (b2 (aX .add) zR (b2 sO (b2 (aX .add) fQ (b2 sO MJ (b2 (aX .mod) (b2 (aX .fdiv) zR V7) iU))) XR)) V7)) false) true) (bH (cG false 15 (aY yV (aC DP (aC (b2 aBe lO o_) aU))) true) (bH (cG false 16 (aY (dO 5 gH) (aC cO (aC dN (aC nU (aC NQ (aC (m_ eF (dC wN) (dC (b2 (aX .add) wN aCw))) aU)))))) true) (nW 4 (eZ (aC iC (aC p_ (aC (aY nD (aC DP aU)) (aC XQ aU))))))))))) jL))) (XX 4))
def jC:List D->Res D:=fnS 4 17 J6
abbrev mL:Stmt:=top 18
noncomputable def J7:Nat->Bool:=fun i=>i==3
def J8:FS:=bH (cG true 3 (lE aU) true) (bH (zP (jJ (aC dN aU) iV) (tg1 4) (bH (nW 3 (b2 getD cO (b2 (aX .mod) cX (aY iK (aC cO aU))))) (cG false 2 (b2 (aX .fdiv) cX (aY iK (aC cO aU))) true))) (kO (aY nD (aC eF aU)) false))
def bY:List D->Res D:=fnS 3 5 J8
abbrev jM:Stmt:=top 21
noncomputable def zU:Nat->Bool:=fun i=>i==3||i==8||i==12
def zV:FS:=bH (cG false 1 (aY (dO 2 cP) (aC (b2 getD cO zO) (aC (bC (.int 21)) aU))) true) (bH (cG false 2 (m_ dN kJ (dC (b2 (aX .add) fQ (b2 (aX .mod) (b2 getD cO fQ) iU)))) true) (bH (cG true 3 (lE aU) true) (bH (zP (jJ (aC (aY iK (aC cX aU)) aU) iV) (tg1 4) (bH (nW 3 (eZ (aC (b2 getD dN (b2 (aX .add) CN (b2 sO CN eG))) (aC (b2 getD cX eG) (aC (eZ aU) aU))))) (zP (jJ (aC (b2 (aX .add) fQ (b2 (aX .mod) (b2 getD cO (b2 (aX .add) iU eG)) iU)) aU) iV) (tg1 5) (bH (cG false 6 (b2 (aX .add) fQ (b2 (aX .mod) (b2 (aX .fdiv) (b2 getD cO (b2 (aX .add) iU eG)) (b2 (aX .add) iU (b2 sO zT iC))) CN)) true) (bH (cG false 7 (aY (dO 3 bY) (aC cX (aC nU (aC (b2 (aX .fdiv) (b2 getD cO (b2 (aX .add) zT eG)) (b2 (aX .add) fQ iC)) aU)))) true) (nW 3 (eZ (aC (b2 getD dN (b2 (aX .add) (b2 (aX .add) zT (b2 sO CN eG)) iC)) (aC (b2 getD cX eG) (aC mW aU)))))))))) (bH (cG true 8 (lE aU) true) (bH (zP (jJ (aC (b2 getD (lE (aC fQ (aC iU (aC CN (aC iU (aC fQ (aC zO aU))))))) (b2 (aX .mod) (b2 (aX .fdiv) (b2 getD cO fQ) iU) MJ)) aU) iV) (tg1 4) (bH (aD5 (aY (dO 3 bY) (aC cX (aC iU (aC (b2 getD cO (b2 (aX .add) MJ eG)) aU)))) (tgN [9,10])) (bH (cG false 11 (aY (dO 3 bY) (aC cX (aC (b2 (aX .mod) (b2 (aX .fdiv) (b2 getD cO (b2 (aX .add) MJ eG)) zT) CN) (aC (b2 (aX .fdiv) (b2 getD cO (b2 (aX .add) MJ eG)) U3) aU)))) true) (nW 8 (eZ (aC (b2 getD dN (b2 (aX .add) aCw eG)) (aC p_ (aC xZ (aC lO aU))))))))) (bH (cG true 12 (aY (dO 4 jC) (aC eF (aC o_ (aC (m_ dN (dC U3) (dC aEj)) (aC cO aU))))) true) (bH (sIf (bTB (b2 (cV .eq) (b2 (aX .mod) (b2 (aX .fdiv) (b2 getD cO CN) aEk) iU) fQ)) (aKb 12) jL) (bH (cG false 2 (b2 (aX .add) cX (m_ dN (dC iU) (dC (b2 (aX .add) iU (b2 (aX .mod) (b2 (aX .fdiv) (b2 getD cO fQ) U3) iU))))) true) (kO (eZ (aC (aY nD (aC cX aU)) (aC (aY nD (aC eF aU)) (aC (aY nD (aC o_ aU)) (aC (aY nD (aC wN aU)) aU))))) false)))))))))
def d9:List D->Res D:=fnS 1 13 zV
abbrev gJ:Stmt:=top 22
noncomputable def J9:Nat->Bool:=fun i=>i==1
def J_:FS:=bH (cG true 1 (bC (.dct [])) true) (bH (zP (cF (b2 getD cO fQ) false) (tgN [2,3,4]) (aAx 1 cX (bFz (b2 (aX .add) (lE (aC (bPu (eZ (aC (bC (.bl true)) (aC eF aU)))) aU)) (gC 8 (cF eG false) yC jU (eZ (aC (bC (.bl false)) (aC o_ aU))) false))))) (bH (zP (cF (b2 getD cO iU) false) (tgN [5,3,6,7]) (aAx 1 iC (bFz (b2 (aX .add) (lE (aC (bPu (eZ (aC (bC (.bl false)) (aC nU aU)))) (aC (bPu (eZ (aC (bC (.bl true)) (aC eF aU)))) aU))) (gC 8 (cF mW false) yC jU (eZ (aC (bC (.bl false)) (aC o_ aU))) false))))) (bH (aAx 1 (bC (.str "copy")) (bFz (lE (aC (eZ (aC (bC (.bl false)) (aC (bC .non) aU))) (aC (eZ (aC (bC (.bl true)) (aC (bC .non) aU))) (aC (eZ (aC (bC (.bl true)) (aC (bC .non) aU))) aU)))))) (bH (aAx 1 (bC (.str "drop")) (bFz (lE (aC (eZ (aC (bC (.bl false)) (aC (bC .non) aU))) aU)))) (XX 1)))))
def dM:List D->Res D:=fnS 1 8 J_
abbrev iG:Stmt:=top 27
noncomputable def GQ:Nat->Bool:=fun i=>false
def GR:FS:=bH (cG false 3 (aY (dO 2 cP) (aC (b2 getD cO zO) (aC (bC (.int 21)) aU))) true) (bH (cG false 4 (b2 (aX .add) (aY XS (aC (b2 getD dN zO) aU)) (lE (aC (bPu (b2 getD eF U3)) (aC (bPu (b2 getD eF aEj)) (aC (bC (.str "cop")) (aC (bC (.str "dropp")) (aC (bC (.str "copyx")) aU))))))) true) (bH (zP (aLs cX) (tg1 5) (cG false 4 (b2 (aX .add) eG (lE (aC (m_ iC kJ (dC (b1 aGn fQ))) (aC (b2 (aX .add) (m_ iC kJ (dC aHr)) (bC (.str "x"))) (aC (b2 (aX .add) (m_ iC kJ (dC (b1 aGn fQ))) (bC (.str "q"))) aU))))) true)) (kO (gC 6 (cF eG false) yC (aAb (bTB (b2 (cV .ne) nU (bC (.str "")))) (bTB (b2 ZV nU cX))) nU false) true)))
def fM:List D->Res D:=fnS 3 6 GR
abbrev yW:Stmt:=top 8
noncomputable def Z1:Nat->Bool:=fun i=>false
def yX:FS:=bH (noE (zP (cF (b2 getD cO fQ) false) (tgN [2,3,4]) (sIf (bTB (b2 (cV .eq) cX dN)) (kO (GD "MakerRole" eV 2 (aC eF (aC eG aU))) true) jL))) (bH (noE (zP (cF (b2 getD cO iU) false) (tgN [5,3,6,7]) (sIf (bTB (b2 (cV .eq) iC dN)) (kO (GD "TakerRole" eY 3 (aC eF (aC nU (aC mW aU)))) true) jL))) (bH (noE (sIf (bTB (b2 (cV .eq) dN (bC (.str "copy")))) (kO (JW "CopyRole" j6) true) jL)) (bH (noE (sIf (bTB (b2 (cV .eq) dN (bC (.str "drop")))) (kO (JW "DropRole" j7) true) jL)) (yR "NoName" ["word"] (noE (aC dN aU))))))
def dB:List D->Res D:=fnS 2 8 yX
abbrev jN:Stmt:=top 26
noncomputable def zW:Nat->Bool:=fun i=>false
def zX:FS:=bH (cG false 2 (bC .non) true) (bH (aLg dB 2 (aC cO (aC dN aU)) ["NoName"] 2 3) (bH (sIf (bOr (wO (bTr (aDd [("NoName",true)] 2))) (bOr (wO (bTr (aDd [("NoName",true)] 2))) (bTr (aDd [("NoName",false)] 2)))) (kO (bC (.bl false)) true) jL) (bH (sIf (bOr (bTr (aDd [("NoName",false)] 2)) (bOr (bTr (aDd [("NoName",false)] 2)) (bTr (aDd [("NoName",false)] 2)))) (kO (bC (.bl false)) true) jL) (kO (aEm (b1 (DR .str) (aBk ["NoName"] "word" 2)) (b2 (cV .eq) (aBk ["NoName"] "word" 2) dN)) true))))
def d_:List D->Res D:=fnS 2 4 zX
abbrev mO:Stmt:=top 25
noncomputable def KC:Nat->Bool:=fun i=>i==3
def KD:FS:=bH (cG true 3 (lE (aC (bC (.bl false)) (aC (bC (.bl false)) (aC (b2 (cV .eq) cX (bC (.str "copy"))) (aC (b2 (cV .eq) cX (bC (.str "drop"))) aU))))) true) (bH (zP (cF (b2 getD dN fQ) false) (tgN [4,5,6]) (Y_ 3 zO (aHs (b2 getD eF zO) (b2 (cV .eq) eG cX)))) (bH (zP (cF (b2 getD dN iU) false) (tgN [7,5,8,9]) (Y_ 3 fQ (aHs (b2 getD eF fQ) (b2 (cV .eq) mW cX)))) (bH (cG false 10 (lE (aC (O6 [("MakerRole",true),("TakerRole",false),("CopyRole",false),("DropRole",false)] 0) (aC (O6 [("MakerRole",false),("TakerRole",true),("CopyRole",false),("DropRole",false)] 0) aU))) true) (bH (cG false 10 (b2 (aX .add) xZ (lE (aC (O6 [("MakerRole",false),("TakerRole",false),("CopyRole",true),("DropRole",false)] 0) (aC (O6 [("MakerRole",false),("TakerRole",false),("CopyRole",false),("DropRole",true)] 0) aU)))) true) (kO (aEm (O6 [("MakerRole",true),("TakerRole",true),("CopyRole",true),("DropRole",true)] 0) (b2 (cV .eq) xZ eF)) true)))))
def e_:List D->Res D:=fnS 3 11 KD
abbrev jO:Stmt:=top 23
noncomputable def zY:Nat->Bool:=fun i=>false
def zZ:FS:=bH (sIf (bOr (wO (bTr (b1 (DR .list) cO))) (bTB (b2 (cV .ne) (aY iK (aC cO aU)) (aY iK (aC dN aU))))) (kO (bC (.bl false)) true) jL) (bH (zP (jJ (aC (aY iK (aC dN aU)) aU) iV) (tg1 2) (sIf (bOr (wO (bTr (b1 (DR .int) (b2 getD cO cX)))) (bOr (bTr (b1 (DR .bool) (b2 getD cO cX))) (bTB (b2 (cV .ne) (b2 getD cO cX) (b2 getD dN cX))))) (kO (bC (.bl false)) true) jL)) (kO (bC (.bl true)) true))
def eE:List D->Res D:=fnS 2 3 zZ
abbrev cU:Stmt:=top 24
noncomputable def sX:Nat->Bool:=fun i=>false
def sY:FS:=bH (sIf (wO (bTr (aY (dO 2 eE) (aC (lB rcs "gives" mG cO) (aC (gC 4 (jJ (aC (aY iK (aC dN aU)) aU) iV) yC (bTr (b2 getD (b2 getD dN eG) zO)) eG false) aU))))) (kO (bC (.bl false)) true) jL) (bH (sIf (wO (bTr (aY (dO 2 eE) (aC (lB rcs "takes" mH cO) (aC (gC 4 (jJ (aC (aY iK (aC dN aU)) aU) iV) yC (wO (bTr (b2 getD (b2 getD dN eG) zO))) eG false) aU))))) (kO (bC (.bl false)) true) jL) (bH (zP (jJ (aC (aY iK (aC dN aU)) aU) iV) (tg1 2) (bH (cG false 3 (JX rcs "kind_at" j8 2 cO (aC cX aU)) true) (sIf (bTB (b2 (cV .isN) (b2 getD (b2 getD dN cX) fQ) (bC .non))) (sIf (bTB (b2 (cV .notN) eF (bC .non))) (kO (bC (.bl false)) true) jL) (sIf (bOr (wO (bTr (b1 (DR .str) eF))) (bTB (b2 (cV .ne) eF (b2 getD (b2 getD dN cX) fQ)))) (kO (bC (.bl false)) true) jL)))) (kO (bC (.bl true)) true)))
def bF:List D->Res D:=fnS 2 4 sY
abbrev GX:Stmt:=top 28
noncomputable def o_law:Nat->Bool:=fun i=>false
def aLu:FS:=bH (cG false 1 (aY (dO 2 gG) (aC cO (aC (bC (.int 64)) aU))) true) (bH (cG false 2 (aY (dO 1 d9) (aC dN aU)) true) (bH (cG false 3 (aKc (aY (dO 1 dM) (aC cX aU))) true) (bH (cG false 4 (aY aBz (aC eF aU)) true) (bH (sIf (bTB (b2 (cV .eq) (b2 (aX .mod) (b2 getD dN V7) iU) fQ)) (cG false 4 (b1 aKa eG) true) jL) (bH (yD 4 (tg1 5) (bH (cG false 6 (aY (dO 2 dB) (aC cX (aC iC aU))) true) (bH (sIf (bOr (wO (bTr (aY (dO 3 e_) (aC nU (aC cX (aC iC aU)))))) (wO (bTr (aY (dO 2 bF) (aC nU (aC (b2 getD eF iC) aU)))))) (kO (bC (.bl false)) true) jL) (bH (aFv (lB rcs "gives" mG nU)) (bH (aFv (lB rcs "takes" mH nU)) (sIf (bOr (wO (bTr (aY (dO 2 bF) (aC nU (aC (b2 getD eF iC) aU))))) (wO (bTr (aY (dO 2 bF) (aC (aY (dO 2 dB) (aC cX (aC iC aU))) (aC (b2 getD eF iC) aU)))))) (kO (bC (.bl false)) true) jL)))))) (bH (zP (cF (aY (dO 3 fM) (aC dN (aC cX (aC eF aU)))) true) (tg1 5) (sIf (wO (bTr (aY (dO 2 d_) (aC cX (aC iC aU))))) (kO (bC (.bl false)) true) jL)) (kO (bC (.bl true)) true)))))))
def O8:List D->Res D:=fnS 1 7 aLu
abbrev lC:Stmt:=aLi (top 4) 0
noncomputable abbrev wG:List Str:=["script", "many", "cells", "k"]
noncomputable abbrev CV:List Str:=["number", "letters", "row", "j"]
noncomputable abbrev wH:List Str:=["cell", "many", "letters", "size", "at", "row", "names", "k", "sign", "name"]
noncomputable abbrev jD:List Str:=["makers", "takers", "wanted", "known", "cells", "words", "stack", "kind", "room", "some", "maker", "own", "needs", "taker", "taken", "more", "cell", "word", "behind"]
noncomputable abbrev jE:List Str:=["makers", "takers", "pool", "cells", "rules", "taker", "kind", "taken", "more", "maker", "own", "needs", "at", "turn", "names", "known", "words"]
noncomputable abbrev wI:List Str:=["kinds", "many", "cell", "some", "k"]
noncomputable abbrev nM:List Str:=["cells", "names", "kinds", "makers", "k", "j", "many", "needs", "takers", "kind", "taken", "more", "rules"]
noncomputable abbrev fB:List Str:=["program", "hooks", "maker", "kind", "needs", "taker", "taken", "more"]
noncomputable abbrev iH:List Str:=["cells", "program", "hooks", "names", "some", "name"]
noncomputable abbrev KH:List Str:=["program", "name", "maker", "kind", "parts", "taker", "taken", "more"]
noncomputable abbrev nO:List Str:=["program", "name", "caught", "e"]
noncomputable abbrev wJ:List Str:=["role", "program", "name", "due", "maker", "kind", "needs", "taker", "taken", "more", "found"]
noncomputable abbrev nP:List Str:=["found", "due", "k"]
noncomputable abbrev cH:List Str:=["role", "hooks", "k", "kind"]
noncomputable abbrev aJc:List Str:=["script", "cells", "program", "hooks", "names", "name", "role"]
theorem aG2:bL (["self", "giving", "taking"]:List Str) ["self", "giving", "taking"] (aK j5):=by refine ⟨rfl,rfl,rfl,?_,rfl,?_,?_⟩ <;> decide +kernel
theorem xH [KFrag] {P:Program} {w:World} {K:Frag} {mg:Str->Option Value} {base:Heap} {fad:Addr} {fd:FuncData} (hK:KFrag.K=K) (B:Bt mg) {C:Addr} (cls:Cls K C) (na:∀f∈JV.map (·.1),lL K C f) (F:Fun K "__init__" "Role.__init__" j5 fad fd):jQ P w K mg base CX0 1 fad fd ["self", "giving", "taking"] (sV C JV 2):=by
 have sc:=aG2;have nd:=sc.nd;refine aIx (N:=(["self", "giving", "taking"]:List Str)) (ps:=["self", "giving", "taking"]) (k:=0) F sc rfl rfl cls (by decide +kernel) na (by decide) fun cdv A outer s H E hr=>?_
 have hu:=yK hr;exact oG (aCt (dF (i:=0) rfl (by trivial)) (dF (i:=1) rfl (by trivial)) rfl) (oG (aCt (dF (i:=0) rfl (by trivial)) (dF (i:=2) rfl (by trivial)) rfl) WN)
theorem KJ:bL (["self", "kind", "parts"]:List Str) ["self", "kind", "parts"] (aK eU):=by refine ⟨rfl,rfl,rfl,?_,rfl,?_,?_⟩ <;> decide +kernel
theorem GZ [KFrag] {P:Program} {w:World} {K:Frag} {mg:Str->Option Value} {base:Heap} {fad:Addr} {fd:FuncData} (hK:KFrag.K=K) (B:Bt mg) {C M fm:Addr} {fdm:FuncData} (Fr:jQ P w K mg base CX0 1 fm fdm ["self", "giving", "taking"] (sV C JV 2)) (hbm:Binds K fdm ["self", "giving", "taking"] []) (hkm:keepIn K (.ref fm)=true) (mR:mg "Role" = some (.ref M)) (b1:specialIn K (.ref M) "__getattribute__" = some (some (.builtin "type.__getattribute__"))) (b2:readsIn K M (.type "type")=true) (b3:findCls K (.ref M) (.type "type") "__init__" = some (.val (.ref fm))) (F:Fun K "__init__" "MakerRole.__init__" eU fad fd):jQ P w K mg base CX0 2 fad fd ["self", "kind", "parts"] (sV C eV 2):=by
 have sc:=KJ;have nd:=sc.nd;refine GJ (E2:=E0) (N:=(["self", "kind", "parts"]:List Str)) (ps:=["self", "kind", "parts"]) (k:=1) F sc rfl rfl fun cdv A outer s H E hr=>?_
 have hu:=yK hr;exact lH (lJ (xG Fr (hr.mono (by decide)) hbm hkm (by rfl) mR b1 b2 b3 DN (cA (dF (i:=0) rfl (by trivial)) (cA (cT (aB (FZ (cQ (aB aJ (aB (aA (i:=1)) aH)))) aH)) (cA (SQ (by rfl) (by decide) (by rfl) B.list (by rfl) B.enum (aA (i:=2))) lD)))))
theorem KN:bL (["self", "kind", "taken", "more"]:List Str) ["self", "kind", "taken", "more"] (aK eX):=by refine ⟨rfl,rfl,rfl,?_,rfl,?_,?_⟩ <;> decide +kernel
theorem G3 [KFrag] {P:Program} {w:World} {K:Frag} {mg:Str->Option Value} {base:Heap} {fad:Addr} {fd:FuncData} (hK:KFrag.K=K) (B:Bt mg) {C M fm:Addr} {fdm:FuncData} (Fr:jQ P w K mg base CX0 1 fm fdm ["self", "giving", "taking"] (sV C JV 2)) (hbm:Binds K fdm ["self", "giving", "taking"] []) (hkm:keepIn K (.ref fm)=true) (mR:mg "Role" = some (.ref M)) (b1:specialIn K (.ref M) "__getattribute__" = some (some (.builtin "type.__getattribute__"))) (b2:readsIn K M (.type "type")=true) (b3:findCls K (.ref M) (.type "type") "__init__" = some (.val (.ref fm))) (F:Fun K "__init__" "TakerRole.__init__" eX fad fd):jQ P w K mg base CX0 2 fad fd ["self", "kind", "taken", "more"] (sV C eY 3):=by
 have sc:=KN;have nd:=sc.nd;refine GJ (E2:=E0) (N:=(["self", "kind", "taken", "more"]:List Str)) (ps:=["self", "kind", "taken", "more"]) (k:=1) F sc rfl rfl fun cdv A outer s H E hr=>?_
 have hu:=yK hr;exact lH (lJ (xG Fr (hr.mono (by decide)) hbm hkm (by rfl) mR b1 b2 b3 DN (cA (dF (i:=0) rfl (by trivial)) (cA (cT (aB (FZ (cQ (aB aJ (aB (aA (i:=1)) aH)))) aH)) (cA (aZ bK (cT (aB (FZ (cQ (aB aJ (aB (aA (i:=2)) aH)))) aH)) (SQ (by rfl) (by decide) (by rfl) B.list (by rfl) B.enum (aA (i:=3)))) lD)))))
theorem O9:bL (["self"]:List Str) ["self"] (aK fW):=by refine ⟨rfl,rfl,rfl,?_,rfl,?_,?_⟩ <;> decide +kernel
theorem KQ [KFrag] {P:Program} {w:World} {K:Frag} {mg:Str->Option Value} {base:Heap} {fad:Addr} {fd:FuncData} (hK:KFrag.K=K) (B:Bt mg) {C M fm:Addr} {fdm:FuncData} (Fr:jQ P w K mg base CX0 1 fm fdm ["self", "giving", "taking"] (sV C JV 2)) (hbm:Binds K fdm ["self", "giving", "taking"] []) (hkm:keepIn K (.ref fm)=true) (mR:mg "Role" = some (.ref M)) (b1:specialIn K (.ref M) "__getattribute__" = some (some (.builtin "type.__getattribute__"))) (b2:readsIn K M (.type "type")=true) (b3:findCls K (.ref M) (.type "type") "__init__" = some (.val (.ref fm))) (F:Fun K "__init__" "CopyRole.__init__" fW fad fd):jQ P w K mg base CX0 2 fad fd ["self"] (sV C j6 0):=by
 have sc:=O9;have nd:=sc.nd;refine GJ (E2:=E0) (N:=(["self"]:List Str)) (ps:=["self"]) (k:=1) F sc rfl rfl fun cdv A outer s H E hr=>?_
 have hu:=yK hr;exact lH (lJ (xG Fr (hr.mono (by decide)) hbm hkm (by rfl) mR b1 b2 b3 DN (cA (dF (i:=0) rfl (by trivial)) (cA (cT (aB (cQ (aB aJ (aB lW aH))) (aB (cQ (aB aJ (aB lW aH))) aH))) (cA (cT (aB (cQ (aB aJ (aB lW aH))) aH)) lD)))))
theorem O_:bL (["self"]:List Str) ["self"] (aK fX):=by refine ⟨rfl,rfl,rfl,?_,rfl,?_,?_⟩ <;> decide +kernel
theorem KR [KFrag] {P:Program} {w:World} {K:Frag} {mg:Str->Option Value} {base:Heap} {fad:Addr} {fd:FuncData} (hK:KFrag.K=K) (B:Bt mg) {C M fm:Addr} {fdm:FuncData} (Fr:jQ P w K mg base CX0 1 fm fdm ["self", "giving", "taking"] (sV C JV 2)) (hbm:Binds K fdm ["self", "giving", "taking"] []) (hkm:keepIn K (.ref fm)=true) (mR:mg "Role" = some (.ref M)) (b1:specialIn K (.ref M) "__getattribute__" = some (some (.builtin "type.__getattribute__"))) (b2:readsIn K M (.type "type")=true) (b3:findCls K (.ref M) (.type "type") "__init__" = some (.val (.ref fm))) (F:Fun K "__init__" "DropRole.__init__" fX fad fd):jQ P w K mg base CX0 2 fad fd ["self"] (sV C j7 0):=by
 have sc:=O_;have nd:=sc.nd;refine GJ (E2:=E0) (N:=(["self"]:List Str)) (ps:=["self"]) (k:=1) F sc rfl rfl fun cdv A outer s H E hr=>?_
 have hu:=yK hr;exact lH (lJ (xG Fr (hr.mono (by decide)) hbm hkm (by rfl) mR b1 b2 b3 DN (cA (dF (i:=0) rfl (by trivial)) (cA (cT aH) (cA (cT (aB (cQ (aB aJ (aB lW aH))) aH)) lD)))))
theorem aC1:bL (["self"]:List Str) ["self"] (aK iR):=by refine ⟨rfl,rfl,rfl,?_,rfl,?_,?_⟩ <;> decide +kernel
theorem aC2 [KFrag] {P:Program} {w:World} {K:Frag} {mg:Str->Option Value} {base:Heap} {fad:Addr} {fd:FuncData} (hK:KFrag.K=K) (B:Bt mg) (fl_giving:∀c∈rcs,MP K c "giving") (F:Fun K "gives" "Role.gives" iR fad fd):jQ P w K mg base CX0 1 fad fd ["self"] (spD mG 1):=by
 have sc:=aC1;have nd:=sc.nd;refine YJ (ps:=["self"]) (N:=(["self"]:List Str)) (k:=0) F sc aFy (by decide) (by decide) fun cdv A outer s H E hr=>?_
 have hu:=yK hr;exact aO (cR (wZ (ownN:=(["hook", "kind"]:List Str)) (show dH (["self"]:List Str) (aK iR) _ (["hook", "kind"]:List Str) from by refine ⟨rfl,?_,?_,?_,?_,?_,?_⟩ <;> decide +kernel) (n:=1) (m:=2) rfl rfl rfl (g8 (GP hK fl_giving (aA (i:=0)))) (YD _ 1 2) (fun _=>iY rfl (aV (aQ (i:=1) (show ((List.map (kW (["hook", "kind"]:List Str)) (["self"]:List Str)++(["hook", "kind"]:List Str)):List Str).Nodup from by decide +kernel) rfl (by trivial)) (aV (aQ (i:=2) (show ((List.map (kW (["hook", "kind"]:List Str)) (["self"]:List Str)++(["hook", "kind"]:List Str)):List Str).Nodup from by decide +kernel) rfl (by trivial)) (fG)))) (fun _=>aA (i:=1)) (fun _=>rfl)))
theorem aC3:bL (["self"]:List Str) ["self"] (aK iT):=by refine ⟨rfl,rfl,rfl,?_,rfl,?_,?_⟩ <;> decide +kernel
theorem aC4 [KFrag] {P:Program} {w:World} {K:Frag} {mg:Str->Option Value} {base:Heap} {fad:Addr} {fd:FuncData} (hK:KFrag.K=K) (B:Bt mg) (fl_taking:∀c∈rcs,MP K c "taking") (F:Fun K "takes" "Role.takes" iT fad fd):jQ P w K mg base CX0 1 fad fd ["self"] (spD mH 1):=by
 have sc:=aC3;have nd:=sc.nd;refine YJ (ps:=["self"]) (N:=(["self"]:List Str)) (k:=0) F sc aG0 (by decide) (by decide) fun cdv A outer s H E hr=>?_
 have hu:=yK hr;exact aO (cR (wZ (ownN:=(["hook", "kind"]:List Str)) (show dH (["self"]:List Str) (aK iT) _ (["hook", "kind"]:List Str) from by refine ⟨rfl,?_,?_,?_,?_,?_,?_⟩ <;> decide +kernel) (n:=1) (m:=2) rfl rfl rfl (g8 (GP hK fl_taking (aA (i:=0)))) (YD _ 1 2) (fun _=>iY rfl (aV (aQ (i:=1) (show ((List.map (kW (["hook", "kind"]:List Str)) (["self"]:List Str)++(["hook", "kind"]:List Str)):List Str).Nodup from by decide +kernel) rfl (by trivial)) (aV (aQ (i:=2) (show ((List.map (kW (["hook", "kind"]:List Str)) (["self"]:List Str)++(["hook", "kind"]:List Str)):List Str).Nodup from by decide +kernel) rfl (by trivial)) (fG)))) (fun _=>aA (i:=1)) (fun _=>rfl)))
theorem VN:bL (["self", "hook"]:List Str) ["self", "hook"] (aK d8):=by refine ⟨rfl,rfl,rfl,?_,rfl,?_,?_⟩ <;> decide +kernel
theorem VP [KFrag] {P:Program} {w:World} {K:Frag} {mg:Str->Option Value} {base:Heap} {fad:Addr} {fd:FuncData} (hK:KFrag.K=K) (B:Bt mg) (fl_giving:∀c∈rcs,MP K c "giving") (fl_taking:∀c∈rcs,MP K c "taking") (F:Fun K "kind_at" "Role.kind_at" d8 fad fd):jQ P w K mg base CX0 1 fad fd ["self", "hook"] (spD j8 2):=by
 have sc:=VN;have nd:=sc.nd;refine YJ (ps:=["self", "hook"]) (N:=(["self", "hook"]:List Str)) (k:=0) F sc ZZ (by decide) (by decide) fun cdv A outer s H E hr=>?_
 have hu:=yK hr;exact aO (cR (bQ (ZF (by rfl) (by rfl) B.dict (aZ bK (GP hK fl_giving (aA (i:=0))) (GP hK fl_taking (aA (i:=0))))) (aA (i:=1))))
theorem G4:bL wG ["script", "many"] (aK mJ):=by refine ⟨rfl,rfl,rfl,?_,rfl,?_,?_⟩ <;> decide +kernel
theorem A_ [KFrag] {P:Program} {w:World} {K:Frag} {mg:Str->Option Value} {base:Heap} {fad:Addr} {fd:FuncData} (hK:KFrag.K=K) (B:Bt mg)  (F:Fun K "_law_cells" "_law_cells" mJ fad fd) (hm:mg "_law_cells" = some (.ref fad)):eO P w K mg base 1 "_law_cells" 2 gG:=by
 have sc:=G4;have nd:=sc.nd;refine jZ (ps:=["script", "many"]) (N:=wG) (k:=0) F hm (F.binds fun _ _ _ _ _ _ us hl=>match us,hl with|[_,_],_=>rfl) sc JZ (by decide) (by decide) fun cdv A outer s H E hr=>?_
 have hu:=yK hr;exact aD (bD (i:=2) (o:=true) rfl sc.nd rfl (by trivial) (cT aH)) (aD (gF PassesOwn.never rfl (gW (by rfl) B.range (aB (aA (i:=1)) aH)) (gY (i:=3) rfl) (aQ (i:=3) sc.nd rfl (by trivial)) (aO (gD (cY (aI3 hu) (aA (i:=3)) (cC (fJ hK) (by rfl) B.len fK (aB (aA (i:=0)) aH)) (cL _)) (aO (mC (i:=2) rfl rfl (by trivial) (bQ (aA (i:=0)) (aA (i:=3))))) (aO (mC (i:=2) rfl rfl (by trivial) (aZ cZ (aZ bK (aZ lA (aZ lA (aA (i:=3)) (aA (i:=3))) (aA (i:=3))) (aZ lA aJ (aA (i:=3)))) aJ)))))) (aO (DY (i:=2) rfl rfl (by trivial))))
theorem P_:bL CV ["number"] (aK sW):=by refine ⟨rfl,rfl,rfl,?_,rfl,?_,?_⟩ <;> decide +kernel
theorem KY [KFrag] {P:Program} {w:World} {K:Frag} {mg:Str->Option Value} {base:Heap} {fad:Addr} {fd:FuncData} (hK:KFrag.K=K) (B:Bt mg)  (F:Fun K "_law_row" "_law_row" sW fad fd) (hm:mg "_law_row" = some (.ref fad)):eO P w K mg base 1 "_law_row" 1 m7:=by
 have sc:=P_;have nd:=sc.nd;refine jZ (ps:=["number"]) (N:=CV) (k:=0) F hm (F.binds fun _ _ _ _ _ _ us hl=>match us,hl with|[_],_=>rfl) sc VL (by decide) (by decide) fun cdv A outer s H E hr=>?_
 have hu:=yK hr;exact aD (bD (i:=1) (o:=false) rfl sc.nd rfl (by trivial) dR) (aD (bD (i:=2) (o:=false) rfl sc.nd rfl (by trivial) dR) (aD (gF PassesOwn.never rfl (gW (by rfl) B.range (aB aJ aH)) (gY (i:=3) rfl) (aQ (i:=3) sc.nd rfl (by trivial)) (aD (bD (i:=2) (o:=false) rfl sc.nd rfl (by trivial) (aZ bK (aA (i:=2)) (bQ (aA (i:=1)) (aZ cZ (aA (i:=0)) aJ)))) (aO (bD (i:=0) (o:=false) rfl sc.nd rfl (by trivial) (aZ dI (aA (i:=0)) aJ))))) (aO (cR (aA (i:=2))))))
theorem G5:bL wH ["cell", "many"] (aK mK):=by refine ⟨rfl,rfl,rfl,?_,rfl,?_,?_⟩ <;> decide +kernel
theorem BJ [KFrag] {P:Program} {w:World} {K:Frag} {mg:Str->Option Value} {base:Heap} {fad:Addr} {fd:FuncData} (hK:KFrag.K=K) (B:Bt mg) (v8:eO P w K mg base 1 "_law_row" 1 m7) (F:Fun K "_law_names" "_law_names" mK fad fd) (hm:mg "_law_names" = some (.ref fad)):eO P w K mg base 2 "_law_names" 2 cP:=by
 have sc:=G5;have nd:=sc.nd;refine jZ (ps:=["cell", "many"]) (N:=wH) (k:=1) F hm (F.binds fun _ _ _ _ _ _ us hl=>match us,hl with|[_,_],_=>rfl) sc J1 (by decide) (by decide) fun cdv A outer s H E hr=>?_
 have hu:=yK hr;exact aD (bD (i:=2) (o:=false) rfl sc.nd rfl (by trivial) dR) (aD (bD (i:=3) (o:=false) rfl sc.nd rfl (by trivial) (aZ bK aJ (aZ cZ (aZ dI (aA (i:=0)) aJ) aJ))) (aD (bD (i:=4) (o:=false) rfl sc.nd rfl (by trivial) (aZ cZ (aZ dI (aA (i:=0)) aJ) (aA (i:=3)))) (aD (bD (i:=5) (o:=false) rfl sc.nd rfl (by trivial) (bR v8 hr (by decide) (by rfl) (aB (aZ dI (aA (i:=0)) aJ) aH))) (aD (bD (i:=6) (o:=true) rfl sc.nd rfl (by trivial) (cT aH)) (aD (gF PassesOwn.never rfl (gW (by rfl) B.range (aB (aA (i:=1)) aH)) (gY (i:=7) rfl) (aQ (i:=7) sc.nd rfl (by trivial)) (aD (bD (i:=8) (o:=false) rfl sc.nd rfl (by trivial) (bQ (aA (i:=2)) (aZ cZ (aZ bK (aZ dI (aA (i:=0)) aJ) (aA (i:=7))) aJ))) (aD (bD (i:=9) (o:=false) rfl sc.nd rfl (by trivial) (aZ bK (aZ bK (mD hK (aA (i:=5)) (nZ) (eN (aA (i:=4)))) (aA (i:=8))) (mD hK (aA (i:=5)) (eN (aA (i:=4))) (eN (aZ aI1 (aA (i:=3)) aJ))))) (aD (gD (cY (iW hu) (aZ cZ (aA (i:=0)) aJ) aJ (cL _)) (aO (bD (i:=9) (o:=false) rfl sc.nd rfl (by trivial) (aZ bK (mD hK (aA (i:=5)) (nZ) (eN (aZ dI (aA (i:=7)) aJ))) (bQ (aA (i:=2)) (aZ cZ (aZ bK (aZ dI (aA (i:=0)) aJ) (aZ cZ (aA (i:=7)) aJ)) aJ))))) cD) (aD (gD (cY (iW hu) (aZ cZ (aA (i:=0)) aJ) aJ (cL _)) (aO (bD (i:=9) (o:=false) rfl sc.nd rfl (by trivial) (aZ bK (bQ (cT (aB dR (aB dR aH))) (aZ cZ (aA (i:=7)) aJ)) (aA (i:=8))))) cD) (aD (gD (cY (iW hu) (aZ cZ (aA (i:=0)) aJ) aJ (cL _)) (aO (bD (i:=9) (o:=false) rfl sc.nd rfl (by trivial) (aZ bK (aA (i:=8)) (bQ (cT (aB dR (aB dR aH))) (aZ cZ (aA (i:=7)) aJ))))) cD) (aD (gD (PW.pt (wQ (cY (iW hu) (aA (i:=9)) dR (cL _)) (oR (cY (iW hu) (aA (i:=9)) dR (cL _))))) (aO (bD (i:=9) (o:=false) rfl sc.nd rfl (by trivial) (aZ bK (aA (i:=9)) dR))) cD) (aO (mC (i:=6) rfl rfl (by trivial) (aA (i:=9))))))))))) (aO (DY (i:=6) rfl rfl (by trivial))))))))
theorem G6:bL jD ["makers", "takers", "wanted", "known", "cells"] (aK jA):=by refine ⟨rfl,rfl,rfl,?_,rfl,?_,?_⟩ <;> decide +kernel
theorem BK [KFrag] {P:Program} {w:World} {K:Frag} {mg:Str->Option Value} {base:Heap} {fad:Addr} {fd:FuncData} (hK:KFrag.K=K) (B:Bt mg)  (F:Fun K "_law_words" "_law_words" jA fad fd) (hm:mg "_law_words" = some (.ref fad)):eO P w K mg base 1 "_law_words" 5 gH:=by
 have sc:=G6;have nd:=sc.nd;refine jZ (ps:=["makers", "takers", "wanted", "known", "cells"]) (N:=jD) (k:=0) F hm (F.binds fun _ _ _ _ _ _ us hl=>match us,hl with|[_,_,_,_,_],_=>rfl) sc J3 (by decide) (by decide) fun cdv A outer s H E hr=>?_
 have hu:=yK hr
 exact aD (bD (i:=5) (o:=true) rfl sc.nd rfl (by trivial) (cT aH)) (aD (bD (i:=6) (o:=false) rfl sc.nd rfl (by trivial) (cT (aB (FZ (aA (i:=2))) aH))) (aD (aIm PassesOwn.never (cY (aL0 hu) (cC (fJ hK) (by rfl) B.len fK (aB (aA (i:=6)) aH)) aJ (cL _)) (aD (bD (i:=7) (o:=false) rfl sc.nd rfl (by trivial) (bQ (aA (i:=6)) aJ)) (aD (bD (i:=6) (o:=false) rfl sc.nd rfl (by trivial) (mD hK (aA (i:=6)) (eN aJ) (nZ))) (aD (bD (i:=8) (o:=false) rfl sc.nd rfl (by trivial) (yG (aI3 hu) (aZ bK (cC (fJ hK) (by rfl) B.len fK (aB (aA (i:=5)) aH)) (cC (fJ hK) (by rfl) B.len fK (aB (aA (i:=6)) aH))) aJ (cL _))) (aD (aBi (show dH jD (aK jA) _ (["name"]:List Str) from by refine ⟨rfl,?_,?_,?_,?_,?_,?_⟩ <;> decide +kernel) (n:=19) (i:=3) rfl rfl rfl (by trivial) (fun _=>aQ (i:=19) (show ((List.map (kW (["name"]:List Str)) jD++(["name"]:List Str)):List Str).Nodup from by decide +kernel) rfl (by trivial)) (fun _=>cY (iW hu) (bQ (aA (i:=3)) (aA (i:=19))) (aA (i:=7)) (cL _)) (fun _=>cQ (aB (aA (i:=19)) (aB (cQ aH) aH))) (fun _=>rfl) (iy:=9) (o:=true) rfl sc.nd rfl (by trivial) (Or.inl rfl) (by with_unfolding_all rfl)) (aD (yJ (i:=0) rfl PassesOwn.never rfl rfl (by trivial) (gZ _ (is:=[10,11,12]) (by decide)) (iY rfl (aV (aQ (i:=10) sc.nd rfl (by trivial)) (aV (aQ (i:=11) sc.nd rfl (by trivial)) (aV (aQ (i:=12) sc.nd rfl (by trivial)) (fG))))) (aO (gD (PW.pt (X_ (cY (iW hu) (aA (i:=11)) (aA (i:=7)) (cL _)) (N7 (PW.pt (wQ (cY (iW hu) (aA (i:=12)) (cQ aH) (cL _)) (oR (dY (aA (i:=8))))))))) (aO (mC (i:=9) rfl rfl (by trivial) (cQ (aB (aA (i:=10)) (aB (aA (i:=12)) aH))))) cD))) (aD (yJ (i:=1) rfl PassesOwn.never rfl rfl (by trivial) (gZ _ (is:=[13,11,14,15]) (by decide)) (iY rfl (aV (aQ (i:=13) sc.nd rfl (by trivial)) (aV (aQ (i:=11) sc.nd rfl (by trivial)) (aV (aQ (i:=14) sc.nd rfl (by trivial)) (aV (aQ (i:=15) sc.nd rfl (by trivial)) (fG)))))) (aO (gD (PW.pt (X_ (cY (iW hu) (aA (i:=11)) (aA (i:=7)) (cL _)) (N7 (dY (aA (i:=8)))))) (aO (mC (i:=9) rfl rfl (by trivial) (cQ (aB (aA (i:=13)) (aB (aZ Y4 (cQ (aB (aA (i:=14)) aH)) (aA (i:=15))) aH))))) cD))) (aD (bD (i:=16) (o:=false) rfl sc.nd rfl (by trivial) (bQ (aA (i:=4)) (aZ cZ (cC (fJ hK) (by rfl) B.len fK (aB (aA (i:=5)) aH)) (cC (fJ hK) (by rfl) B.len fK (aB (aA (i:=4)) aH))))) (aD (aD6 (bQ (aA (i:=9)) (aZ cZ (aA (i:=16)) (cC (fJ hK) (by rfl) B.len fK (aB (aA (i:=9)) aH)))) (gZ _ (is:=[17,18]) (by decide)) (iY rfl (aV (aQ (i:=17) sc.nd rfl (by trivial)) (aV (aQ (i:=18) sc.nd rfl (by trivial)) (fG))))) (aD (mC (i:=5) rfl rfl (by trivial) (aA (i:=17))) (aO (bD (i:=6) (o:=false) rfl sc.nd rfl (by trivial) (aZ bK (dZ (YC (by rfl)) (by rfl) B.list sJ (aB (aA (i:=18)) aH)) (aA (i:=6))))))))))))))) (aO (cR (dZ kY (by rfl) B.tuple k_ (aB (aA (i:=5)) aH))))))
theorem G7:bL jE ["makers", "takers", "pool", "cells"] (aK jB):=by refine ⟨rfl,rfl,rfl,?_,rfl,?_,?_⟩ <;> decide +kernel
theorem BL [KFrag] {P:Program} {w:World} {K:Frag} {mg:Str->Option Value} {base:Heap} {fad:Addr} {fd:FuncData} (hK:KFrag.K=K) (B:Bt mg) (v9:eO P w K mg base 1 "_law_words" 5 gH) (F:Fun K "_law_rules" "_law_rules" jB fad fd) (hm:mg "_law_rules" = some (.ref fad)):eO P w K mg base 2 "_law_rules" 4 jC:=by
 have sc:=G7;have nd:=sc.nd;refine jZ (ps:=["makers", "takers", "pool", "cells"]) (N:=jE) (k:=1) F hm (F.binds fun _ _ _ _ _ _ us hl=>match us,hl with|[_,_,_,_],_=>rfl) sc J5 (by decide) (by decide) fun cdv A outer s H E hr=>?_
 have hu:=yK hr;exact aD (bD (i:=4) (o:=true) rfl sc.nd rfl (by trivial) (cT aH)) (aD (yJ (i:=1) rfl PassesOwn.never rfl rfl (by trivial) (gZ _ (is:=[5,6,7,8]) (by decide)) (iY rfl (aV (aQ (i:=5) sc.nd rfl (by trivial)) (aV (aQ (i:=6) sc.nd rfl (by trivial)) (aV (aQ (i:=7) sc.nd rfl (by trivial)) (aV (aQ (i:=8) sc.nd rfl (by trivial)) (fG)))))) (aO (yJ (i:=0) rfl PassesOwn.never rfl rfl (by trivial) (gZ _ (is:=[9,10,11]) (by decide)) (iY rfl (aV (aQ (i:=9) sc.nd rfl (by trivial)) (aV (aQ (i:=10) sc.nd rfl (by trivial)) (aV (aQ (i:=11) sc.nd rfl (by trivial)) (fG))))) (aO (gD (cY (iW hu) (aA (i:=10)) (aA (i:=7)) (cL _)) (aD (bD (i:=12) (o:=false) rfl sc.nd rfl (by trivial) (aZ bK aJ (aZ lA (cC (fJ hK) (by rfl) B.len fK (aB (aA (i:=4)) aH)) aJ))) (aD (bD (i:=13) (o:=false) rfl sc.nd rfl (by trivial) (aZ dI (bQ (aA (i:=3)) (aZ bK (aA (i:=12)) aJ)) aJ)) (aD (aB7 (ownN:=(["k"]:List Str)) (show dH jE (aK jB) _ (["k"]:List Str) from by refine ⟨rfl,?_,?_,?_,?_,?_,?_⟩ <;> decide +kernel) (n:=17) (m:=1) rfl rfl rfl (gW (by rfl) B.range (aB (aZ bK (cC (fJ hK) (by rfl) B.len fK (aB (aA (i:=11)) aH)) (cC (fJ hK) (by rfl) B.len fK (aB (aA (i:=8)) aH))) aH)) (n6 17) (fun _=>aQ (i:=17) (show ((List.map (kW (["k"]:List Str)) jE++(["k"]:List Str)):List Str).Nodup from by decide +kernel) rfl (by trivial)) (fun _=>bQ (aA (i:=2)) (aZ cZ (aZ bK (aA (i:=13)) (aZ lA (aZ bK aJ (aZ lA aJ (aZ cZ (aZ dI (aA (i:=13)) aJ) aJ))) (aA (i:=17)))) aJ)) (fun _=>rfl) (iy:=14) (o:=false) rfl sc.nd rfl (by trivial) (Or.inl rfl) (by with_unfolding_all rfl)) (aD (bD (i:=15) (o:=false) rfl sc.nd rfl (by trivial) (aBx (by rfl) B.dict (by rfl) B.zip (aB (aA (i:=14)) (aB (aZ Y4 (aA (i:=11)) (aA (i:=8))) aH)))) (aD (bD (i:=16) (o:=false) rfl sc.nd rfl (by trivial) (bR v9 hr (by decide) (by rfl) (aB (aA (i:=0)) (aB (aA (i:=1)) (aB (aA (i:=6)) (aB (aA (i:=15)) (aB (mD hK (aA (i:=3)) (eN (aA (i:=12))) (eN (aZ bK (aA (i:=12)) aJ))) aH))))))) (aO (mC (i:=4) rfl rfl (by trivial) (cQ (aB (aA (i:=5)) (aB (aA (i:=9)) (aB (dZ kY (by rfl) B.tuple k_ (aB (aA (i:=14)) aH)) (aB (aA (i:=16)) aH)))))))))))) cD))))) (aO (DY (i:=4) rfl rfl (by trivial))))
theorem G8:bL wI ["kinds", "many", "cell"] (aK mL):=by refine ⟨rfl,rfl,rfl,?_,rfl,?_,?_⟩ <;> decide +kernel
theorem BP [KFrag] {P:Program} {w:World} {K:Frag} {mg:Str->Option Value} {base:Heap} {fad:Addr} {fd:FuncData} (hK:KFrag.K=K) (B:Bt mg)  (F:Fun K "_law_drawn" "_law_drawn" mL fad fd) (hm:mg "_law_drawn" = some (.ref fad)):eO P w K mg base 1 "_law_drawn" 3 bY:=by
 have sc:=G8;have nd:=sc.nd;refine jZ (ps:=["kinds", "many", "cell"]) (N:=wI) (k:=0) F hm (F.binds fun _ _ _ _ _ _ us hl=>match us,hl with|[_,_,_],_=>rfl) sc J7 (by decide) (by decide) fun cdv A outer s H E hr=>?_
 have hu:=yK hr;exact aD (bD (i:=3) (o:=true) rfl sc.nd rfl (by trivial) (cT aH)) (aD (gF PassesOwn.never rfl (gW (by rfl) B.range (aB (aA (i:=1)) aH)) (gY (i:=4) rfl) (aQ (i:=4) sc.nd rfl (by trivial)) (aD (mC (i:=3) rfl rfl (by trivial) (bQ (aA (i:=0)) (aZ cZ (aA (i:=2)) (cC (fJ hK) (by rfl) B.len fK (aB (aA (i:=0)) aH))))) (aO (bD (i:=2) (o:=false) rfl sc.nd rfl (by trivial) (aZ dI (aA (i:=2)) (cC (fJ hK) (by rfl) B.len fK (aB (aA (i:=0)) aH))))))) (aO (cR (dZ kY (by rfl) B.tuple k_ (aB (aA (i:=3)) aH)))))
theorem yZ:bL nM ["cells"] (aK jM):=by refine ⟨rfl,rfl,rfl,?_,rfl,?_,?_⟩ <;> decide +kernel
theorem wR [KFrag] {P:Program} {w:World} {K:Frag} {mg:Str->Option Value} {base:Heap} {fad:Addr} {fd:FuncData} (hK:KFrag.K=K) (B:Bt mg) (qT:eO P w K mg base 2 "_law_names" 2 cP) (qU:eO P w K mg base 1 "_law_drawn" 3 bY) (va:eO P w K mg base 2 "_law_rules" 4 jC) (F:Fun K "_law_program" "_law_program" jM fad fd) (hm:mg "_law_program" = some (.ref fad)):eO P w K mg base 3 "_law_program" 1 d9:=by
 have sc:=yZ;have nd:=sc.nd;refine jZ (ps:=["cells"]) (N:=nM) (k:=2) F hm (F.binds fun _ _ _ _ _ _ us hl=>match us,hl with|[_],_=>rfl) sc zU (by decide) (by decide) fun cdv A outer s H E hr=>?_
 have hu:=yK hr
 exact aD (bD (i:=1) (o:=false) rfl sc.nd rfl (by trivial) (bR qT hr (by decide) (by rfl) (aB (bQ (aA (i:=0)) aJ) (aB aJ aH)))) (aD (bD (i:=2) (o:=false) rfl sc.nd rfl (by trivial) (mD hK (aA (i:=1)) (nZ) (eN (aZ bK aJ (aZ cZ (bQ (aA (i:=0)) aJ) aJ))))) (aD (bD (i:=3) (o:=true) rfl sc.nd rfl (by trivial) (cT aH)) (aD (gF PassesOwn.never rfl (gW (by rfl) B.range (aB (cC (fJ hK) (by rfl) B.len fK (aB (aA (i:=2)) aH)) aH)) (gY (i:=4) rfl) (aQ (i:=4) sc.nd rfl (by trivial)) (aD (mC (i:=3) rfl rfl (by trivial) (cQ (aB (bQ (aA (i:=1)) (aZ bK aJ (aZ lA aJ (aA (i:=4))))) (aB (bQ (aA (i:=2)) (aA (i:=4))) (aB (cQ aH) aH))))) (aO (gF PassesOwn.never rfl (gW (by rfl) B.range (aB (aZ bK aJ (aZ cZ (bQ (aA (i:=0)) (aZ bK aJ (aA (i:=4)))) aJ)) aH)) (gY (i:=5) rfl) (aQ (i:=5) sc.nd rfl (by trivial)) (aD (bD (i:=6) (o:=false) rfl sc.nd rfl (by trivial) (aZ bK aJ (aZ cZ (aZ dI (bQ (aA (i:=0)) (aZ bK aJ (aA (i:=4)))) (aZ bK aJ (aZ lA aJ (aA (i:=5))))) aJ))) (aD (bD (i:=7) (o:=false) rfl sc.nd rfl (by trivial) (bR qU hr (by decide) (by rfl) (aB (aA (i:=2)) (aB (aA (i:=6)) (aB (aZ dI (bQ (aA (i:=0)) (aZ bK aJ (aA (i:=4)))) (aZ bK aJ (aA (i:=5)))) aH))))) (aO (mC (i:=3) rfl rfl (by trivial) (cQ (aB (bQ (aA (i:=1)) (aZ bK (aZ bK aJ (aZ lA aJ (aA (i:=4)))) (aA (i:=5)))) (aB (bQ (aA (i:=2)) (aA (i:=4))) (aB (aA (i:=7)) aH)))))))))))) (aD (bD (i:=8) (o:=true) rfl sc.nd rfl (by trivial) (cT aH)) (aD (gF PassesOwn.never rfl (gW (by rfl) B.range (aB (bQ (cT (aB aJ (aB aJ (aB aJ (aB aJ (aB aJ (aB aJ aH))))))) (aZ cZ (aZ dI (bQ (aA (i:=0)) aJ) aJ) aJ)) aH)) (gY (i:=4) rfl) (aQ (i:=4) sc.nd rfl (by trivial)) (aD (aD6 (bR qU hr (by decide) (by rfl) (aB (aA (i:=2)) (aB aJ (aB (bQ (aA (i:=0)) (aZ bK aJ (aA (i:=4)))) aH)))) (gZ _ (is:=[9,10]) (by decide)) (iY rfl (aV (aQ (i:=9) sc.nd rfl (by trivial)) (aV (aQ (i:=10) sc.nd rfl (by trivial)) (fG))))) (aD (bD (i:=11) (o:=false) rfl sc.nd rfl (by trivial) (bR qU hr (by decide) (by rfl) (aB (aA (i:=2)) (aB (aZ cZ (aZ dI (bQ (aA (i:=0)) (aZ bK aJ (aA (i:=4)))) aJ) aJ) (aB (aZ dI (bQ (aA (i:=0)) (aZ bK aJ (aA (i:=4)))) aJ) aH))))) (aO (mC (i:=8) rfl rfl (by trivial) (cQ (aB (bQ (aA (i:=1)) (aZ bK aJ (aA (i:=4)))) (aB (aA (i:=9)) (aB (aA (i:=10)) (aB (aA (i:=11)) aH)))))))))) (aD (bD (i:=12) (o:=true) rfl sc.nd rfl (by trivial) (bR va hr (by decide) (by rfl) (aB (aA (i:=3)) (aB (aA (i:=8)) (aB (mD hK (aA (i:=1)) (eN aJ) (eN aJ)) (aB (aA (i:=0)) aH)))))) (aD (gD (cY (iW hu) (aZ cZ (aZ dI (bQ (aA (i:=0)) aJ) aJ) aJ) aJ (cL _)) (aO (aJ5 (i:=12) rfl rfl (by trivial))) cD) (aD (bD (i:=2) (o:=false) rfl sc.nd rfl (by trivial) (aZ bK (aA (i:=2)) (mD hK (aA (i:=1)) (eN aJ) (eN (aZ bK aJ (aZ cZ (aZ dI (bQ (aA (i:=0)) aJ) aJ) aJ)))))) (aO (cR (cQ (aB (dZ kY (by rfl) B.tuple k_ (aB (aA (i:=2)) aH)) (aB (dZ kY (by rfl) B.tuple k_ (aB (aA (i:=3)) aH)) (aB (dZ kY (by rfl) B.tuple k_ (aB (aA (i:=8)) aH)) (aB (dZ kY (by rfl) B.tuple k_ (aB (aA (i:=12)) aH)) aH)))))))))))))))
theorem G9:bL fB ["program"] (aK gJ):=by refine ⟨rfl,rfl,rfl,?_,rfl,?_,?_⟩ <;> decide +kernel
theorem BR [KFrag] {P:Program} {w:World} {K:Frag} {mg:Str->Option Value} {base:Heap} {fad:Addr} {fd:FuncData} (hK:KFrag.K=K) (B:Bt mg)  (F:Fun K "_law_hooks" "_law_hooks" gJ fad fd) (hm:mg "_law_hooks" = some (.ref fad)):eO P w K mg base 1 "_law_hooks" 1 dM:=by
 have sc:=G9;have nd:=sc.nd;refine jZ (ps:=["program"]) (N:=fB) (k:=0) F hm (F.binds fun _ _ _ _ _ _ us hl=>match us,hl with|[_],_=>rfl) sc J9 (by decide) (by decide) fun cdv A outer s H E hr=>?_
 have hu:=yK hr;exact aD (bD (i:=1) (o:=true) rfl sc.nd rfl (by trivial) (aB0)) (aD (gF PassesOwn.never rfl (g8 (bQ (aA (i:=0)) aJ)) (gZ _ (is:=[2,3,4]) (by decide)) (iY rfl (aV (aQ (i:=2) sc.nd rfl (by trivial)) (aV (aQ (i:=3) sc.nd rfl (by trivial)) (aV (aQ (i:=4) sc.nd rfl (by trivial)) (fG))))) (aO (RM (i:=1) hu rfl rfl (by trivial) (aA (i:=2)) (aBy (aZ bK (cT (aB (FZ (cQ (aB gU (aB (aA (i:=3)) aH)))) aH)) (wZ (ownN:=(["part_kind"]:List Str)) (show dH fB (aK gJ) _ (["part_kind"]:List Str) from by refine ⟨rfl,?_,?_,?_,?_,?_,?_⟩ <;> decide +kernel) (n:=8) (m:=1) rfl rfl rfl (g8 (aA (i:=4))) (n6 8) (fun _=>aQ (i:=8) (show ((List.map (kW (["part_kind"]:List Str)) fB++(["part_kind"]:List Str)):List Str).Nodup from by decide +kernel) rfl (by trivial)) (fun _=>cQ (aB gU (aB (aA (i:=8)) aH))) (fun _=>rfl))))))) (aD (gF PassesOwn.never rfl (g8 (bQ (aA (i:=0)) aJ)) (gZ _ (is:=[5,3,6,7]) (by decide)) (iY rfl (aV (aQ (i:=5) sc.nd rfl (by trivial)) (aV (aQ (i:=3) sc.nd rfl (by trivial)) (aV (aQ (i:=6) sc.nd rfl (by trivial)) (aV (aQ (i:=7) sc.nd rfl (by trivial)) (fG)))))) (aO (RM (i:=1) hu rfl rfl (by trivial) (aA (i:=5)) (aBy (aZ bK (cT (aB (FZ (cQ (aB gU (aB (aA (i:=6)) aH)))) (aB (FZ (cQ (aB gU (aB (aA (i:=3)) aH)))) aH))) (wZ (ownN:=(["more_kind"]:List Str)) (show dH fB (aK gJ) _ (["more_kind"]:List Str) from by refine ⟨rfl,?_,?_,?_,?_,?_,?_⟩ <;> decide +kernel) (n:=8) (m:=1) rfl rfl rfl (g8 (aA (i:=7))) (n6 8) (fun _=>aQ (i:=8) (show ((List.map (kW (["more_kind"]:List Str)) fB++(["more_kind"]:List Str)):List Str).Nodup from by decide +kernel) rfl (by trivial)) (fun _=>cQ (aB gU (aB (aA (i:=8)) aH))) (fun _=>rfl))))))) (aD (RM (i:=1) hu rfl rfl (by trivial) dR (aBy (cT (aB (cQ (aB gU (aB lW aH))) (aB (cQ (aB gU (aB lW aH))) (aB (cQ (aB gU (aB lW aH))) aH)))))) (aD (RM (i:=1) hu rfl rfl (by trivial) dR (aBy (cT (aB (cQ (aB gU (aB lW aH))) aH)))) (aO (DY (i:=1) rfl rfl (by trivial)))))))
theorem BV:bL iH ["cells", "program", "hooks"] (aK iG):=by refine ⟨rfl,rfl,rfl,?_,rfl,?_,?_⟩ <;> decide +kernel
theorem y_ [KFrag] {P:Program} {w:World} {K:Frag} {mg:Str->Option Value} {base:Heap} {fad:Addr} {fd:FuncData} (hK:KFrag.K=K) (B:Bt mg) (qT:eO P w K mg base 2 "_law_names" 2 cP) (F:Fun K "_law_beside" "_law_beside" iG fad fd) (hm:mg "_law_beside" = some (.ref fad)):eO P w K mg base 3 "_law_beside" 3 fM:=by
 have sc:=BV;have nd:=sc.nd;refine jZ (ps:=["cells", "program", "hooks"]) (N:=iH) (k:=2) F hm (F.binds fun _ _ _ _ _ _ us hl=>match us,hl with|[_,_,_],_=>rfl) sc GQ (by decide) (by decide) fun cdv A outer s H E hr=>?_
 have hu:=yK hr;exact aD (bD (i:=3) (o:=false) rfl sc.nd rfl (by trivial) (bR qT hr (by decide) (by rfl) (aB (bQ (aA (i:=0)) aJ) (aB aJ aH)))) (aD (bD (i:=4) (o:=false) rfl sc.nd rfl (by trivial) (aZ bK (dZ (YC (by rfl)) (by rfl) B.list sJ (aB (bQ (aA (i:=1)) aJ) aH)) (cT (aB (FZ (bQ (aA (i:=3)) aJ)) (aB (FZ (bQ (aA (i:=3)) aJ)) (aB dR (aB dR (aB dR aH)))))))) (aD (gF PassesOwn.never rfl (aLt (aA (i:=2))) (gY (i:=5) rfl) (aQ (i:=5) sc.nd rfl (by trivial)) (aO (bD (i:=4) (o:=false) rfl sc.nd rfl (by trivial) (aZ bK (aA (i:=4)) (cT (aB (mD hK (aA (i:=5)) (nZ) (eN (aHx aCz aJ))) (aB (aZ bK (mD hK (aA (i:=5)) (nZ) (eN aJ)) dR) (aB (aZ bK (mD hK (aA (i:=5)) (nZ) (eN (aHx aCz aJ))) dR) aH)))))))) (aO (cR (sI (ownN:=(["name"]:List Str)) (show dH iH (aK iG) _ (["name"]:List Str) from by refine ⟨rfl,?_,?_,?_,?_,?_,?_⟩ <;> decide +kernel) (n:=6) (m:=1) rfl rfl rfl (g8 (aA (i:=4))) (n6 6) (fun _=>aQ (i:=6) (show ((List.map (kW (["name"]:List Str)) iH++(["name"]:List Str)):List Str).Nodup from by decide +kernel) rfl (by trivial)) (fun _=>PW.pt (X_ (cY (aB1 hu) (aA (i:=6)) dR (cL _)) (N7 (cY (ZX hu) (aA (i:=6)) (aA (i:=2)) (by with_unfolding_all rfl))))) (fun _=>aA (i:=6)) (fun _=>rfl))))))
theorem VR:bL KH ["program", "name"] (aK yW):=by refine ⟨rfl,rfl,rfl,?_,rfl,?_,?_⟩ <;> decide +kernel
theorem QB [KFrag] {P:Program} {w:World} {K:Frag} {mg:Str->Option Value} {base:Heap} {fad:Addr} {fd:FuncData} (hK:KFrag.K=K) (B:Bt mg)  (qV:aLj P w K mg base 1 "NoName" ["word"]) (q_MakerRole:ZM P w K mg base 2 "MakerRole" eV 2) (q_TakerRole:ZM P w K mg base 2 "TakerRole" eY 3) (q_CopyRole:ZM P w K mg base 2 "CopyRole" j6 0) (q_DropRole:ZM P w K mg base 2 "DropRole" j7 0) (F:Fun K "role_of" "role_of" yW fad fd) (hm:mg "role_of" = some (.ref fad)):VH P w K mg base 4 "role_of" 2 dB:=by
 have sc:=VR;have nd:=sc.nd;refine aIt (ps:=["program", "name"]) (N:=KH) (k:=3) F hm (F.binds fun _ _ _ _ _ _ us hl=>match us,hl with|[_,_],_=>rfl) sc Z1 (by decide) (by decide) fun cdv A outer s H E hr=>?_
 have hu:=yK hr;exact R9 (R8 (gF PassesOwn.never rfl (g8 (bQ (aA (i:=0)) aJ)) (gZ _ (is:=[2,3,4]) (by decide)) (iY rfl (aV (aQ (i:=2) sc.nd rfl (by trivial)) (aV (aQ (i:=3) sc.nd rfl (by trivial)) (aV (aQ (i:=4) sc.nd rfl (by trivial)) (fG))))) (aO (gD (cY (iW hu) (aA (i:=2)) (aA (i:=1)) (cL _)) (aO (cR (ZP hK q_MakerRole hr (by decide) (by rfl) (aB (aA (i:=3)) (aB (aA (i:=4)) aH))))) cD)))) (R9 (R8 (gF PassesOwn.never rfl (g8 (bQ (aA (i:=0)) aJ)) (gZ _ (is:=[5,3,6,7]) (by decide)) (iY rfl (aV (aQ (i:=5) sc.nd rfl (by trivial)) (aV (aQ (i:=3) sc.nd rfl (by trivial)) (aV (aQ (i:=6) sc.nd rfl (by trivial)) (aV (aQ (i:=7) sc.nd rfl (by trivial)) (fG)))))) (aO (gD (cY (iW hu) (aA (i:=5)) (aA (i:=1)) (cL _)) (aO (cR (ZP hK q_TakerRole hr (by decide) (by rfl) (aB (aA (i:=3)) (aB (aA (i:=6)) (aB (aA (i:=7)) aH)))))) cD)))) (R9 (R8 (gD (cY (iW hu) (aA (i:=1)) dR (cL _)) (aO (cR (SN hK q_CopyRole hr (by decide) (by rfl)))) cD)) (R9 (R8 (gD (cY (iW hu) (aA (i:=1)) dR (cL _)) (aO (cR (SN hK q_DropRole hr (by decide) (by rfl)))) cD)) (aLf (aBn qV hK hr (by decide) (by rfl) (aB (aA (i:=1)) aH))))))
theorem zA:bL nO ["program", "name"] (aK jN):=by refine ⟨rfl,rfl,rfl,?_,rfl,?_,?_⟩ <;> decide +kernel
theorem wU [KFrag] {P:Program} {w:World} {K:Frag} {mg:Str->Option Value} {base:Heap} {fad:Addr} {fd:FuncData} (hK:KFrag.K=K) (B:Bt mg)  (qj:VH P w K mg base 4 "role_of" 2 dB) {uM:Addr} (vb:mg "MillError" = some (.ref uM)) {qW:Addr} (vc:mg "NoName" = some (.ref qW)) (vd:mg "ValueError" = none) {qX:Addr} (ve:mg "Unfit" = some (.ref qX)) {qY:Addr} (vg:mg "Twice" = some (.ref qY)) {qZ:Addr} (vh:mg "BadKind" = some (.ref qZ)) {r6:Addr} (vi:mg "NoEnd" = some (.ref r6)) (y1:aIw (fun c=>∃C,nsIn K mainGlobals c=some (some (.ref C))/\exmOne K (.ref C) (.ref uM)=some true) ["NoName"]) (y2:VJ (fun c b=>∃C,nsIn K mainGlobals c=some (some (.ref C))/\XC K C/\kitOne K (.ref C) (.ref qW)=some b) [("NoName",true)]) (y3:VJ (fun c b=>∃C,nsIn K mainGlobals c=some (some (.ref C))/\XC K C/\kitOne K (.ref C) (.type "ValueError")=some b) [("NoName",true)]) (y4:VJ (fun c b=>∃C,nsIn K mainGlobals c=some (some (.ref C))/\XC K C/\kitOne K (.ref C) (.ref qX)=some b) [("NoName",false)]) (y5:VJ (fun c b=>∃C,nsIn K mainGlobals c=some (some (.ref C))/\XC K C/\kitOne K (.ref C) (.ref qY)=some b) [("NoName",false)]) (y6:VJ (fun c b=>∃C,nsIn K mainGlobals c=some (some (.ref C))/\XC K C/\kitOne K (.ref C) (.ref qZ)=some b) [("NoName",false)]) (y7:VJ (fun c b=>∃C,nsIn K mainGlobals c=some (some (.ref C))/\XC K C/\kitOne K (.ref C) (.ref r6)=some b) [("NoName",false)]) (y8:aIw (fun c=>∃C,nsIn K mainGlobals c=some (some (.ref C))/\XA K C "word") ["NoName"]) (y9:aIw (fun c=>∃C,nsIn K mainGlobals c=some (some (.ref C))/\XA K C "word") ["NoName"]) (F:Fun K "_law_no_role" "_law_no_role" jN fad fd) (hm:mg "_law_no_role" = some (.ref fad)):eO P w K mg base 5 "_law_no_role" 2 d_:=by
 have sc:=zA;have nd:=sc.nd;refine jZ (ps:=["program", "name"]) (N:=nO) (k:=4) F hm (F.binds fun _ _ _ _ _ _ us hl=>match us,hl with|[_,_],_=>rfl) sc zW (by decide) (by decide) fun cdv A outer s H E hr=>?_
 have hu:=yK hr;exact aD (bD (i:=2) (o:=false) rfl sc.nd rfl (by trivial) lW) (aD (aIv (ic:=2) (ie:=3) hK rfl rfl qj hr (by decide) (by rfl) (aB (aA (i:=0)) (aB (aA (i:=1)) aH)) (by rfl) vb (GC y1) sc.nd rfl rfl rfl (by trivial) (.inl rfl) rfl rfl (by decide)) (aD (gD (PW.pt (wQ (jV (dY (sU (i:=2) (v:=.ref qW) hK (g_ y2) (fun u r=>r) (by rfl) B.isi rfl (by trivial) (jG (by rfl) vc rfl) rfl rfl))) (wQ (jV (dY (sU (i:=2) (v:=.ty "ValueError") hK (g_ y3) (fun u r=>r) (by rfl) B.isi rfl (by trivial) (WL (by rfl) vd FP rfl) rfl rfl))) (oR (dY (sU (i:=2) (v:=.ref qX) hK (g_ y4) (fun u r=>r) (by rfl) B.isi rfl (by trivial) (jG (by rfl) ve rfl) rfl rfl)))))) (aO (cR gU)) cD) (aD (gD (PW.pt (wQ (dY (sU (i:=2) (v:=.ref qY) hK (g_ y5) (fun u r=>r) (by rfl) B.isi rfl (by trivial) (jG (by rfl) vg rfl) rfl rfl)) (wQ (dY (sU (i:=2) (v:=.ref qZ) hK (g_ y6) (fun u r=>r) (by rfl) B.isi rfl (by trivial) (jG (by rfl) vh rfl) rfl rfl)) (oR (dY (sU (i:=2) (v:=.ref r6) hK (g_ y7) (fun u r=>r) (by rfl) B.isi rfl (by trivial) (jG (by rfl) vi rfl) rfl rfl)))))) (aO (cR gU)) cD) (aO (cR (aCy (JK .str (ZK (i:=2) hK (GC y8) rfl (by trivial)) (by rfl) B.isi fL (by rfl) B.str aD3) (Q_ (yG (iW hu) (ZK (i:=2) hK (GC y9) rfl (by trivial)) (aA (i:=1)) (cL _)))))))))
theorem G_:bL wJ ["role", "program", "name"] (aK mO):=by refine ⟨rfl,rfl,rfl,?_,rfl,?_,?_⟩ <;> decide +kernel
theorem BW [KFrag] {P:Program} {w:World} {K:Frag} {mg:Str->Option Value} {base:Heap} {fad:Addr} {fd:FuncData} (hK:KFrag.K=K) (B:Bt mg)  {r8:Addr} (vj:mg "TakerRole" = some (.ref r8)) {r9:Addr} (vk:mg "MakerRole" = some (.ref r9)) {rg:Addr} (vm:mg "DropRole" = some (.ref rg)) {rh:Addr} (vn:mg "CopyRole" = some (.ref rh)) {rj:Addr} (vo:mg "Role" = some (.ref rj)) (y1:VJ (fun c b=>∃C,nsIn K mainGlobals c=some (some (.ref C))/\CI K C/\kitOne K (.ref C) (.ref r8)=some b) [("MakerRole",false),("TakerRole",true),("CopyRole",false),("DropRole",false)]) (y2:VJ (fun c b=>∃C,nsIn K mainGlobals c=some (some (.ref C))/\CI K C/\kitOne K (.ref C) (.ref r9)=some b) [("MakerRole",true),("TakerRole",false),("CopyRole",false),("DropRole",false)]) (y3:VJ (fun c b=>∃C,nsIn K mainGlobals c=some (some (.ref C))/\CI K C/\kitOne K (.ref C) (.ref rg)=some b) [("MakerRole",false),("TakerRole",false),("CopyRole",false),("DropRole",true)]) (y4:VJ (fun c b=>∃C,nsIn K mainGlobals c=some (some (.ref C))/\CI K C/\kitOne K (.ref C) (.ref rh)=some b) [("MakerRole",false),("TakerRole",false),("CopyRole",true),("DropRole",false)]) (y5:VJ (fun c b=>∃C,nsIn K mainGlobals c=some (some (.ref C))/\CI K C/\kitOne K (.ref C) (.ref rj)=some b) [("MakerRole",true),("TakerRole",true),("CopyRole",true),("DropRole",true)]) (F:Fun K "_law_class" "_law_class" mO fad fd) (hm:mg "_law_class" = some (.ref fad)):eO P w K mg base 1 "_law_class" 3 e_:=by
 have sc:=G_;have nd:=sc.nd;refine jZ (ps:=["role", "program", "name"]) (N:=wJ) (k:=0) F hm (F.binds fun _ _ _ _ _ _ us hl=>match us,hl with|[_,_,_],_=>rfl) sc KC (by decide) (by decide) fun cdv A outer s H E hr=>?_
 have hu:=yK hr;exact aD (bD (i:=3) (o:=true) rfl sc.nd rfl (by trivial) (cT (aB gU (aB gU (aB (yG (iW hu) (aA (i:=2)) dR (cL _)) (aB (yG (iW hu) (aA (i:=2)) dR (cL _)) aH)))))) (aD (gF PassesOwn.never rfl (g8 (bQ (aA (i:=1)) aJ)) (gZ _ (is:=[4,5,6]) (by decide)) (iY rfl (aV (aQ (i:=4) sc.nd rfl (by trivial)) (aV (aQ (i:=5) sc.nd rfl (by trivial)) (aV (aQ (i:=6) sc.nd rfl (by trivial)) (fG))))) (aO (ZC (i:=3) rfl rfl (by trivial) aJ (aHz (bQ (aA (i:=3)) aJ) (Q_ (yG (iW hu) (aA (i:=4)) (aA (i:=2)) (cL _))))))) (aD (gF PassesOwn.never rfl (g8 (bQ (aA (i:=1)) aJ)) (gZ _ (is:=[7,5,8,9]) (by decide)) (iY rfl (aV (aQ (i:=7) sc.nd rfl (by trivial)) (aV (aQ (i:=5) sc.nd rfl (by trivial)) (aV (aQ (i:=8) sc.nd rfl (by trivial)) (aV (aQ (i:=9) sc.nd rfl (by trivial)) (fG)))))) (aO (ZC (i:=3) rfl rfl (by trivial) aJ (aHz (bQ (aA (i:=3)) aJ) (Q_ (yG (iW hu) (aA (i:=7)) (aA (i:=2)) (cL _))))))) (aD (bD (i:=10) (o:=false) rfl sc.nd rfl (by trivial) (cT (aB (yU (i:=0) (v:=.ref r9) hK (g_ y2) (fun u r=>r) (by rfl) B.isi rfl (by trivial) (jG (by rfl) vk rfl) rfl rfl) (aB (yU (i:=0) (v:=.ref r8) hK (g_ y1) (fun u r=>r) (by rfl) B.isi rfl (by trivial) (jG (by rfl) vj rfl) rfl rfl) aH)))) (aD (bD (i:=10) (o:=false) rfl sc.nd rfl (by trivial) (aZ bK (aA (i:=10)) (cT (aB (yU (i:=0) (v:=.ref rh) hK (g_ y4) (fun u r=>r) (by rfl) B.isi rfl (by trivial) (jG (by rfl) vn rfl) rfl rfl) (aB (yU (i:=0) (v:=.ref rg) hK (g_ y3) (fun u r=>r) (by rfl) B.isi rfl (by trivial) (jG (by rfl) vm rfl) rfl rfl) aH))))) (aO (cR (aCy (yU (i:=0) (v:=.ref rj) hK (g_ y5) (fun u r=>r) (by rfl) B.isi rfl (by trivial) (jG (by rfl) vo rfl) rfl rfl) (Q_ (yG (iW hu) (aA (i:=10)) (aA (i:=3)) (cL _))))))))))
theorem zB:bL nP ["found", "due"] (aK jO):=by refine ⟨rfl,rfl,rfl,?_,rfl,?_,?_⟩ <;> decide +kernel
theorem wV [KFrag] {P:Program} {w:World} {K:Frag} {mg:Str->Option Value} {base:Heap} {fad:Addr} {fd:FuncData} (hK:KFrag.K=K) (B:Bt mg)  (F:Fun K "_law_numbers" "_law_numbers" jO fad fd) (hm:mg "_law_numbers" = some (.ref fad)):eO P w K mg base 1 "_law_numbers" 2 eE:=by
 have sc:=zB;have nd:=sc.nd;refine jZ (ps:=["found", "due"]) (N:=nP) (k:=0) F hm (F.binds fun _ _ _ _ _ _ us hl=>match us,hl with|[_,_],_=>rfl) sc zY (by decide) (by decide) fun cdv A outer s H E hr=>?_
 have hu:=yK hr;exact aD (gD (PW.pt (wQ (jV (dY (JK .list (aA (i:=0)) (by rfl) B.isi fL (by rfl) B.list sJ))) (oR (cY (aB1 hu) (cC (fJ hK) (by rfl) B.len fK (aB (aA (i:=0)) aH)) (cC (fJ hK) (by rfl) B.len fK (aB (aA (i:=1)) aH)) (cL _))))) (aO (cR gU)) cD) (aD (gF PassesOwn.never rfl (gW (by rfl) B.range (aB (cC (fJ hK) (by rfl) B.len fK (aB (aA (i:=1)) aH)) aH)) (gY (i:=2) rfl) (aQ (i:=2) sc.nd rfl (by trivial)) (aO (gD (PW.pt (wQ (jV (dY (JK .int (bQ (aA (i:=0)) (aA (i:=2))) (by rfl) B.isi fL (by rfl) B.int aIa))) (wQ (dY (JK .bool (bQ (aA (i:=0)) (aA (i:=2))) (by rfl) B.isi fL (by rfl) B.bool aEz)) (oR (cY (aB1 hu) (bQ (aA (i:=0)) (aA (i:=2))) (bQ (aA (i:=1)) (aA (i:=2))) (cL _)))))) (aO (cR gU)) cD))) (aO (cR gU)))
theorem oX:bL cH ["role", "hooks"] (aK cU):=by refine ⟨rfl,rfl,rfl,?_,rfl,?_,?_⟩ <;> decide +kernel
theorem oA [KFrag] {P:Program} {w:World} {K:Frag} {mg:Str->Option Value} {base:Heap} {fad:Addr} {fd:FuncData} (hK:KFrag.K=K) (B:Bt mg) (uN:eO P w K mg base 1 "_law_numbers" 2 eE) (pN:∀c∈rcs,V8 P w K mg base 1 c "gives" 1 mG) (pO:∀c∈rcs,V8 P w K mg base 1 c "takes" 1 mH) (rm:∀c∈rcs,V8 P w K mg base 1 c "kind_at" 2 j8) (F:Fun K "_law_hooks_told" "_law_hooks_told" cU fad fd) (hm:mg "_law_hooks_told" = some (.ref fad)):eO P w K mg base 2 "_law_hooks_told" 2 bF:=by
 have sc:=oX;have nd:=sc.nd;refine jZ (ps:=["role", "hooks"]) (N:=cH) (k:=1) F hm (F.binds fun _ _ _ _ _ _ us hl=>match us,hl with|[_,_],_=>rfl) sc sX (by decide) (by decide) fun cdv A outer s H E hr=>?_
 have hu:=yK hr;exact aD (gD (jV (dY (bR uN hr (by decide) (by rfl) (aB (oW hK pN hr (by decide) (aA (i:=0))) (aB (sI (ownN:=(["k"]:List Str)) (show dH cH (aK cU) _ (["k"]:List Str) from by refine ⟨rfl,?_,?_,?_,?_,?_,?_⟩ <;> decide +kernel) (n:=4) (m:=1) rfl rfl rfl (gW (by rfl) B.range (aB (cC (fJ hK) (by rfl) B.len fK (aB (aA (i:=1)) aH)) aH)) (n6 4) (fun _=>aQ (i:=4) (show ((List.map (kW (["k"]:List Str)) cH++(["k"]:List Str)):List Str).Nodup from by decide +kernel) rfl (by trivial)) (fun _=>dY (bQ (bQ (aA (i:=1)) (aA (i:=4))) aJ)) (fun _=>aA (i:=4)) (fun _=>rfl)) aH))))) (aO (cR gU)) cD) (aD (gD (jV (dY (bR uN hr (by decide) (by rfl) (aB (oW hK pO hr (by decide) (aA (i:=0))) (aB (sI (ownN:=(["k"]:List Str)) (show dH cH (aK cU) _ (["k"]:List Str) from by refine ⟨rfl,?_,?_,?_,?_,?_,?_⟩ <;> decide +kernel) (n:=4) (m:=1) rfl rfl rfl (gW (by rfl) B.range (aB (cC (fJ hK) (by rfl) B.len fK (aB (aA (i:=1)) aH)) aH)) (n6 4) (fun _=>aQ (i:=4) (show ((List.map (kW (["k"]:List Str)) cH++(["k"]:List Str)):List Str).Nodup from by decide +kernel) rfl (by trivial)) (fun _=>jV (dY (bQ (bQ (aA (i:=1)) (aA (i:=4))) aJ))) (fun _=>aA (i:=4)) (fun _=>rfl)) aH))))) (aO (cR gU)) cD) (aD (gF PassesOwn.never rfl (gW (by rfl) B.range (aB (cC (fJ hK) (by rfl) B.len fK (aB (aA (i:=1)) aH)) aH)) (gY (i:=2) rfl) (aQ (i:=2) sc.nd rfl (by trivial)) (aD (bD (i:=3) (o:=false) rfl sc.nd rfl (by trivial) (aBp hK rm hr (by decide) (aA (i:=0)) (aB (aA (i:=2)) aH))) (aO (gD (cY aI4 (bQ (bQ (aA (i:=1)) (aA (i:=2))) aJ) lW (cL _)) (aO (gD (cY aEq (aA (i:=3)) lW (cL _)) (aO (cR gU)) cD)) (aO (gD (PW.pt (wQ (jV (dY (JK .str (aA (i:=3)) (by rfl) B.isi fL (by rfl) B.str aD3))) (oR (cY (aB1 hu) (aA (i:=3)) (bQ (bQ (aA (i:=1)) (aA (i:=2))) aJ) (cL _))))) (aO (cR gU)) cD)))))) (aO (cR gU))))
theorem aJd:bL aJc ["script"] (aK GX):=by refine ⟨rfl,rfl,rfl,?_,rfl,?_,?_⟩ <;> decide +kernel
theorem aJe [KFrag] {P:Program} {w:World} {K:Frag} {mg:Str->Option Value} {base:Heap} {fad:Addr} {fd:FuncData} (hK:KFrag.K=K) (B:Bt mg) (vp:eO P w K mg base 1 "_law_cells" 2 gG) (vq:eO P w K mg base 3 "_law_program" 1 d9) (vw:eO P w K mg base 1 "_law_hooks" 1 dM) (uO:eO P w K mg base 4 "role_of" 2 dB) (vx:eO P w K mg base 1 "_law_class" 3 e_) (rq:eO P w K mg base 2 "_law_hooks_told" 2 bF) (vz:eO P w K mg base 5 "_law_no_role" 2 d_) (vA:eO P w K mg base 3 "_law_beside" 3 fM) (pN:∀c∈rcs,V8 P w K mg base 1 c "gives" 1 mG) (pO:∀c∈rcs,V8 P w K mg base 1 c "takes" 1 mH) (F:Fun K "law" "law" GX fad fd):jQ P w K mg base CX0 6 fad fd ["script"] (spD O8 1):=by
 have sc:=aJd;have nd:=sc.nd;refine YJ (ps:=["script"]) (N:=aJc) (k:=5) F sc o_law (by decide) (by decide) fun cdv A outer s H E hr=>?_
 have hu:=yK hr;exact aD (bD (i:=1) (o:=false) rfl sc.nd rfl (by trivial) (bR vp hr (by decide) (by rfl) (aB (aA (i:=0)) (aB aJ aH)))) (aD (bD (i:=2) (o:=false) rfl sc.nd rfl (by trivial) (bR vq hr (by decide) (by rfl) (aB (aA (i:=1)) aH))) (aD (bD (i:=3) (o:=false) rfl sc.nd rfl (by trivial) (aJa (bR vw hr (by decide) (by rfl) (aB (aA (i:=2)) aH)))) (aD (bD (i:=4) (o:=false) rfl sc.nd rfl (by trivial) (dZ (aC0 (by rfl)) (by rfl) B.list sJ (aB (aA (i:=3)) aH))) (aD (gD (cY (iW hu) (aZ cZ (bQ (aA (i:=1)) aJ) aJ) aJ (cL _)) (aO (bD (i:=4) (o:=false) rfl sc.nd rfl (by trivial) (aBu (by rfl) (by rfl) B.list (by rfl) B.reversed (aA (i:=4))))) cD) (aD (yJ (i:=4) rfl PassesOwn.never rfl rfl (by trivial) (gY (i:=5) rfl) (aQ (i:=5) sc.nd rfl (by trivial)) (aD (bD (i:=6) (o:=false) rfl sc.nd rfl (by trivial) (bR uO hr (by decide) (by rfl) (aB (aA (i:=2)) (aB (aA (i:=5)) aH)))) (aD (gD (PW.pt (wQ (jV (dY (bR vx hr (by decide) (by rfl) (aB (aA (i:=6)) (aB (aA (i:=2)) (aB (aA (i:=5)) aH)))))) (oR (jV (dY (bR rq hr (by decide) (by rfl) (aB (aA (i:=6)) (aB (bQ (aA (i:=3)) (aA (i:=5))) aH)))))))) (aO (cR gU)) cD) (aD (aDf (oW hK pN hr (by decide) (aA (i:=6)))) (aD (aDf (oW hK pO hr (by decide) (aA (i:=6)))) (aO (gD (PW.pt (wQ (jV (dY (bR rq hr (by decide) (by rfl) (aB (aA (i:=6)) (aB (bQ (aA (i:=3)) (aA (i:=5))) aH))))) (oR (jV (dY (bR rq hr (by decide) (by rfl) (aB (bR uO hr (by decide) (by rfl) (aB (aA (i:=2)) (aB (aA (i:=5)) aH))) (aB (bQ (aA (i:=3)) (aA (i:=5))) aH)))))))) (aO (cR gU)) cD))))))) (aD (gF PassesOwn.never rfl (g8 (bR vA hr (by decide) (by rfl) (aB (aA (i:=1)) (aB (aA (i:=2)) (aB (aA (i:=3)) aH))))) (gY (i:=5) rfl) (aQ (i:=5) sc.nd rfl (by trivial)) (aO (gD (jV (dY (bR vz hr (by decide) (by rfl) (aB (aA (i:=2)) (aB (aA (i:=5)) aH))))) (aO (cR gU)) cD))) (aO (cR gU))))))))
theorem Z2:bL (["self", "word"]:List Str) ["self", "word"] (aK lC):=by refine ⟨rfl,rfl,rfl,?_,rfl,?_,?_⟩ <;> decide +kernel
theorem VV [KFrag] {P:Program} {w:World} {K:Frag} {mg:Str->Option Value} {base:Heap} {fad C M:Addr} {fd:FuncData} (F:Fun K "__init__" "NoName.__init__" lC fad fd) (x:XI K C fad) (m:mg "MillError" = some (.ref M)) (b1:specialIn K (.ref M) "__getattribute__" = some (some (.builtin "type.__getattribute__"))) (b2:readsIn K M (.type "type")=true) (b3:findCls K (.ref M) (.type "type") "__init__" = some (.val (.builtin "ValueError.__init__"))) (no:findIn K (.ref C) "word" = some none):jQ P w K mg base CX0 1 fad fd ["self", "word"] (yP C ["word"]):=
 have sc:=Z2
 aBm (M:=M) F sc rfl rfl fun cdv A outer s H E hr=>oG (lJ (aF8 x.cl (by rfl) m b1 b2 b3 (cA (dF (i:=0) rfl (by trivial)) (cA (dF (i:=1) rfl (by trivial)) lD)))) (lH (aF9 x no (dF (i:=0) rfl (by trivial)) (dF (i:=1) rfl (by trivial))))
def AtN (K:Frag) (n:Str) (st:Stmt):Prop:=∃(f:Addr) (fd:FuncData),nsIn K mainGlobals n=some (some (.ref f))/\Fun K n n st f fd
theorem aLv {K:Frag} {n:Str} {st:Stmt} {f:Addr} {oc kV dc pm cd ct:Value} {od an:Option Addr} {sl:Array (Option Value)} (a:nsIn K mainGlobals n=some (some (.ref f))) (l:K.lookup f=some ⟨oc,od,.func (fnOf n n (dW st) (cN st) (aK st) .none kV dc pm an cd ct),sl⟩) (c:codeIn K cd n=true) (k:keepIn K (.ref f)=true):AtN K n st:=⟨f,_,a,bU (st:=st) l c k⟩
theorem aJf {l:OpenLaw} {w:World} {K:Frag} {h:Heap} {mg:Str->Option Value} {fa:Addr} (X:K.In h) (G:h.Ns mainGlobals mg) (hfa:mg "law" = some (.ref fa)) (a0:AtN K "_law_cells" mJ) (a1:AtN K "_law_row" sW) (a2:AtN K "_law_names" mK) (a3:AtN K "_law_words" jA) (a4:AtN K "_law_rules" jB) (a5:AtN K "_law_drawn" mL) (a6:AtN K "_law_program" jM) (a7:AtN K "_law_hooks" gJ) (a8:AtN K "_law_beside" iG) (a9:AtN K "role_of" yW) (a10:AtN K "_law_no_role" jN) (a11:AtN K "_law_class" mO) (a12:AtN K "_law_numbers" jO) (a13:AtN K "_law_hooks_told" cU)
  {f14:Addr} {oc14 kV14 dc14 pm14 cd14 ct14:Value} {od14 an14:Option Addr} {sl14:Array (Option Value)} (a14:nsIn K mainGlobals "law" = some (some (.ref f14))) (l14:K.lookup f14=some ⟨oc14,od14,.func (fnOf "law" "law" (dW GX) (cN GX) (aK GX) .none kV14 dc14 pm14 an14 cd14 ct14),sl14⟩) (c14:codeIn K cd14 "law" = true) (k14:keepIn K (.ref f14)=true) (rz:nsIn K mainGlobals "len" = some none) (rA:nsIn K mainGlobals "min" = some none) (rB:nsIn K mainGlobals "max" = some none) (rC:nsIn K mainGlobals "list" = some none) (rD:nsIn K mainGlobals "tuple" = some none) (rE:nsIn K mainGlobals "sorted" = some none) (rG:nsIn K mainGlobals "range" = some none) (rH:nsIn K mainGlobals "isinstance" = some none) (rJ:nsIn K mainGlobals "int" = some none) (rK:nsIn K mainGlobals "bool" = some none) (rL:nsIn K mainGlobals "str" = some none) (rM:nsIn K mainGlobals "dict" = some none) (rN:nsIn K mainGlobals "all" = some none) (rO:nsIn K mainGlobals "enumerate" = some none) (rP:nsIn K mainGlobals "sum" = some none) (rQ:nsIn K mainGlobals "zip" = some none) (rR:nsIn K mainGlobals "abs" = some none) (rS:nsIn K mainGlobals "reversed" = some none) {pV:Addr} (ql:nsIn K mainGlobals "MillError" = some (some (.ref pV))) {p9:Addr} (pf:nsIn K mainGlobals "NoName" = some (some (.ref p9))) {uP:Addr} (rT:nsIn K mainGlobals "Unfit" = some (some (.ref uP))) {uQ:Addr} (rV:nsIn K mainGlobals "Twice" = some (some (.ref uQ))) {uR:Addr} (rW:nsIn K mainGlobals "BadKind" = some (some (.ref uR))) {uS:Addr} (rX:nsIn K mainGlobals "NoEnd" = some (some (.ref uS))) {p5:Addr} (pb:nsIn K mainGlobals "TakerRole" = some (some (.ref p5))) {p6:Addr} (pc:nsIn K mainGlobals "MakerRole" = some (some (.ref p6))) {p7:Addr} (pd:nsIn K mainGlobals "DropRole" = some (some (.ref p7))) {p8:Addr} (pe:nsIn K mainGlobals "CopyRole" = some (some (.ref p8))) {pE:Addr} (pG:nsIn K mainGlobals "Role" = some (some (.ref pE))) {pW:Addr} {vB vC vD vE uT vF:Value} {vG vH:Option Addr} {vI:Array (Option Value)} (rY:nsIn K mainGlobals "ValueError" = some none) (rZ:exmOne K (.ref p9) (.ref pV)=some true) (t5:isClsIn K p9=true) (t6:findIn K (.ref p9) "__getattribute__" = some (some (.builtin "BaseException.__getattribute__"))) (t7:findIn K (.ref p9) "__getattr__" = some none) (t8:findIn K (.ref p9) "__class__" = some (some (.builtin "object.__class__"))) (t9:specialIn K (.builtin "object.__class__") "__get__" = some (some (.builtin "getset_descriptor.__get__"))) (tf:takesIn K (.builtin "object.__class__")=some true) (pX:mroIn K p9 (.type "object")=some true) (tj:mroIn K p9 (.type "BaseException")=some true) (tm:kitOne K (.ref p9) (.ref p9)=some true) (tq:kitOne K (.ref p9) (.type "ValueError")=some true) (tw:kitOne K (.ref p9) (.ref uP)=some false) (tB:kitOne K (.ref p9) (.ref uQ)=some false) (tD:kitOne K (.ref p9) (.ref uR)=some false) (tF:kitOne K (.ref p9) (.ref uS)=some false) (qm:hasDictIn K p9=true) (pY:findIn K (.ref p9) "word" = some none) (tG:kitOne K (.ref p6) (.ref p5)=some false) (tH:kitOne K (.ref p5) (.ref p5)=some true) (tI:kitOne K (.ref p8) (.ref p5)=some false) (tJ:kitOne K (.ref p7) (.ref p5)=some false) (tK:kitOne K (.ref p6) (.ref p6)=some true) (tL:kitOne K (.ref p5) (.ref p6)=some false) (tM:kitOne K (.ref p8) (.ref p6)=some false) (tN:kitOne K (.ref p7) (.ref p6)=some false) (tO:kitOne K (.ref p6) (.ref p7)=some false) (tP:kitOne K (.ref p5) (.ref p7)=some false) (tQ:kitOne K (.ref p8) (.ref p7)=some false) (tR:kitOne K (.ref p7) (.ref p7)=some true) (tT:kitOne K (.ref p6) (.ref p8)=some false) (tU:kitOne K (.ref p5) (.ref p8)=some false) (tV:kitOne K (.ref p8) (.ref p8)=some true) (tW:kitOne K (.ref p7) (.ref p8)=some false) (tX:kitOne K (.ref p6) (.ref pE)=some true) (tY:kitOne K (.ref p5) (.ref pE)=some true) (u4:kitOne K (.ref p8) (.ref pE)=some true) (u5:kitOne K (.ref p7) (.ref pE)=some true) (qo:exC K p9=true) (qp:findIn K (.ref p9) "__init__" = some (some (.ref pW))) (qr:isFn K (.ref pW)=true) (qt:keepIn K (.ref p9)=true) (qu:findIn K (.ref p9) "__setattr__" = some (some (.builtin "object.__setattr__"))) (qv:K.lookup pW=some ⟨vB,vG,.func (fnOf "__init__" "NoName.__init__" (dW lC) (cN lC) (aK lC) .none vC vD vE vH uT vF),vI⟩) (qw:codeIn K uT "NoName.__init__" = true) (qx:keepIn K (.ref pW)=true) (u7:specialIn K (.ref pV) "__getattribute__" = some (some (.builtin "type.__getattribute__"))) (u8:readsIn K pV (.type "type")=true) (u9:findCls K (.ref pV) (.type "type") "__init__" = some (.val (.builtin "ValueError.__init__"))) {pZ:Addr} {vJ vK vL vM uU vN:Value} {vO vP:Option Addr} {vQ:Array (Option Value)} {qa:Addr} {vR vS vT vU uV vV:Value} {vX vY:Option Addr} {vZ:Array (Option Value)} {qb:Addr} {P1 P3 P4 P5 uW P6:Value} {P7 P8:Option Addr} {P9:Array (Option Value)} {qc:Addr} {Pa Pb Pc Pd uX Pe:Value} {Pg Ph:Option Addr} {Pi:Array (Option Value)} {qe:Addr} {Pj Pk Pl Pm uY Pn:Value} {Po Pq:Option Addr} {Pr:Array (Option Value)} {pj:Addr} {Ps Pt Pu Pv uZ Pw:Value} {Px Py:Option Addr} {Pz:Array (Option Value)} {pk:Addr} {PB PC PD PF v3 PH:Value} {PJ PK:Option Addr} {PL:Array (Option Value)} {pq:Addr} {PM PN PP PQ v4 PR:Value} {PU PV:Option Addr} {PX:Array (Option Value)} (v5:findIn K (.ref pE) "__init__" = some (some (.ref pZ))) (pC:K.lookup pZ=some ⟨vJ,vO,.func (fnOf "__init__" "Role.__init__" (dW j5) (cN j5) (aK j5) .none vK vL vM vP uU vN),vQ⟩) (pD:codeIn K uU "Role.__init__" = true) (ph:keepIn K (.ref pZ)=true) (v6:isFn K (.ref pZ)=true) (pP:specialIn K (.ref pE) "__getattribute__" = some (some (.builtin "type.__getattribute__"))) (pQ:readsIn K pE (.type "type")=true) (pR:findCls K (.ref pE) (.type "type") "__init__" = some (.val (.ref pZ))) (kg_:specialIn K (.builtin "object.__class__") "__get__" = some (some (.builtin "getset_descriptor.__get__"))) (kt_:takesIn K (.builtin "object.__class__")=some true) (ua:findIn K (.ref p6) "__init__" = some (some (.ref qa))) (qy:K.lookup qa=some ⟨vR,vX,.func (fnOf "__init__" "MakerRole.__init__" (dW eU) (cN eU) (aK eU) .none vS vT vU vY uV vV),vZ⟩) (qz:codeIn K uV "MakerRole.__init__" = true) (qA:keepIn K (.ref qa)=true) (ub:isFn K (.ref qa)=true) (pg_MakerRole:plainGet K p6 Str.empty=true) (uc:hasDictIn K p6=true) (po_MakerRole:plainOver K p6=true) (ud:findIn K (.ref p6) "__setattr__" = some (some (.builtin "object.__setattr__"))) (mk_MakerRole:makesIn K p6=true) (ue:keepIn K (.ref p6)=true) (qB:findIn K (.ref p6) "giving" = some none) (qD:findIn K (.ref p6) "taking" = some none) (uf:findIn K (.ref p6) "gives" = some (some (.ref pj))) (ug:findIn K (.ref p6) "takes" = some (some (.ref pk))) (uh:findIn K (.ref p6) "kind_at" = some (some (.ref pq))) (kc_MakerRole:findIn K (.ref p6) "__class__" = some (some (.builtin "object.__class__"))) (ob_MakerRole:mroIn K p6 (.type "object")=some true) (ui:findIn K (.ref p5) "__init__" = some (some (.ref qb))) (qE:K.lookup qb=some ⟨P1,P7,.func (fnOf "__init__" "TakerRole.__init__" (dW eX) (cN eX) (aK eX) .none P3 P4 P5 P8 uW P6),P9⟩) (qF:codeIn K uW "TakerRole.__init__" = true) (qG:keepIn K (.ref qb)=true) (uj:isFn K (.ref qb)=true) (pg_TakerRole:plainGet K p5 Str.empty=true) (ul:hasDictIn K p5=true) (po_TakerRole:plainOver K p5=true) (um:findIn K (.ref p5) "__setattr__" = some (some (.builtin "object.__setattr__"))) (mk_TakerRole:makesIn K p5=true) (uo:keepIn K (.ref p5)=true) (qH:findIn K (.ref p5) "giving" = some none) (qI:findIn K (.ref p5) "taking" = some none) (uq:findIn K (.ref p5) "gives" = some (some (.ref pj))) (ur:findIn K (.ref p5) "takes" = some (some (.ref pk))) (ut:findIn K (.ref p5) "kind_at" = some (some (.ref pq))) (kc_TakerRole:findIn K (.ref p5) "__class__" = some (some (.builtin "object.__class__"))) (ob_TakerRole:mroIn K p5 (.type "object")=some true) (uv:findIn K (.ref p8) "__init__" = some (some (.ref qc))) (qJ:K.lookup qc=some ⟨Pa,Pg,.func (fnOf "__init__" "CopyRole.__init__" (dW fW) (cN fW) (aK fW) .none Pb Pc Pd Ph uX Pe),Pi⟩) (qK:codeIn K uX "CopyRole.__init__" = true) (qL:keepIn K (.ref qc)=true) (ux:isFn K (.ref qc)=true) (pg_CopyRole:plainGet K p8 Str.empty=true) (uy:hasDictIn K p8=true) (po_CopyRole:plainOver K p8=true) (uz:findIn K (.ref p8) "__setattr__" = some (some (.builtin "object.__setattr__"))) (mk_CopyRole:makesIn K p8=true) (uA:keepIn K (.ref p8)=true) (qM:findIn K (.ref p8) "giving" = some none) (qN:findIn K (.ref p8) "taking" = some none) (uB:findIn K (.ref p8) "gives" = some (some (.ref pj))) (uC:findIn K (.ref p8) "takes" = some (some (.ref pk))) (uD:findIn K (.ref p8) "kind_at" = some (some (.ref pq))) (kc_CopyRole:findIn K (.ref p8) "__class__" = some (some (.builtin "object.__class__"))) (ob_CopyRole:mroIn K p8 (.type "object")=some true) (uE:findIn K (.ref p7) "__init__" = some (some (.ref qe))) (qO:K.lookup qe=some ⟨Pj,Po,.func (fnOf "__init__" "DropRole.__init__" (dW fX) (cN fX) (aK fX) .none Pk Pl Pm Pq uY Pn),Pr⟩) (qP:codeIn K uY "DropRole.__init__" = true) (qQ:keepIn K (.ref qe)=true) (uF:isFn K (.ref qe)=true) (pg_DropRole:plainGet K p7 Str.empty=true) (uG:hasDictIn K p7=true) (po_DropRole:plainOver K p7=true) (uH:findIn K (.ref p7) "__setattr__" = some (some (.builtin "object.__setattr__"))) (mk_DropRole:makesIn K p7=true) (uI:keepIn K (.ref p7)=true) (qR:findIn K (.ref p7) "giving" = some none) (qS:findIn K (.ref p7) "taking" = some none) (uJ:findIn K (.ref p7) "gives" = some (some (.ref pj))) (uK:findIn K (.ref p7) "takes" = some (some (.ref pk))) (uL:findIn K (.ref p7) "kind_at" = some (some (.ref pq))) (kc_DropRole:findIn K (.ref p7) "__class__" = some (some (.builtin "object.__class__"))) (ob_DropRole:mroIn K p7 (.type "object")=some true) (pH:K.lookup pj=some ⟨Ps,Px,.func (fnOf "gives" "Role.gives" (dW iR) (cN iR) (aK iR) .none Pt Pu Pv Py uZ Pw),Pz⟩) (pI:codeIn K uZ "Role.gives" = true) (pz:keepIn K (.ref pj)=true) (pS:isFn K (.ref pj)=true) (pJ:K.lookup pk=some ⟨PB,PJ,.func (fnOf "takes" "Role.takes" (dW iT) (cN iT) (aK iT) .none PC PD PF PK v3 PH),PL⟩) (pK:codeIn K v3 "Role.takes" = true) (pA:keepIn K (.ref pk)=true) (pT:isFn K (.ref pk)=true) (pL:K.lookup pq=some ⟨PM,PU,.func (fnOf "kind_at" "Role.kind_at" (dW d8) (cN d8) (aK d8) .none PN PP PQ PV v4 PR),PX⟩) (pM:codeIn K v4 "Role.kind_at" = true) (pB:keepIn K (.ref pq)=true) (pU:isFn K (.ref pq)=true) :
  ∃fd:FuncData,(∀(s:Shared) (v:Value),BindsTo s fd ⟨[v],[]⟩ [("script",v)])/\∀base:Heap,K.In base->base.Ns mainGlobals mg->jQ l.prog w K mg base CX0 6 fa fd ["script"] (@spD ⟨K⟩ O8 1):=by
 have e:=hfa.symm.trans (mg_of X G a14);cases e
 letI:KFrag:=⟨K⟩
 have pF:XC K p9:=⟨t5,t6,t7,t8,t9,tf,pX,tj⟩
 have Y:=fun {n:Str} {v:Value}=>mg_of (n:=n) (v:=v) X G
 have Z:=fun {n:Str}=>mg_none_of (n:=n) X G
 obtain ⟨f0,_,a0,F0⟩:=a0;obtain ⟨f1,_,a1,F1⟩:=a1;obtain ⟨f2,_,a2,F2⟩:=a2;obtain ⟨f3,_,a3,F3⟩:=a3;obtain ⟨f4,_,a4,F4⟩:=a4;obtain ⟨f5,_,a5,F5⟩:=a5;obtain ⟨f6,_,a6,F6⟩:=a6;obtain ⟨f7,_,a7,F7⟩:=a7;obtain ⟨f8,_,a8,F8⟩:=a8;obtain ⟨f9,_,a9,F9⟩:=a9;obtain ⟨f10,_,a10,F10⟩:=a10;obtain ⟨f11,_,a11,F11⟩:=a11;obtain ⟨f12,_,a12,F12⟩:=a12;obtain ⟨f13,_,a13,F13⟩:=a13;have B:Bt mg:=⟨Z rz,Z rA,Z rB,Z rC,Z rD,Z rE,Z rG,Z rH,Z rJ,Z rK,Z rL,Z rM,Z rN,Z rO,Z rP,Z rQ,Z rR,Z rS⟩
 refine ⟨fnOf "law" "law" (dW GX) (cN GX) (aK GX) .none kV14 dc14 pm14 an14 cd14 ct14,fun s v=>.of_eq rfl,fun base _ _=>?_⟩;have cl_MakerRole:Cls K p6:=⟨pg_MakerRole,uc,po_MakerRole,ud⟩
 have qf:CI K p6:=⟨cl_MakerRole,kc_MakerRole,kg_,kt_,ob_MakerRole⟩
 have q_MakerRole:ZM l.prog w K mg base 2 "MakerRole" eV 2:=⟨p6,qa,_,_,pc,Y pc,⟨mk_MakerRole,ua,ub,ue⟩,GZ rfl B (xH rfl B cl_MakerRole (List.forall_mem_cons.2 ⟨qB,List.forall_mem_cons.2 ⟨qD,List.forall_mem_nil _⟩⟩) (bU (st:=j5) pC pD ph)) ((bU (st:=j5) pC pD ph).binds fun _ _ _ _ _ _ us hl=>match us,hl with|[_,_,_],_=>rfl) ph (Y pG) pP pQ pR (bU (st:=eU) qy qz qA),((bU (st:=eU) qy qz qA).binds fun _ _ _ _ _ _ us hl=>match us,hl with|[_,_,_],_=>rfl)⟩
 have fl_MakerRole_giving:MP K "MakerRole" "giving":=fun C h=>by cases (pc.symm.trans h);exact ⟨cl_MakerRole,qB⟩
 have fl_MakerRole_taking:MP K "MakerRole" "taking":=fun C h=>by cases (pc.symm.trans h);exact ⟨cl_MakerRole,qD⟩
 have cl_TakerRole:Cls K p5:=⟨pg_TakerRole,ul,po_TakerRole,um⟩
 have qg:CI K p5:=⟨cl_TakerRole,kc_TakerRole,kg_,kt_,ob_TakerRole⟩
 have q_TakerRole:ZM l.prog w K mg base 2 "TakerRole" eY 3:=⟨p5,qb,_,_,pb,Y pb,⟨mk_TakerRole,ui,uj,uo⟩,G3 rfl B (xH rfl B cl_TakerRole (List.forall_mem_cons.2 ⟨qH,List.forall_mem_cons.2 ⟨qI,List.forall_mem_nil _⟩⟩) (bU (st:=j5) pC pD ph)) ((bU (st:=j5) pC pD ph).binds fun _ _ _ _ _ _ us hl=>match us,hl with|[_,_,_],_=>rfl) ph (Y pG) pP pQ pR (bU (st:=eX) qE qF qG),((bU (st:=eX) qE qF qG).binds fun _ _ _ _ _ _ us hl=>match us,hl with|[_,_,_,_],_=>rfl)⟩
 have fl_TakerRole_giving:MP K "TakerRole" "giving":=fun C h=>by cases (pb.symm.trans h);exact ⟨cl_TakerRole,qH⟩
 have fl_TakerRole_taking:MP K "TakerRole" "taking":=fun C h=>by cases (pb.symm.trans h);exact ⟨cl_TakerRole,qI⟩
 have cl_CopyRole:Cls K p8:=⟨pg_CopyRole,uy,po_CopyRole,uz⟩
 have qh:CI K p8:=⟨cl_CopyRole,kc_CopyRole,kg_,kt_,ob_CopyRole⟩
 have q_CopyRole:ZM l.prog w K mg base 2 "CopyRole" j6 0:=⟨p8,qc,_,_,pe,Y pe,⟨mk_CopyRole,uv,ux,uA⟩,KQ rfl B (xH rfl B cl_CopyRole (List.forall_mem_cons.2 ⟨qM,List.forall_mem_cons.2 ⟨qN,List.forall_mem_nil _⟩⟩) (bU (st:=j5) pC pD ph)) ((bU (st:=j5) pC pD ph).binds fun _ _ _ _ _ _ us hl=>match us,hl with|[_,_,_],_=>rfl) ph (Y pG) pP pQ pR (bU (st:=fW) qJ qK qL),((bU (st:=fW) qJ qK qL).binds fun _ _ _ _ _ _ us hl=>match us,hl with|[_],_=>rfl)⟩
 have fl_CopyRole_giving:MP K "CopyRole" "giving":=fun C h=>by cases (pe.symm.trans h);exact ⟨cl_CopyRole,qM⟩
 have fl_CopyRole_taking:MP K "CopyRole" "taking":=fun C h=>by cases (pe.symm.trans h);exact ⟨cl_CopyRole,qN⟩
 have cl_DropRole:Cls K p7:=⟨pg_DropRole,uG,po_DropRole,uH⟩
 have qi:CI K p7:=⟨cl_DropRole,kc_DropRole,kg_,kt_,ob_DropRole⟩
 have q_DropRole:ZM l.prog w K mg base 2 "DropRole" j7 0:=⟨p7,qe,_,_,pd,Y pd,⟨mk_DropRole,uE,uF,uI⟩,KR rfl B (xH rfl B cl_DropRole (List.forall_mem_cons.2 ⟨qR,List.forall_mem_cons.2 ⟨qS,List.forall_mem_nil _⟩⟩) (bU (st:=j5) pC pD ph)) ((bU (st:=j5) pC pD ph).binds fun _ _ _ _ _ _ us hl=>match us,hl with|[_,_,_],_=>rfl) ph (Y pG) pP pQ pR (bU (st:=fX) qO qP qQ),((bU (st:=fX) qO qP qQ).binds fun _ _ _ _ _ _ us hl=>match us,hl with|[_],_=>rfl)⟩
 have fl_DropRole_giving:MP K "DropRole" "giving":=fun C h=>by cases (pd.symm.trans h);exact ⟨cl_DropRole,qR⟩
 have fl_DropRole_taking:MP K "DropRole" "taking":=fun C h=>by cases (pd.symm.trans h);exact ⟨cl_DropRole,qS⟩
 have fl_giving:∀c∈rcs,MP K c "giving":=(List.forall_mem_cons.2 ⟨fl_MakerRole_giving,(List.forall_mem_cons.2 ⟨fl_TakerRole_giving,(List.forall_mem_cons.2 ⟨fl_CopyRole_giving,(List.forall_mem_cons.2 ⟨fl_DropRole_giving,(List.forall_mem_nil _)⟩)⟩)⟩)⟩)
 have fl_taking:∀c∈rcs,MP K c "taking":=(List.forall_mem_cons.2 ⟨fl_MakerRole_taking,(List.forall_mem_cons.2 ⟨fl_TakerRole_taking,(List.forall_mem_cons.2 ⟨fl_CopyRole_taking,(List.forall_mem_cons.2 ⟨fl_DropRole_taking,(List.forall_mem_nil _)⟩)⟩)⟩)⟩)
 have y_gives:=aC2 (P:=l.prog) (w:=w) (mg:=mg) (base:=base) rfl B fl_giving (bU (st:=iR) pH pI pz);have pN:∀c∈rcs,V8 l.prog w K mg base 1 c "gives" 1 mG:=(List.forall_mem_cons.2 ⟨⟨p6,pj,_,_,pc,cl_MakerRole,⟨uf,pS,pz⟩,y_gives,((bU (st:=iR) pH pI pz).binds fun _ _ _ _ _ _ us hl=>match us,hl with|[_],_=>rfl)⟩,(List.forall_mem_cons.2 ⟨⟨p5,pj,_,_,pb,cl_TakerRole,⟨uq,pS,pz⟩,y_gives,((bU (st:=iR) pH pI pz).binds fun _ _ _ _ _ _ us hl=>match us,hl with|[_],_=>rfl)⟩,(List.forall_mem_cons.2 ⟨⟨p8,pj,_,_,pe,cl_CopyRole,⟨uB,pS,pz⟩,y_gives,((bU (st:=iR) pH pI pz).binds fun _ _ _ _ _ _ us hl=>match us,hl with|[_],_=>rfl)⟩,(List.forall_mem_cons.2 ⟨⟨p7,pj,_,_,pd,cl_DropRole,⟨uJ,pS,pz⟩,y_gives,((bU (st:=iR) pH pI pz).binds fun _ _ _ _ _ _ us hl=>match us,hl with|[_],_=>rfl)⟩,(List.forall_mem_nil _)⟩)⟩)⟩)⟩)
 have y_takes:=aC4 (P:=l.prog) (w:=w) (mg:=mg) (base:=base) rfl B fl_taking (bU (st:=iT) pJ pK pA);have pO:∀c∈rcs,V8 l.prog w K mg base 1 c "takes" 1 mH:=(List.forall_mem_cons.2 ⟨⟨p6,pk,_,_,pc,cl_MakerRole,⟨ug,pT,pA⟩,y_takes,((bU (st:=iT) pJ pK pA).binds fun _ _ _ _ _ _ us hl=>match us,hl with|[_],_=>rfl)⟩,(List.forall_mem_cons.2 ⟨⟨p5,pk,_,_,pb,cl_TakerRole,⟨ur,pT,pA⟩,y_takes,((bU (st:=iT) pJ pK pA).binds fun _ _ _ _ _ _ us hl=>match us,hl with|[_],_=>rfl)⟩,(List.forall_mem_cons.2 ⟨⟨p8,pk,_,_,pe,cl_CopyRole,⟨uC,pT,pA⟩,y_takes,((bU (st:=iT) pJ pK pA).binds fun _ _ _ _ _ _ us hl=>match us,hl with|[_],_=>rfl)⟩,(List.forall_mem_cons.2 ⟨⟨p7,pk,_,_,pd,cl_DropRole,⟨uK,pT,pA⟩,y_takes,((bU (st:=iT) pJ pK pA).binds fun _ _ _ _ _ _ us hl=>match us,hl with|[_],_=>rfl)⟩,(List.forall_mem_nil _)⟩)⟩)⟩)⟩)
 have y_kind_at:=VP (P:=l.prog) (w:=w) (mg:=mg) (base:=base) rfl B fl_giving fl_taking (bU (st:=d8) pL pM pB);have rm:∀c∈rcs,V8 l.prog w K mg base 1 c "kind_at" 2 j8:=(List.forall_mem_cons.2 ⟨⟨p6,pq,_,_,pc,cl_MakerRole,⟨uh,pU,pB⟩,y_kind_at,((bU (st:=d8) pL pM pB).binds fun _ _ _ _ _ _ us hl=>match us,hl with|[_,_],_=>rfl)⟩,(List.forall_mem_cons.2 ⟨⟨p5,pq,_,_,pb,cl_TakerRole,⟨ut,pU,pB⟩,y_kind_at,((bU (st:=d8) pL pM pB).binds fun _ _ _ _ _ _ us hl=>match us,hl with|[_,_],_=>rfl)⟩,(List.forall_mem_cons.2 ⟨⟨p8,pq,_,_,pe,cl_CopyRole,⟨uD,pU,pB⟩,y_kind_at,((bU (st:=d8) pL pM pB).binds fun _ _ _ _ _ _ us hl=>match us,hl with|[_,_],_=>rfl)⟩,(List.forall_mem_cons.2 ⟨⟨p7,pq,_,_,pd,cl_DropRole,⟨uL,pU,pB⟩,y_kind_at,((bU (st:=d8) pL pM pB).binds fun _ _ _ _ _ _ us hl=>match us,hl with|[_,_],_=>rfl)⟩,(List.forall_mem_nil _)⟩)⟩)⟩)⟩)
 have PY:=A_ (P:=l.prog) (w:=w) (base:=base) rfl B   F0 (Y a0);have PZ:=KY (P:=l.prog) (w:=w) (base:=base) rfl B   F1 (Y a1);have v7:=BJ (P:=l.prog) (w:=w) (base:=base) rfl B PZ  F2 (Y a2);have Q0:=BK (P:=l.prog) (w:=w) (base:=base) rfl B   F3 (Y a3);have Q1:=BL (P:=l.prog) (w:=w) (base:=base) rfl B Q0  F4 (Y a4);have Q2:=BP (P:=l.prog) (w:=w) (base:=base) rfl B   F5 (Y a5);have Q3:=wR (P:=l.prog) (w:=w) (base:=base) rfl B v7 Q2 Q1  F6 (Y a6);have Q4:=BR (P:=l.prog) (w:=w) (base:=base) rfl B   F7 (Y a7);have Q5:=y_ (P:=l.prog) (w:=w) (base:=base) rfl B v7  F8 (Y a8);have qV:aLj l.prog w K mg base 1 "NoName" ["word"]:=⟨p9,pW,_,_,pf,Y pf,⟨qo,qp,qr,qt,qu,pX⟩,VV (bU (st:=lC) qv qw qx) ⟨qo,qp,qr,qt,qu,pX⟩ (Y ql) u7 u8 u9 pY,(bU (st:=lC) qv qw qx).binds fun _ _ _ _ _ _ us hl=>match us,hl with|[_,_],_=>rfl,by decide⟩
 have qj:=QB (P:=l.prog) (w:=w) (base:=base) rfl B  qV q_MakerRole q_TakerRole q_CopyRole q_DropRole F9 (Y a9);have Q6:=qj.cal;have Q7:=wU (P:=l.prog) (w:=w) (base:=base) rfl B  qj (Y ql) (Y pf) (mg_none_of X G rY) (Y rT) (Y rV) (Y rW) (Y rX) ⟨⟨_,pf,rZ⟩,trivial⟩ ⟨⟨_,pf,pF,tm⟩,trivial⟩ ⟨⟨_,pf,pF,tq⟩,trivial⟩ ⟨⟨_,pf,pF,tw⟩,trivial⟩ ⟨⟨_,pf,pF,tB⟩,trivial⟩ ⟨⟨_,pf,pF,tD⟩,trivial⟩ ⟨⟨_,pf,pF,tF⟩,trivial⟩ ⟨⟨_,pf,pF,qm,pY⟩,trivial⟩ ⟨⟨_,pf,pF,qm,pY⟩,trivial⟩  F10 (Y a10);have Q8:=BW (P:=l.prog) (w:=w) (base:=base) rfl B  (Y pb) (Y pc) (Y pd) (Y pe) (Y pG) ⟨⟨_,pc,qf,tG⟩,⟨_,pb,qg,tH⟩,⟨_,pe,qh,tI⟩,⟨_,pd,qi,tJ⟩,trivial⟩ ⟨⟨_,pc,qf,tK⟩,⟨_,pb,qg,tL⟩,⟨_,pe,qh,tM⟩,⟨_,pd,qi,tN⟩,trivial⟩ ⟨⟨_,pc,qf,tO⟩,⟨_,pb,qg,tP⟩,⟨_,pe,qh,tQ⟩,⟨_,pd,qi,tR⟩,trivial⟩ ⟨⟨_,pc,qf,tT⟩,⟨_,pb,qg,tU⟩,⟨_,pe,qh,tV⟩,⟨_,pd,qi,tW⟩,trivial⟩ ⟨⟨_,pc,qf,tX⟩,⟨_,pb,qg,tY⟩,⟨_,pe,qh,u4⟩,⟨_,pd,qi,u5⟩,trivial⟩  F11 (Y a11);have Q9:=wV (P:=l.prog) (w:=w) (base:=base) rfl B   F12 (Y a12);have h__law_hooks_told:=oA (P:=l.prog) (w:=w) (base:=base) rfl B Q9 pN pO rm F13 (Y a13);exact aJe rfl B PY Q3 Q4 Q6 Q8 h__law_hooks_told Q7 Q5 pN pO (bU (st:=GX) l14 c14 k14)
theorem walk {l:OpenLaw} {q:Program} {loose:List Str} {XP:(Str->Option Value)->Heap->Prop} {YP:World->Heap->Prop} {d:DefRec} {K:Params->Frag} (main:∀ns:List Int,ns.length<=63->O8 [.scr (ns.map D.int)]=.ok (.bl true)) (hn:l.most=some 63) (hdf:d.params.defaults=[])
  (hY:∀(w:World) (h:Heap),YP w h->(K w.params).In h)
  (F:∀(w:World) (mg:Str->Option Value) (fa:Addr) (h:Heap),(K w.params).In h->h.Ns mainGlobals mg->mg d.name=some (.ref fa)->
   ∃fd:FuncData,(∀(s:Shared) (u:Value),BindsTo s fd ⟨[u],[]⟩ [("script",u)])/\∀base:Heap,(K w.params).In base->base.Ns mainGlobals mg->jQ l.prog w (K w.params) mg base CX0 6 fa fd ["script"] (@spD ⟨K w.params⟩ O8 1)) :
  WalkO q loose XP YP l.row.toRowW d [] (fun f vs=>PySem.call f vs):=
 L2.aEg (n:=63) (k:=6) (x := "script") (CX:=fun _=>CX0) (sp:=fun w=>@spD ⟨K w.params⟩ O8 1) hn (by decide) hdf ⟨rfl,by decide,by decide⟩ hY F (fun w H a ns hl hO hS=>YK main hl hO hS) fun _ _ _ _ _ z=>z
end Lk71
end
namespace Lk71
open PySem L2 Mi
structure KE {α:Type} [DecidableEq α] (ek:α->D):Prop where
 eq:∀a b,eqD (ek a) (ek b)=decide (a=b)
 ok:∀a,keyOk (ek a)=true
 tu:∀a b,isTup (ek a)=isTup (ek b)
section
variable {α:Type} [DecidableEq α] {ek:α->D}
noncomputable def dD (ek:α->D) (L:List (α×D)):List (D×D):=L.map fun p=>(ek p.1,p.2)
noncomputable def sZ:List (α×D)->α->D->List (α×D)
 | [],a,v=>[(a,v)]
 | p::L,a,v=>if p.1=a then (p.1,v)::L else p::sZ L a v
noncomputable def gM:List (α×D)->α->Option D
 | [],_=>none
 | p::L,a=>if p.1=a then some p.2 else gM L a
def dX (L ps:List (α×D)):List (α×D):=ps.foldl (fun L p=>sZ L p.1 p.2) L
theorem zE (h:KE ek) (a:α) (v:D):∀L:List (α×D),putD (dD ek L) (ek a) v=dD ek (sZ L a v)
 | []=>rfl
 | p::L=>by
  show (if eqD (ek p.1) (ek a) then _ else _)=_;rw [h.eq,sZ];by_cases z:p.1=a
  ·rw [if_pos z,if_pos (decide_eq_true z)];rfl
  ·rw [if_neg z,if_neg (by rw [decide_eq_false z];simp)];show _::putD (dD ek L) (ek a) v=_;rw [zE h a v L];rfl
theorem HB (h:KE ek) (a:α):∀L:List (α×D),fC (dD ek L) (ek a)=gM L a
 | []=>rfl
 | p::L=>by
  show (if eqD (ek p.1) (ek a) then _ else _)=_;rw [h.eq,gM];by_cases z:p.1=a
  ·rw [if_pos z,if_pos (decide_eq_true z)]
  ·rw [if_neg z,if_neg (by rw [decide_eq_false z];simp)];exact HB h a L
theorem SX (h:KE ek) (L:List (α×D)) (a:α):V6 (dD ek L) (ek a)=true:=by
 unfold V6 dD;rw [h.ok,Bool.true_and,List.all_eq_true];intro p hp;obtain ⟨q,_,rfl⟩:=List.mem_map.mp hp;rw [h.tu q.1 a];exact beq_self_eq_true _
theorem KZ (L:List (α×D)):(dD ek L).length=L.length:=List.length_map ..
theorem m8 (a:α) (v:D):∀L:List (α×D),(sZ L a v).length<=L.length+1
 | []=>Nat.le_refl _
 | p::L=>by
  rw [sZ];split
  ·exact Nat.le_succ _
  ·have:=m8 a v L;rw [List.length_cons,List.length_cons];lia
theorem zF:∀(ps L:List (α×D)),(dX L ps).length<=L.length+ps.length
 | [],_=>Nat.le_refl _
 | p::ps,L=>by
  have:=zF ps (sZ L p.1 p.2);have:=m8 p.1 p.2 L;rw [List.length_cons];show (dX (sZ L p.1 p.2) ps).length<=_;lia
theorem HD (a b:α) (v:D):∀L:List (α×D),gM (sZ L a v) b=if a=b then some v else gM L b
 | []=>rfl
 | p::L=>by
  rw [sZ];by_cases z:p.1=a
  ·rw [if_pos z,gM,gM,z];split <;> rfl
  ·rw [if_neg z,gM,gM,HD a b v L];by_cases y:p.1=b
   ·rw [if_pos y,if_pos y,if_neg (fun q=>z (y.trans q.symm))]
   ·rw [if_neg y,if_neg y]
theorem S5 (a:α):∀(ps L:List (α×D)),a∉ps.map (·.1)->gM (dX L ps) a=gM L a
 | [],_,_=>rfl
 | p::ps,L,h=>by
  rw [List.map_cons,List.mem_cons,not_or] at h;show gM (dX (sZ L p.1 p.2) ps) a=_;rw [S5 a ps _ h.2,HD,if_neg (fun q=>h.1 q.symm)]
theorem QC (a:α) (v:D):∀(ps L:List (α×D)),(ps.map (·.1)).Nodup->(a,v)∈ps->gM (dX L ps) a=some v
 | [],_,_,h=>by cases h
 | p::ps,L,hn,h=>by
  rw [List.map_cons,List.nodup_cons] at hn;show gM (dX (sZ L p.1 p.2) ps) a=_;rcases List.mem_cons.mp h with rfl|h
  ·rw [S5 _ ps _ hn.1,HD,if_pos rfl]
  ·exact QC a v ps _ hn.2 h
theorem aJg (h:KE ek) {L:List (α×D)} {a:α} {v:D} (e:gM L a=some v):getD (.dct (dD ek L)) (ek a)=.ok v:=by
 have:getD (.dct (dD ek L)) (ek a)=(if keyOk (ek a) then Res.ofOpt (fC (dD ek L) (ek a)) else .bad):=by
  have:=h.ok a;generalize ek a=k at this ⊢;cases k <;> first|rfl|cases this
 rw [this,h.ok,if_pos rfl,HB h,e];rfl
end
theorem Z3 {α:Type} [DecidableEq α] [BEq α] [LawfulBEq α] (a b:α):(a==b)=decide (a=b):=by
 by_cases z:a=b
 ·rw [decide_eq_true z,z,beq_self_eq_true]
 ·rw [decide_eq_false z,beq_eq_false_iff_ne];exact z
theorem mQ:KE D.str:=⟨fun a b=>by show (a==b)=_;exact Z3 a b,fun _=>rfl,fun _ _=>rfl⟩
theorem fY {a:FE} {ρ:List D} {xs:List D} {fr:Bool} (h:a ρ=.ok (.tup xs)):cF a fr ρ=.ok (xs,fr||D.aN xs):=by
 unfold cF;rw [h,Res.aW];show Res.ok (xs,fr||(D.tup xs).pure)=_;rw [D.pure]
theorem S6 {α:Type} {n:Nat} {it:FI} {f:FE} {k kk:Bool} {ρ:List D} (d y:α->D) (xs:List α) (hρ:ρ.length=n) (h1:it ρ=.ok (xs.map d,kk)) (h2:xs.length<=100000) (h3:∀a∈xs,f (ρ++[d a])=.ok (y a)/\(k||(y a).pure)=true):gC n it yC jU f k ρ=.ok (.lst (xs.map y)):=by
 refine O3 h1 (by rw [List.length_map,bN];lia) ?_;have:∀(xs:List α) (acc:List D),(∀a∈xs,f (ρ++[d a])=.ok (y a)/\(k||(y a).pure)=true)->jK (q_ n yC jU f k ρ) acc (xs.map d)=.ok (acc++xs.map y):=by
  intro xs;induction xs with
  | nil=>intro acc _;simp [jK]
  | cons x xs ih=>
   intro acc h;rw [List.map_cons,jK,yM hρ (b:=true) rfl fun _=>h x (List.mem_cons_self ..)];show jK _ (acc++[y x]) _=_;rw [ih _ fun a ha=>h a (List.mem_cons_of_mem _ ha),List.append_assoc];rfl
 exact (this xs [] h3).trans (by rw [List.nil_append])
theorem Z4 {α:Type} {n:Nat} {it:FI} {c:FT} {f:FE} {k kk:Bool} {ρ:List D} (d y:α->D) (p:α->Bool) (xs:List α) (hρ:ρ.length=n) (h1:it ρ=.ok (xs.map d,kk)) (h2:xs.length<=100000) (hc:∀a∈xs,c (ρ++[d a])=.ok (p a)) (h3:∀a∈xs,p a=true->f (ρ++[d a])=.ok (y a)/\(k||(y a).pure)=true):gC n it yC c f k ρ=.ok (.lst ((xs.filter p).map y)):=by
 refine O3 h1 (by rw [List.length_map,bN];lia) ?_;have:∀(xs:List α) (acc:List D),(∀a∈xs,c (ρ++[d a])=.ok (p a))->(∀a∈xs,p a=true->f (ρ++[d a])=.ok (y a)/\(k||(y a).pure)=true)->jK (q_ n yC c f k ρ) acc (xs.map d)=.ok (acc++(xs.filter p).map y):=by
  intro xs;induction xs with
  | nil=>intro acc _ _;simp [jK]
  | cons x xs ih=>
   intro acc hc h;rw [List.map_cons,jK,yM hρ (hc x (List.mem_cons_self ..)) fun e=>h x (List.mem_cons_self ..) e];show jK _ _ _=_;rw [ih _ (fun a ha=>hc a (List.mem_cons_of_mem _ ha)) fun a ha=>h a (List.mem_cons_of_mem _ ha)];by_cases hp:p x
   ·simp [hp]
   ·simp [hp]
 exact (this xs [] hc h3).trans (by rw [List.nil_append])
theorem call_v {n m:Nat} {f:FS} {ds:List D} {d:D} (h:f (ds++List.replicate (m-n) .uD)=.ok (.rt d)):fnS n m f ds=.ok d:=by
 unfold fnS;rw [h,Res.aW];rfl
theorem V9 {c:FT} {ρ:List D} (h:c ρ=.ok true):wO c ρ=.ok false:=by unfold wO;rw [h];rfl
theorem V0 {a b:FT} {ρ:List D} {r:Res Bool} (h1:a ρ=.ok false) (h2:b ρ=r):bOr a b ρ=r:=by unfold bOr;rw [h1];exact h2
theorem aM8 {a b:FT} {ρ:List D} (h1:a ρ=.ok true):bOr a b ρ=.ok true:=by unfold bOr;rw [h1];rfl
theorem oE {f:FE} {ρ:List D} {b:Bool} (h:f ρ=.ok (.bl b)):bTr f ρ=.ok b:=by unfold bTr;rw [h];rfl
theorem oY {t:D->List D->Res (List D)} {body:FS} (I:List D->Prop):∀(xs:List D) (ρ:List D),I ρ->(∀x∈xs,∀ρ,I ρ->∃ρ1 ρ2,t x ρ=.ok ρ1/\body ρ1=.ok (.nx ρ2)/\I ρ2)->∃ρ',o8 t body xs ρ=.ok (.nx ρ')/\I ρ'
 | [],ρ,h,_=>⟨ρ,rfl,h⟩
 | x::xs,ρ,h,hb=>by
  obtain ⟨ρ1,ρ2,h1,h2,h3⟩:=hb x (List.mem_cons_self ..) ρ h;obtain ⟨ρ',h4,h5⟩:=oY I xs ρ2 h3 fun y hy=>hb y (List.mem_cons_of_mem _ hy)
  exact ⟨ρ',bZ h1 h2 h4,h5⟩
theorem getL (L:List D) (k:Nat) (d:D) (h:L[k]?=some d):getD (.lst L) (.int k)=.ok d:=by
 have hk:k<L.length:=(List.getElem?_eq_some_iff.mp h).1;obtain ⟨h2,e⟩:=aF0 L k (by lia) (by lia);rw [e];obtain ⟨h3,e3⟩:=List.getElem?_eq_some_iff.mp h;simp only [Int.toNat_natCast];rw [e3]
theorem aNi (L:List D) (k:Nat) (d:D) (h:L[k]?=some d):getD (.scr L) (.int k)=.ok d:=getL L k d h
theorem mU {L:List D} {n:Nat} (h:L.length=n):iK [.lst L]=.ok (.int (n:Int)):=by rw [<-h];rfl
theorem CW (xs:List Nat) (hl:xs.length<=1000):dO 2 eE [.lst (xs.map fun (k:Nat)=>D.int (k:Int)),.lst (xs.map fun (k:Nat)=>D.int (k:Int))]=.ok (.bl true):=by
 refine (eQ rfl).trans (call_v ?_);refine aL (nA (V0 (V9 (oE (b:=true) rfl)) (fU (k:=false) ?_)) rfl) ?_
 ·refine aM (x:=.int (xs.length:Nat)) (y:=.int (xs.length:Nat)) ?_ ?_ ?_
  ·exact a_ (aF rfl rfl) (mU (List.length_map ..))
  ·exact a_ (aF rfl rfl) (mU (List.length_map ..))
  ·show Res.ok (D.bl (!(((xs.length:Nat):Int)==((xs.length:Nat):Int))))=_;rw [beq_self_eq_true];rfl
 ·obtain ⟨ρ',h1,_⟩:=oY (t:=tg1 2) (body:=sIf (bOr (wO (bTr (b1 (DR .int) (b2 getD cO cX)))) (bOr (bTr (b1 (DR .bool) (b2 getD cO cX))) (bTB (b2 (cV .ne) (b2 getD cO cX) (b2 getD dN cX))))) (kO (bC (.bl false)) true) jL) (fun ρ=>∃x,ρ=[.lst (xs.map fun (k:Nat)=>D.int (k:Int)),.lst (xs.map fun (k:Nat)=>D.int (k:Int)),x]) ((List.range xs.length).map fun (k:Nat)=>D.int (0+(k:Int))) [.lst (xs.map fun (k:Nat)=>D.int (k:Int)),.lst (xs.map fun (k:Nat)=>D.int (k:Int)),.uD] ⟨_,rfl⟩ fun x hx ρ ⟨y,e⟩=>by
   subst e;obtain ⟨k,hk,rfl⟩:=List.mem_map.mp hx;have hk:=List.mem_range.mp hk;have hg:getD (.lst (xs.map fun (k:Nat)=>D.int (k:Int))) (.int (0+(k:Int)))=.ok (.int ((xs[k]:Nat):Int)):=by
    rw [Int.zero_add];exact getL _ k _ (by rw [List.getElem?_map,List.getElem?_eq_getElem hk];rfl)
   refine ⟨_,_,rfl,nA (V0 (V9 (oE (b:=true) ?_)) (V0 (oE (b:=false) ?_) (fU (k:=false) (aM (aM rfl rfl hg) (aM rfl rfl hg) ?_)))) rfl,_,rfl⟩
   ·show (b2 getD cO cX _ >>= _)=_;rw [aM rfl rfl hg];rfl
   ·show (b2 getD cO cX _ >>= _)=_;rw [aM rfl rfl hg];rfl
   ·show Res.ok (D.bl (!(((xs[k]:Nat):Int)==((xs[k]:Nat):Int))))=_;rw [beq_self_eq_true];rfl
  refine aL (fV (JQ (n:=(xs.length:Nat)) ?_ (by lia) (by lia)) h1) (iD rfl rfl);exact aF (a_ (aF rfl rfl) (mU (List.length_map ..))) rfl
noncomputable abbrev Hk:=Bool×D
noncomputable def sel (b:Bool):Nat->List Hk->List (Nat×D)
 | _,[]=>[]
 | k,h::r=>if h.1=b then (k,h.2)::sel b (k+1) r else sel b (k+1) r
noncomputable def pr (p:Nat×D):D:=.tup [.int (p.1:Int),p.2]
noncomputable def hkD (h:Hk):D:=.tup [.bl h.1,h.2]
def fO (c:Str) (hs:List Hk):D:=.ins c [("giving",.lst ((sel true 0 hs).map pr)),("taking",.lst ((sel false 0 hs).map pr))]
noncomputable def hk0:Hk:=(false,.non)
theorem jP (b:Bool):∀(hs:List Hk) (k:Nat),(sel b k hs).length<=hs.length
 | [],_=>Nat.le_refl _
 | h::r,k=>by
  rw [sel];have:=jP b r (k+1);split
  ·rw [List.length_cons,List.length_cons];lia
  ·rw [List.length_cons];lia
theorem K1 (b:Bool):∀(hs:List Hk) (k:Nat),(sel b k hs).map (·.1)=((List.range hs.length).filter fun j=>(hs.getD j hk0).1==b).map (·+k)
 | [],_=>rfl
 | h::r,k=>by
  rw [sel,List.length_cons,List.range_succ_eq_map,List.filter_cons];have ih:=K1 b r (k+1);have e:(((List.range r.length).map Nat.succ).filter fun j=>((h::r).getD j hk0).1==b).map (·+k)=((List.range r.length).filter fun j=>(r.getD j hk0).1==b).map (·+(k+1)):=by
   rw [List.filter_map,List.map_map];refine (congrFun (congrArg List.map (funext fun j=>?_)) _).trans (congrArg (List.map _) (congrFun (congrArg List.filter (funext fun j=>?_)) _))
   ·show j+1+k=j+(k+1);lia
   ·rfl
  by_cases hb:h.1=b
  ·rw [if_pos hb,if_pos (by show (h.1==b)=true;rw [hb];exact beq_self_eq_true b),List.map_cons,List.map_cons,ih,e,Nat.zero_add]
  ·rw [if_neg hb,if_neg (by show ¬(h.1==b)=true;intro z;exact hb (eq_of_beq z)),ih,e]
theorem QD (b:Bool) {d:D}:∀(hs:List Hk) (k j:Nat),hs[j]?=some (b,d)->(k+j,d)∈sel b k hs
 | [],_,_,h=>by simp at h
 | h::r,k,0,e=>by
  simp at e;rw [sel,e,if_pos rfl];exact List.mem_cons_self ..
 | h::r,k,j+1,e=>by
  have:=QD b r (k+1) j (by simpa using e);rw [show k+(j+1)=k+1+j by lia,sel];split
  ·exact List.mem_cons_of_mem _ this
  ·exact this
theorem oZ (b:Bool):∀(hs:List Hk) (k:Nat),∀p∈sel b k hs,k<=p.1/\∃j,p.1=k+j/\hs[j]?=some (b,p.2)
 | [],_,p,h=>by simp [sel] at h
 | h::r,k,p,hp=>by
  rw [sel] at hp;have go:p∈sel b (k+1) r->k<=p.1/\∃j,p.1=k+j/\(h::r)[j]?=some (b,p.2):=fun hp=>by
   obtain ⟨h1,j,h2,h3⟩:=oZ b r (k+1) p hp;exact ⟨by lia,j+1,by lia,by simpa using h3⟩
  split at hp
  ·rename_i hb;rcases List.mem_cons.mp hp with rfl|hp
   ·exact ⟨Nat.le_refl _,0,rfl,by rw [<-hb];rfl⟩
   ·exact go hp
  ·exact go hp
theorem zG (b:Bool):∀(hs:List Hk) (k:Nat),((sel b k hs).map (·.1)).Nodup
 | [],_=>List.nodup_nil
 | h::r,k=>by
  rw [sel];have ih:=zG b r (k+1);split
  ·rw [List.map_cons,List.nodup_cons];refine ⟨fun z=>?_,ih⟩;obtain ⟨p,hp,e⟩:=List.mem_map.mp z;have:=(oZ b r (k+1) p hp).1;lia
  ·exact ih
theorem aKd {cs:List Str} {c f:Str} {fe:FE} {ρ:List D} {fs:List (Str×D)} {d:D} (h:fe ρ=.ok (.ins c fs)) (hc:cs.contains c=true) (hl:fs.lookup f=some d):GK cs f fe ρ=.ok d:=by
 unfold GK;rw [h,Res.aW];show (if cs.contains c then Res.ofOpt (fs.lookup f) else .bad)=_;rw [if_pos hc,hl];rfl
theorem aDh (a b:D):List.lookup ("giving" : Str) [("giving",a),("taking",b)]=some a:=rfl
theorem aDi (a b:D):List.lookup ("taking" : Str) [("giving",a),("taking",b)]=some b:=rfl
theorem S7 (L:List (Nat×D)) (hL:L.length<=1000) (it:FI) (ρ:List D) (hρ:ρ.length=1) (h:it ρ=.ok (L.map pr,false)):gC 1 it (aEn 2) jU dN false ρ=.ok (.lst (L.map fun p=>D.int (p.1:Int))):=by
 refine O3 h (by rw [List.length_map,bN];lia) ?_;have:∀(L:List (Nat×D)) (acc:List D),jK (q_ 1 (aEn 2) jU dN false ρ) acc (L.map pr)=.ok (acc++L.map fun p=>D.int (p.1:Int)):=by
  intro L;induction L with
  | nil=>intro acc;simp [jK]
  | cons p L ih=>
   intro acc;rw [List.map_cons,jK];have e:q_ 1 (aEn 2) jU dN false ρ acc (pr p)=.ok (acc++[.int (p.1:Int)]):=by
    unfold q_ pr;show (do let ok <- jU (MK 1 ρ++[D.int (p.1:Int),p.2]);_)=_;rw [JP hρ]
    match ρ,hρ with
    | [x],_=>rfl
   rw [e];show jK _ (acc++[.int (p.1:Int)]) _=_;rw [ih,List.append_assoc];rfl
 exact (this L []).trans (by rw [List.nil_append])
theorem aC5 {f:D->Res D} {a:FE} {ρ:List D} {x z:D} (h:a ρ=.ok x) (h2:f x=.ok z):b1 f a ρ=.ok z:=by unfold b1;rw [h];exact h2
theorem aDj:KE fun (k:Nat)=>D.int (k:Int):=⟨fun a b=>by
 show (((a:Nat):Int)==((b:Nat):Int))=_;rw [Z3];exact decide_eq_decide.mpr ⟨fun h=>by lia,fun h=>by lia⟩,fun _=>rfl,fun _ _=>rfl⟩
theorem K3:∀(ps L:List (Nat×D)),wD (dD (fun (k:Nat)=>D.int (k:Int)) L) (ps.map fun p=>(D.int (p.1:Int),p.2))=dD (fun (k:Nat)=>D.int (k:Int)) (dX L ps)
 | [],_=>rfl
 | p::ps,L=>by
  show wD (putD (dD (fun (k:Nat)=>D.int (k:Int)) L) (D.int (p.1:Int)) p.2) (ps.map fun p=>(D.int (p.1:Int),p.2))=_;rw [zE aDj p.1 p.2 L,K3 ps];rfl
theorem aNj {L:List (Nat×D)} {k:Nat} {v:D} (e:gM L k=some v):getD (.dct (dD (fun (k:Nat)=>D.int (k:Int)) L)) (.int (k:Int))=.ok v:=aJg aDj e
section
variable {c:Str} {hs:List Hk}
theorem S8 (hc:rcs.contains c=true) (hl:hs.length<=1000):mG [fO c hs]=.ok (.lst ((sel true 0 hs).map fun p=>D.int (p.1:Int))):=by
 refine call_v (iD (S7 (sel true 0 hs) (Nat.le_trans (jP ..) hl) _ _ rfl ?_) rfl);unfold cF;rw [aKd (c:=c) (fs:=[("giving",.lst ((sel true 0 hs).map pr)),("taking",.lst ((sel false 0 hs).map pr))]) rfl hc (aDh _ _)];rfl
theorem S9 (hc:rcs.contains c=true) (hl:hs.length<=1000):mH [fO c hs]=.ok (.lst ((sel false 0 hs).map fun p=>D.int (p.1:Int))):=by
 refine call_v (iD (S7 (sel false 0 hs) (Nat.le_trans (jP ..) hl) _ _ rfl ?_) rfl);unfold cF;rw [aKd (c:=c) (fs:=[("giving",.lst ((sel true 0 hs).map pr)),("taking",.lst ((sel false 0 hs).map pr))]) rfl hc (aDi _ _)];rfl
def V1 (hs:List Hk):Prop:=∀h∈hs,h.2=.non\/∃x,h.2=.str x
theorem QF (hk:V1 hs) {h:Hk} (hm:h∈hs):h.2.pure=true:=by
 rcases hk h hm with e|⟨x,e⟩ <;> rw [e] <;> rfl
theorem HF (hk:V1 hs) (b:Bool):∀p∈sel b 0 hs,p.2.pure=true:=fun p hp=>by
 obtain ⟨_,j,_,h⟩:=oZ b hs 0 p hp;exact QF hk (List.mem_of_getElem? h)
theorem fZ:∀{L:List D},(∀x∈L,x.pure=true)->D.aN L=true
 | [],_=>rfl
 | x::L,h=>by rw [D.aN,h x (List.mem_cons_self ..),fZ fun y hy=>h y (List.mem_cons_of_mem _ hy)];rfl
theorem xJ (hk:V1 hs) (b:Bool):D.aN ((sel b 0 hs).map pr)=true:=fZ fun x hx=>by
 obtain ⟨p,hp,rfl⟩:=List.mem_map.mp hx;show (D.aN [D.int _,p.2])=true;rw [D.aN,D.aN,HF hk b p hp];rfl
theorem S_:∀L:List (Nat×D),(∀p∈L,p.2.pure=true)->yQ (L.map pr)=some (L.map fun p=>(D.int (p.1:Int),p.2))
 | [],_=>rfl
 | p::L,h=>by
  show (if gR (.int (p.1:Int))&&p.2.pure then (yQ (L.map pr)).map ((D.int (p.1:Int),p.2)::·) else none)=_;rw [h p (List.mem_cons_self ..),S_ L fun q hq=>h q (List.mem_cons_of_mem _ hq)];rfl
theorem aG3 (hc:rcs.contains c=true) (hl:hs.length<=400) (hk:V1 hs) {k:Nat} {h:Hk} (e:hs[k]?=some h):j8 [fO c hs,.int (k:Int)]=.ok h.2:=by
 have e1:GK rcs "giving" cO [fO c hs,.int (k:Int)]=.ok (.lst ((sel true 0 hs).map pr)):=aKd (c:=c) (fs:=[("giving",.lst ((sel true 0 hs).map pr)),("taking",.lst ((sel false 0 hs).map pr))]) rfl hc (aDh _ _);have e2:GK rcs "taking" cO [fO c hs,.int (k:Int)]=.ok (.lst ((sel false 0 hs).map pr)):=aKd (c:=c) (fs:=[("giving",.lst ((sel true 0 hs).map pr)),("taking",.lst ((sel false 0 hs).map pr))]) rfl hc (aDi _ _);have l1:=jP true hs 0;have l2:=jP false hs 0;have hp:∀p∈sel true 0 hs++sel false 0 hs,p.2.pure=true:=fun p hp=>(List.mem_append.mp hp).elim (HF hk true p) (HF hk false p)
 have nd:((sel true 0 hs++sel false 0 hs).map (·.1)).Nodup:=by
  rw [List.map_append];refine List.nodup_append.mpr ⟨zG true hs 0,zG false hs 0,fun a ha b hb z=>?_⟩;obtain ⟨p,hp,rfl⟩:=List.mem_map.mp ha;obtain ⟨q,hq,rfl⟩:=List.mem_map.mp hb;obtain ⟨_,i,h1,h2⟩:=oZ true hs 0 p hp;obtain ⟨_,j,h3,h4⟩:=oZ false hs 0 q hq;obtain rfl:i=j:=by lia
  rw [h2] at h4;cases h4
 have hm:(k,h.2)∈sel true 0 hs++sel false 0 hs:=by
  rcases hb:h.1 with _|_
  ·exact List.mem_append_right _ (by have:=QD false (d:=h.2) hs 0 k (by rw [e,<-hb]);simpa using this)
  ·exact List.mem_append_left _ (by have:=QD true (d:=h.2) hs 0 k (by rw [e,<-hb]);simpa using this)
 generalize hL:sel true 0 hs++sel false 0 hs=L at hp nd hm;have hlen:L.length<=1000:=by rw [<-hL,List.length_append];lia
 have ea:aX .add (.lst ((sel true 0 hs).map pr)) (.lst ((sel false 0 hs).map pr))=.ok (.lst (L.map pr)):=by
  rw [mF _ _ (by rw [List.length_map,List.length_map,bN];lia) (xJ hk true) (xJ hk false),<-List.map_append,hL]
 have ed:R5 (.lst (L.map pr))=.ok (.dct (dD (fun (k:Nat)=>D.int (k:Int)) (dX [] L))):=by
  show (match yQ (L.map pr) with|some ps=>if decide ((L.map pr).length<=1000) then Res.ok (D.dct (wD [] ps)) else .bad|none=>.bad)=_;rw [S_ L hp];show (if decide ((L.map pr).length<=1000) then Res.ok (D.dct (wD [] (L.map fun p=>(D.int (p.1:Int),p.2)))) else .bad)=_;rw [if_pos (by rw [List.length_map];exact decide_eq_true hlen)];exact congrArg (fun z=>Res.ok (D.dct z)) (K3 L [])
 refine call_v (iD (aM (aC5 (aM e1 e2 ea) ed) rfl ?_) ?_)
 ·exact aNj (QC k h.2 L [] nd hm)
 ·exact QF hk (List.mem_of_getElem? e)
end
theorem aC6 {cs:List Str} {m c:Str} {f:List D->Res D} {fo:FE} {ρ:List D} {fs:List (Str×D)} {d:D} (h:fo ρ=.ok (.ins c fs)) (hc:cs.contains c=true) (hn:fs.lookup m=none) (hv:f [.ins c fs]=.ok d):lB cs m f fo ρ=.ok d:=by
 unfold lB;rw [h,Res.aW];show (if cs.contains c&&(fs.lookup m).isNone then f [.ins c fs] else .bad)=_;rw [hc,hn];exact hv
theorem aLw {cs:List Str} {m c:Str} {f:List D->Res D} {fo:FE} {fa:FA} {ρ:List D} {fs:List (Str×D)} {a d:D} (h:fo ρ=.ok (.ins c fs)) (h2:fa ρ=.ok [a]) (hc:cs.contains c=true) (hn:fs.lookup m=none) (hv:f [.ins c fs,a]=.ok d):JX cs m f 2 fo fa ρ=.ok d:=by
 unfold JX;rw [h,Res.aW,h2,Res.aW];show (if cs.contains c&&((fs.lookup m).isNone&&decide ([a].length+1=2)) then f [.ins c fs,a] else .bad)=_;rw [hc,hn];exact hv
section
variable {c:Str} {hs:List Hk}
def hkS (hs:List Hk):D:=.scr (hs.map hkD)
theorem Z5 {k:Nat} {h:Hk} (e:hs[k]?=some h):getD (hkS hs) (.int (0+(k:Int)))=.ok (hkD h):=by
 rw [Int.zero_add];exact aNi _ k _ (by rw [List.getElem?_map,e];rfl)
theorem aDk (n:Nat) (b:Bool) (cf:FT) (ρ:List D) (hρ:ρ.length=n) (hl:hs.length<=400) (hv:h_ 1 ρ=.ok (hkS hs)) (hn:∀z,h_ n (ρ++[.int z])=.ok (.int z)) (hc:∀(k:Nat) (h:Hk),hs[k]?=some h->cf (ρ++[.int (0+(k:Int))])=.ok (h.1==b)):gC n (jJ (aC (aY iK (aC dN aU)) aU) iV) yC cf (h_ n) false ρ=.ok (.lst (((sel b 0 hs).map (·.1)).map fun (k:Nat)=>D.int (k:Int))):=by
 rw [K1,List.map_map];have hr:jJ (aC (aY iK (aC dN aU)) aU) iV ρ=.ok ((List.range hs.length).map fun (k:Nat)=>D.int (0+(k:Int)),true):=by
  refine JQ (n:=(hs.length:Nat)) (aF (a_ (aF hv rfl) ?_) rfl) (by lia) (by lia);show Res.ok (D.int ((hs.map hkD).length:Int))=_;rw [List.length_map]
 refine (Z4 (fun (k:Nat)=>D.int (0+(k:Int))) (fun (k:Nat)=>D.int (0+(k:Int))) (fun k=>(hs.getD k hk0).1==b) (List.range hs.length) hρ hr (by rw [List.length_range];lia) (fun k hk=>?_) fun k _ _=>⟨hn _,rfl⟩).trans ?_
 ·have hk:=List.mem_range.mp hk;rw [hc k hs[k] (List.getElem?_eq_getElem hk),List.getD_eq_getElem?_getD,List.getElem?_eq_getElem hk];rfl
 ·refine congrArg (fun z=>Res.ok (D.lst z)) (congrFun (congrArg List.map (funext fun k=>?_)) _);show D.int (0+(k:Int))=D.int (((k+0:Nat)):Int);rw [Int.zero_add,Nat.add_zero]
theorem aG4 (hc:rcs.contains c=true) (hl:hs.length<=400) (hk:V1 hs):dO 2 bF [fO c hs,hkS hs]=.ok (.bl true):=by
 have g1:=S8 (hs:=hs) hc (by lia);have g2:=S9 (hs:=hs) hc (by lia);have s1:=jP true hs 0;have s2:=jP false hs 0;have lg:∀(a b:D) (m:Str),m ≠ "giving"->m ≠ "taking"->List.lookup m [(("giving" : Str),a),("taking",b)]=none:=fun a b m h1 h2=>by
  rw [List.lookup_cons,beq_eq_false_iff_ne.mpr h1,List.lookup_cons,beq_eq_false_iff_ne.mpr h2];rfl
 refine (eQ rfl).trans (call_v ?_);refine aL (nA (V9 (oE (b:=true) ?_)) rfl) (aL (nA (V9 (oE (b:=true) ?_)) rfl) ?_)
 ·refine a_ (aF (aC6 (c:=c) rfl hc (lg _ _ _ (by decide) (by decide)) g1) (aF (aDk 4 true _ _ rfl hl rfl (fun _=>rfl) fun k h e=>?_) rfl)) ?_
  ·rw [show (h.1==true)=h.1 by cases h.1 <;> rfl];exact oE (aM (aM rfl rfl (Z5 e)) rfl rfl)
  ·rw [show ((sel true 0 hs).map fun p=>D.int (p.1:Int))=(((sel true 0 hs).map (·.1)).map fun (k:Nat)=>D.int (k:Int)) from by rw [List.map_map];rfl];exact CW _ (by rw [List.length_map];lia)
 ·refine a_ (aF (aC6 (c:=c) rfl hc (lg _ _ _ (by decide) (by decide)) g2) (aF (aDk 4 false _ _ rfl hl rfl (fun _=>rfl) fun k h e=>?_) rfl)) ?_
  ·have:bTr (b2 getD (b2 getD dN eG) zO) ([fO c hs,hkS hs,D.uD,D.uD]++[.int (0+(k:Int))])=.ok h.1:=oE (aM (aM rfl rfl (Z5 e)) rfl rfl);show wO (bTr (b2 getD (b2 getD dN eG) zO)) ([fO c hs,hkS hs,D.uD,D.uD]++[.int (0+(k:Int))])=_;unfold wO;rw [this,show (h.1==false)=!h.1 by cases h.1 <;> rfl];rfl
  ·rw [show ((sel false 0 hs).map fun p=>D.int (p.1:Int))=(((sel false 0 hs).map (·.1)).map fun (k:Nat)=>D.int (k:Int)) from by rw [List.map_map];rfl];exact CW _ (by rw [List.length_map];lia)
 ·obtain ⟨ρ',h1,_⟩:=oY (t:=tg1 2) (body:=(bH (cG false 3 (JX rcs "kind_at" j8 2 cO (aC cX aU)) true) (sIf (bTB (b2 (cV .isN) (b2 getD (b2 getD dN cX) fQ) (bC .non))) (sIf (bTB (b2 (cV .notN) eF (bC .non))) (kO (bC (.bl false)) true) jL) (sIf (bOr (wO (bTr (b1 (DR .str) eF))) (bTB (b2 (cV .ne) eF (b2 getD (b2 getD dN cX) fQ)))) (kO (bC (.bl false)) true) jL)))) (fun ρ=>∃x y,ρ=[fO c hs,hkS hs,x,y]) ((List.range hs.length).map fun (k:Nat)=>D.int (0+(k:Int))) [fO c hs,hkS hs,.uD,.uD] ⟨_,_,rfl⟩ fun x hx ρ ⟨y,z,e⟩=>by
   subst e;obtain ⟨k,hk',rfl⟩:=List.mem_map.mp hx;have hk':=List.mem_range.mp hk';have e:=List.getElem?_eq_getElem hk';have ke:=aG3 (c:=c) hc hl hk e;have hg:=Z5 e;have hd:=hk hs[k] (List.getElem_mem hk');generalize hs[k]=h at e ke hg hd;refine ⟨_,[fO c hs,hkS hs,.int (0+(k:Int)),h.2],rfl,?_,_,_,rfl⟩;refine aL (bO (d:=h.2) (aLw (c:=c) (a:=.int (k:Int)) rfl ?_ hc (lg _ _ _ (by decide) (by decide)) ke)) ?_
   ·show Res.ok [D.int (0+(k:Int))]=_;rw [Int.zero_add]
   ·have g3:b2 getD (b2 getD dN cX) fQ [fO c hs,hkS hs,.int (0+(k:Int)),h.2]=.ok h.2:=aM (aM rfl rfl hg) rfl rfl;obtain ⟨h1,h2⟩:=h;rcases hd with rfl|⟨s,rfl⟩
    ·exact MN (fU (k:=true) (aM g3 rfl rfl)) (nA (fU (k:=false) rfl) rfl)
    ·refine nA (fU (k:=false) (aM g3 rfl rfl)) (nA (V0 (V9 (oE (b:=true) rfl)) (fU (k:=false) (aM rfl g3 ?_))) rfl);show Res.ok (D.bl (!(s==s)))=_;rw [beq_self_eq_true];rfl
  refine aL (fV (JQ (n:=(hs.length:Nat)) (aF (a_ (aF rfl rfl) ?_) rfl) (by lia) (by lia)) h1) (iD rfl rfl);show Res.ok (D.int ((hs.map hkD).length:Int))=_;rw [List.length_map]
end
noncomputable abbrev Mkr:=Str×Str×List Str
noncomputable abbrev Tkr:=Str×Str×Str×List Str
noncomputable def mkD (m:Mkr):D:=.tup [.str m.1,.str m.2.1,.tup (m.2.2.map D.str)]
noncomputable def tkD (t:Tkr):D:=.tup [.str t.1,.str t.2.1,.str t.2.2.1,.tup (t.2.2.2.map D.str)]
noncomputable def fh (s:Str):Hk:=(false,.str s)
def hsM (m:Mkr):List Hk:=(true,.str m.2.1)::m.2.2.map fh
def hsT (t:Tkr):List Hk:=(false,.str t.2.2.1)::(true,.str t.2.1)::t.2.2.2.map fh
noncomputable def hsC:List Hk:=[(false,.non),(true,.non),(true,.non)]
noncomputable def hsD:List Hk:=[(false,.non)]
theorem bJ {l:List D} (h:D.aN l=true):(D.tup l).pure=true:=by rw [D.pure];exact h
theorem aP {x:D} {l:List D} (h:x.pure=true) (h2:D.aN l=true):D.aN (x::l)=true:=by rw [D.aN,h,h2];rfl
theorem bB (l:List Str):D.aN (l.map D.str)=true:=fZ fun x hx=>by
 obtain ⟨s,_,rfl⟩:=List.mem_map.mp hx;rfl
theorem HH (M:List Mkr):D.aN (M.map mkD)=true:=fZ fun x hx=>by
 obtain ⟨m,_,rfl⟩:=List.mem_map.mp hx;exact bJ (aP rfl (aP rfl (aP (bJ (bB _)) rfl)))
theorem HJ (T:List Tkr):D.aN (T.map tkD)=true:=fZ fun x hx=>by
 obtain ⟨m,_,rfl⟩:=List.mem_map.mp hx;exact bJ (aP rfl (aP rfl (aP rfl (aP (bJ (bB _)) rfl))))
theorem Z6:∀(l:List Str) (k:Nat),sel true k (l.map fh)=[]
 | [],_=>rfl
 | s::l,k=>by
  rw [List.map_cons,sel,if_neg (by simp [fh])];exact Z6 l (k+1)
theorem Z7:∀(l:List Str) (k:Nat),(sel false k (l.map fh)).map pr=(List.range (l.map D.str).length).map fun (j:Nat)=>D.tup [.int ((k:Int)+j),(l.map D.str).getD j .non]
 | [],_=>rfl
 | s::l,k=>by
  rw [List.map_cons,sel,if_pos (show (fh s).1=false from rfl),List.map_cons,Z7 l (k+1),List.map_cons,List.length_cons,List.range_succ_eq_map,List.map_cons,List.map_map];refine congr (congrArg List.cons ?_) (congrFun (congrArg List.map (funext fun j=>?_)) _)
  ·show D.tup [.int (k:Int),.str s]=D.tup [.int ((k:Int)+((0:Nat):Int)),.str s];simp
  ·show D.tup [.int (((k+1:Nat):Int)+j),(l.map D.str).getD j .non]=D.tup [.int ((k:Int)+((j+1:Nat):Int)),(l.map D.str).getD j .non];rw [show ((k+1:Nat):Int)+j=(k:Int)+((j+1:Nat):Int) by lia]
theorem aJh (m:Nat) (z:Int) (hz:z=m) (l:List Str) (hl:l.length<=1000):enT z (.tup (l.map D.str))=.ok (.lst ((sel false m (l.map fh)).map pr)):=by
 subst hz;show (if D.aN (l.map D.str)&&decide ((l.map D.str).length<=lim) then Res.ok (D.lst ((List.range (l.map D.str).length).map fun (j:Nat)=>.tup [.int ((m:Int)+j),(l.map D.str).getD j .non])) else .bad)=_;rw [bB,Bool.true_and,if_pos (decide_eq_true (by rw [List.length_map,bN];lia)),Z7]
theorem aC7 (l:List Str):V1 (l.map fh):=fun h hh=>by
 obtain ⟨s,_,rfl⟩:=List.mem_map.mp hh;exact .inr ⟨s,rfl⟩
theorem aKe (m:Mkr):V1 (hsM m):=fun h hh=>by
 rcases List.mem_cons.mp hh with rfl|hh
 ·exact .inr ⟨_,rfl⟩
 ·exact aC7 _ h hh
theorem aKf (m:Tkr):V1 (hsT m):=fun h hh=>by
 rcases List.mem_cons.mp hh with rfl|hh
 ·exact .inr ⟨_,rfl⟩
 rcases List.mem_cons.mp hh with rfl|hh
 ·exact .inr ⟨_,rfl⟩
 ·exact aC7 _ h hh
theorem aM9:V1 hsC:=fun h hh=>by simp [hsC] at hh;rcases hh with rfl|rfl <;> exact .inl rfl
theorem aMa:V1 hsD:=fun h hh=>by simp [hsD] at hh;subst hh;exact .inl rfl
theorem Z8 {l:List D} (h:D.aN l=true):okF (.lst l)=true:=by
 unfold okF inner;simp [h]
theorem Z9 {ρ:List D} {f g:FE} {a b:Str} {x y:D} (h1:f ρ=.ok x) (h2:g ρ=.ok y) (o1:okF x=true) (o2:okF y=true):evS ρ [(a,.exp f),(b,.exp g)]=.ok [(a,x),(b,y)]:=by
 show (f ρ >>= fun d=>(g ρ >>= fun d2=>_) >>= _)=_;rw [h1,h2];show (if okF y then Res.ok [(b,y)] else .bad) >>= (fun ds=>if okF x then Res.ok ((a,x)::ds) else .bad)=_;rw [o1,o2];rfl
theorem aJi {ρ:List D} {fa:FA} (m:Mkr) (hl:m.2.2.length<=300) (h:fa ρ=.ok [.str m.2.1,.tup (m.2.2.map D.str)]):GD "MakerRole" eV 2 fa ρ=.ok (fO "MakerRole" (hsM m)):=by
 have e:sel true 0 (hsM m)=[(0,.str m.2.1)]:=by unfold hsM;rw [sel,if_pos rfl,Z6]
 have e2:sel false 0 (hsM m)=sel false 1 (m.2.2.map fh):=by unfold hsM;rw [sel,if_neg (by simp)]
 have p2:=xJ (aKe m) false;unfold GD;rw [h,Res.aW];unfold fO;rw [e2] at p2;rw [e,e2];have:D.aN [D.str m.2.1,D.tup (m.2.2.map D.str)]=true:=aP rfl (aP (bJ (bB _)) rfl);rw [this];show (evS [.uD,.str m.2.1,.tup (m.2.2.map D.str)] eV >>= fun fs=>Res.ok (D.ins _ fs))=_;refine (congrArg (· >>= fun fs=>Res.ok (D.ins _ fs)) (Z9 (x:=.lst [pr (0,.str m.2.1)]) (y:=.lst ((sel false 1 (m.2.2.map fh)).map pr)) rfl (aC5 rfl (aJh 1 _ rfl _ (by lia))) rfl (Z8 p2))).trans rfl
theorem make_T {ρ:List D} {fa:FA} (m:Tkr) (hl:m.2.2.2.length<=300) (h:fa ρ=.ok [.str m.2.1,.str m.2.2.1,.tup (m.2.2.2.map D.str)]):GD "TakerRole" eY 3 fa ρ=.ok (fO "TakerRole" (hsT m)):=by
 have e:sel true 0 (hsT m)=[(1,.str m.2.1)]:=by unfold hsT;rw [sel,if_neg (by simp),sel,if_pos rfl,Z6]
 have e2:sel false 0 (hsT m)=(0,.str m.2.2.1)::sel false 2 (m.2.2.2.map fh):=by unfold hsT;rw [sel,if_pos rfl,sel,if_neg (by simp)]
 have p2:=xJ (aKf m) false;unfold GD;rw [h,Res.aW];unfold fO;rw [e2,List.map_cons] at p2;rw [e,e2,List.map_cons];have:D.aN [D.str m.2.1,D.str m.2.2.1,D.tup (m.2.2.2.map D.str)]=true:=aP rfl (aP rfl (aP (bJ (bB _)) rfl));rw [this];show (evS [.uD,.str m.2.1,.str m.2.2.1,.tup (m.2.2.2.map D.str)] eY >>= fun fs=>Res.ok (D.ins _ fs))=_;have pp:D.aN ((sel false 2 (m.2.2.2.map fh)).map pr)=true:=by
  rw [D.aN,Bool.and_eq_true] at p2;exact p2.2
 have sl:=jP false (m.2.2.2.map fh) 2;rw [List.length_map] at sl;refine (congrArg (· >>= fun fs=>Res.ok (D.ins _ fs)) (Z9 (x:=.lst [pr (1,.str m.2.1)]) (y:=.lst (pr (0,.str m.2.2.1)::(sel false 2 (m.2.2.2.map fh)).map pr)) rfl (aM (x:=.lst [pr (0,.str m.2.2.1)]) rfl (aC5 rfl (aJh 2 _ rfl _ (by lia))) (mF _ _ (by rw [List.length_map,bN,List.length_cons,List.length_nil];lia) rfl pp)) rfl (Z8 p2))).trans rfl
theorem aJj {ρ:List D}:JW "CopyRole" j6 ρ=.ok (fO "CopyRole" hsC):=rfl
theorem aJk {ρ:List D}:JW "DropRole" j7 ρ=.ok (fO "DropRole" hsD):=rfl
theorem search {α:Type} {t:D->List D->Res (List D)} {body:FS} {e:α->D} (I:List D->Prop) (p:α->Bool) (r:α->D):∀(xs:List α) (ρ:List D),I ρ->(∀x∈xs,∀ρ,I ρ->∃ρ1,t (e x) ρ=.ok ρ1/\(p x=false->∃ρ2,body ρ1=.ok (.nx ρ2)/\I ρ2)/\(p x=true->body ρ1=.ok (.rt (r x))))->match xs.find? p with|some x=>o8 t body (xs.map e) ρ=.ok (.rt (r x))|none=>∃ρ',o8 t body (xs.map e) ρ=.ok (.nx ρ')/\I ρ'
 | [],ρ,h,_=>⟨ρ,rfl,h⟩
 | x::xs,ρ,h,hb=>by
  obtain ⟨ρ1,h1,h2,h3⟩:=hb x (List.mem_cons_self ..) ρ h;rw [List.find?_cons];rcases hp:p x with _|_
  ·obtain ⟨ρ2,h4,h5⟩:=h2 hp;have ih:=search I p r xs ρ2 h5 fun y hy=>hb y (List.mem_cons_of_mem _ hy)
   show match xs.find? p with|some x=>_|none=>_
   split
   ·rename_i y hy;rw [hy] at ih;exact bZ h1 h4 ih
   ·rename_i hy;rw [hy] at ih;obtain ⟨ρ',h6,h7⟩:=ih;exact ⟨ρ',bZ h1 h4 h6,h7⟩
  ·show o8 t body (e x::xs.map e) ρ=_;rw [o8,h1,Res.aW,h3 hp,Res.aW]
def K4 (T:List Tkr) (n:Str):Option (Str×List Hk):=
 match T.find? (fun t=>t.1==n) with
 | some t=>some ("TakerRole",hsT t)
 | none=>if n = "copy" then some ("CopyRole",hsC) else if n = "drop" then some ("DropRole",hsD) else none
def nQ (M:List Mkr) (T:List Tkr) (n:Str):Option (Str×List Hk):=
 match M.find? (fun m=>m.1==n) with
 | some m=>some ("MakerRole",hsM m)
 | none=>K4 T n
def b_ (k:List Str) (M:List Mkr) (T:List Tkr) (R:D):D:=.tup [.tup (k.map D.str),.tup (M.map mkD),.tup (T.map tkD),R]
noncomputable def noName (n:Str):Res D:=.err "NoName" [.exc "NoName" [("word",n)]]
def aG5 (n:Str):Option (Str×List Hk)->Res D
 | some x=>.ok (fO x.1 x.2)
 | none=>noName n
theorem TF {f g:FS} {ρ:List D} {d:D} (h:f ρ=.ok (.rt d)):bH f g ρ=.ok (.rt d):=by
 unfold bH;rw [h,Res.aW]
theorem jF {α:Type} {f:List D->Res α} {ρ:List D} {a:α} (h:f ρ=.ok a):noE f ρ=.ok a:=by
 unfold noE;rw [h]
section
variable {k:List Str} {M:List Mkr} {T:List Tkr} {R:D}
theorem Z_ (hM:∀m∈M,m.2.2.length<=300) (hT:∀t∈T,t.2.2.2.length<=300) (n:Str):dB [b_ k M T R,.str n]=aG5 n (nQ M T n):=by
 have s1:=search (t:=tgN [2,3,4]) (body:=sIf (bTB (b2 (cV .eq) cX dN)) (kO (GD "MakerRole" eV 2 (aC eF (aC eG aU))) true) jL) (e:=mkD) (fun ρ=>∃x y z,ρ=[b_ k M T R,.str n,x,y,z,.uD,.uD,.uD]) (fun m=>m.1==n) (fun m=>fO "MakerRole" (hsM m)) M [b_ k M T R,.str n,.uD,.uD,.uD,.uD,.uD,.uD] ⟨_,_,_,rfl⟩ fun m hm ρ ⟨x,y,z,e⟩=>by
  subst e;refine ⟨_,rfl,fun hp=>⟨_,nA (fU (k:=false) (aM rfl rfl ?_)) rfl,_,_,_,rfl⟩,fun hp=>MN (fU (k:=true) (aM rfl rfl ?_)) (iD (aJi m (hM m hm) rfl) rfl)⟩
  ·show Res.ok (D.bl (m.1==n))=_;rw [hp]
  ·show Res.ok (D.bl (m.1==n))=_;rw [hp]
 unfold nQ;have i1:∀ρ,ρ=[b_ k M T R,.str n,.uD,.uD,.uD,.uD,.uD,.uD]->cF (b2 getD cO fQ) false ρ=.ok (M.map mkD,true):=fun ρ e=>by
  subst e;rw [fY (xs:=M.map mkD) rfl,HH];rfl
 rcases f1:M.find? (fun m=>m.1==n) with _|m
 ·rw [f1] at s1 ⊢;obtain ⟨ρ1,h1,x,y,z,rfl⟩:=s1;have s2:=search (t:=tgN [5,3,6,7]) (body:=sIf (bTB (b2 (cV .eq) iC dN)) (kO (GD "TakerRole" eY 3 (aC eF (aC nU (aC mW aU)))) true) jL) (e:=tkD) (fun ρ=>∃x y z a b c,ρ=[b_ k M T R,.str n,x,y,z,a,b,c]) (fun m=>m.1==n) (fun m=>fO "TakerRole" (hsT m)) T [b_ k M T R,.str n,x,y,z,.uD,.uD,.uD] ⟨_,_,_,_,_,_,rfl⟩ fun m hm ρ ⟨x,y,z,a,b,c,e⟩=>by
   subst e;refine ⟨_,rfl,fun hp=>⟨_,nA (fU (k:=false) (aM rfl rfl ?_)) rfl,_,_,_,_,_,_,rfl⟩,fun hp=>MN (fU (k:=true) (aM rfl rfl ?_)) (iD (make_T m (hT m hm) rfl) rfl)⟩
   ·show Res.ok (D.bl (m.1==n))=_;rw [hp]
   ·show Res.ok (D.bl (m.1==n))=_;rw [hp]
  have i2:cF (b2 getD cO iU) false [b_ k M T R,.str n,x,y,z,.uD,.uD,.uD]=.ok (T.map tkD,true):=by
   rw [fY (xs:=T.map tkD) rfl,HJ];rfl
  show _=aG5 n (K4 T n);unfold K4;rcases f2:T.find? (fun m=>m.1==n) with _|t
  ·rw [f2] at s2 ⊢;obtain ⟨ρ2,h2,x,y,z,a,b,c,rfl⟩:=s2;show _=aG5 n (if n = "copy" then some ("CopyRole",hsC) else if n = "drop" then some ("DropRole",hsD) else none);by_cases z1:n = "copy"
   ·rw [if_pos z1];refine call_v (aL (jF (fV (i1 _ rfl) h1)) (aL (jF (fV i2 h2)) (TF (jF (MN (fU (k:=true) (aM rfl rfl ?_)) (iD aJj rfl))))));show Res.ok (D.bl (n == "copy"))=_;rw [z1];rfl
   rw [if_neg z1];have c1:∀ρ,ρ=[b_ k M T R,.str n,x,y,z,a,b,c]->bTB (b2 (cV .eq) dN (bC (.str "copy"))) ρ=.ok false:=fun ρ e=>by
    subst e;refine fU (k:=false) (aM rfl rfl ?_);show Res.ok (D.bl (n == "copy"))=_;rw [beq_eq_false_iff_ne.mpr z1]
   by_cases z2:n = "drop"
   ·rw [if_pos z2];refine call_v (aL (jF (fV (i1 _ rfl) h1)) (aL (jF (fV i2 h2)) (aL (jF (nA (c1 _ rfl) rfl)) (TF (jF (MN (fU (k:=true) (aM rfl rfl ?_)) (iD aJk rfl)))))));show Res.ok (D.bl (n == "drop"))=_;rw [z2];rfl
   rw [if_neg z2];have c2:∀ρ,ρ=[b_ k M T R,.str n,x,y,z,a,b,c]->bTB (b2 (cV .eq) dN (bC (.str "drop"))) ρ=.ok false:=fun ρ e=>by
    subst e;refine fU (k:=false) (aM rfl rfl ?_);show Res.ok (D.bl (n == "drop"))=_;rw [beq_eq_false_iff_ne.mpr z2]
   show fnS 2 8 yX _=noName n;have e:yX ([b_ k M T R,.str n]++List.replicate (8-2) .uD)=.err "NoName" [.exc "NoName" [("word",n)]]:=aL (jF (fV (i1 _ rfl) h1)) (aL (jF (fV i2 h2)) (aL (jF (nA (c1 _ rfl) rfl)) (aL (jF (nA (c2 _ rfl) rfl)) rfl)));unfold fnS;rw [e];rfl
  ·rw [f2] at s2 ⊢;dsimp only at s2;exact call_v (aL (jF (fV (i1 _ rfl) h1)) (TF (jF (fV i2 s2))))
 ·rw [f1] at s1 ⊢;dsimp only at s1;exact call_v (TF (jF (fV (i1 _ rfl) s1)))
end
def mE (m:Mkr):Str×D:=(m.1,hkS (hsM m))
def tE (t:Tkr):Str×D:=(t.1,hkS (hsT t))
def HK (M:List Mkr) (T:List Tkr):List (Str×D):=M.map mE++(T.map tE++[(("copy" : Str),hkS hsC),("drop",hkS hsD)])
theorem o5 {hs:List Hk} (h:V1 hs):D.aN (hs.map hkD)=true:=fZ fun x hx=>by
 obtain ⟨y,hy,rfl⟩:=List.mem_map.mp hx;exact bJ (aP rfl (aP (QF h hy) rfl))
theorem aJl {f:FE} {ρ:List D} {xs:List D} (h:f ρ=.ok (.lst xs)) (hp:D.aN xs=true):bFz f ρ=.ok (.scr xs):=by
 unfold bFz;rw [h,Res.aW];show (if D.aN xs then Res.ok (D.scr xs) else .bad)=_;rw [if_pos hp]
theorem o6 {hs:List Hk} (h:V1 hs):(hkS hs).pure=true:=by
 unfold hkS;rw [D.pure]
 first|exact o5 h|rfl
theorem TJ {ρ:List D} {i:Nat} (l:List Str) (hl:l.length<=300) (hρ:ρ.length=8) (hv:h_ i ρ=.ok (.tup (l.map D.str))):gC 8 (cF (h_ i) false) yC jU (eZ (aC (bC (.bl false)) (aC o_ aU))) false ρ=.ok (.lst ((l.map fh).map hkD)):=by
 rw [List.map_map];refine S6 D.str _ l hρ (fY hv) (by lia) fun s _=>⟨?_,rfl⟩
 match ρ,hρ with
 | [_,_,_,_,_,_,_,_],_=>rfl
theorem t_ {α:Type} [DecidableEq α] (L:List (α×D)) (p:α×D) (ps:List (α×D)):dX L (p::ps)=dX (sZ L p.1 p.2) ps:=rfl
theorem K5 {α:Type} [DecidableEq α] (L ps qs:List (α×D)):dX L (ps++qs)=dX (dX L ps) qs:=List.foldl_append ..
section
variable {k:List Str} {R:D}
abbrev bdM:FS:=aAx 1 cX (bFz (b2 (aX .add) (lE (aC (bPu (eZ (aC (bC (.bl true)) (aC eF aU)))) aU)) (gC 8 (cF eG false) yC jU (eZ (aC (bC (.bl false)) (aC o_ aU))) false)))
abbrev bdT:FS:=aAx 1 iC (bFz (b2 (aX .add) (lE (aC (bPu (eZ (aC (bC (.bl false)) (aC nU aU)))) (aC (bPu (eZ (aC (bC (.bl true)) (aC eF aU)))) aU))) (gC 8 (cF mW false) yC jU (eZ (aC (bC (.bl false)) (aC o_ aU))) false)))
theorem aJm {p u v w:D}:∀(M:List Mkr) (L:List (Str×D)) (x y z:D),(∀m∈M,m.2.2.length<=300)->L.length+M.length<=500->∃x' y' z',o8 (tgN [2,3,4]) bdM (M.map mkD) [p,.dct (dD D.str L),x,y,z,u,v,w]=.ok (.nx [p,.dct (dD D.str (dX L (M.map mE))),x',y',z',u,v,w])
 | [],L,x,y,z,_,_=>⟨x,y,z,rfl⟩
 | m::M,L,x,y,z,hM,hl=>by
  have hm:=hM m (List.mem_cons_self ..);have pl:=m8 m.1 (hkS (hsM m)) L;rw [List.length_cons] at hl;obtain ⟨x',y',z',ih⟩:=aJm (p:=p) (u:=u) (v:=v) (w:=w) M (sZ L m.1 (hkS (hsM m))) (.str m.1) (.str m.2.1) (.tup (m.2.2.map D.str)) (fun m h=>hM m (List.mem_cons_of_mem _ h)) (by lia);refine ⟨x',y',z',?_⟩;rw [List.map_cons,List.map_cons,t_];refine bZ rfl ?_ ih;refine (RQ (d:=hkS (hsM m)) (k:=.str m.1) (kvs:=dD D.str L) ?_ rfl rfl (by rw [KZ,bN];lia) (SX mQ L m.1) (o6 (aKe m))).trans ?_
  ·refine aJl (aM (x:=.lst [hkD (true,.str m.2.1)]) rfl (TJ m.2.2 hm rfl rfl) ?_) (o5 (aKe m));exact mF _ _ (by rw [List.length_map,List.length_map,bN,List.length_cons,List.length_nil];lia) rfl (o5 (aC7 _))
  ·rw [zE mQ];rfl
theorem aJn {p u v:D}:∀(T:List Tkr) (L:List (Str×D)) (a x y z:D),(∀m∈T,m.2.2.2.length<=300)->L.length+T.length<=500->∃a' x' y' z',o8 (tgN [5,3,6,7]) bdT (T.map tkD) [p,.dct (dD D.str L),u,a,v,x,y,z]=.ok (.nx [p,.dct (dD D.str (dX L (T.map tE))),u,a',v,x',y',z'])
 | [],L,a,x,y,z,_,_=>⟨a,x,y,z,rfl⟩
 | m::M,L,a,x,y,z,hM,hl=>by
  have hm:=hM m (List.mem_cons_self ..);have pl:=m8 m.1 (hkS (hsT m)) L;rw [List.length_cons] at hl;obtain ⟨a',x',y',z',ih⟩:=aJn (p:=p) (u:=u) (v:=v) M (sZ L m.1 (hkS (hsT m))) (.str m.2.1) (.str m.1) (.str m.2.2.1) (.tup (m.2.2.2.map D.str)) (fun m h=>hM m (List.mem_cons_of_mem _ h)) (by lia);refine ⟨a',x',y',z',?_⟩;rw [List.map_cons,List.map_cons,t_];refine bZ rfl ?_ ih;refine (RQ (d:=hkS (hsT m)) (k:=.str m.1) (kvs:=dD D.str L) ?_ rfl rfl (by rw [KZ,bN];lia) (SX mQ L m.1) (o6 (aKf m))).trans ?_
  ·refine aJl (aM (x:=.lst [hkD (false,.str m.2.2.1),hkD (true,.str m.2.1)]) rfl (TJ m.2.2.2 hm rfl rfl) ?_) (o5 (aKf m));exact mF _ _ (by rw [List.length_map,List.length_map,bN,List.length_cons,List.length_cons,List.length_nil];lia) rfl (o5 (aC7 _))
  ·rw [zE mQ];rfl
theorem aC8 {M:List Mkr} {T:List Tkr} (hM:∀m∈M,m.2.2.length<=300) (hT:∀t∈T,t.2.2.2.length<=300) (lM:M.length<=200) (lT:T.length<=200):dO 1 dM [b_ k M T R]=.ok (.dct (dD D.str (dX [] (HK M T)))):=by
 obtain ⟨x,y,z,h1⟩:=aJm (p:=b_ k M T R) (u:=.uD) (v:=.uD) (w:=.uD) M [] .uD .uD .uD hM (by simp;lia);have pl:=zF (M.map mE) [];rw [List.length_map,List.length_nil] at pl;obtain ⟨a,b,c,d,h2⟩:=aJn (p:=b_ k M T R) (u:=x) (v:=z) T (dX [] (M.map mE)) y .uD .uD .uD hT (by lia);have pl2:=zF (T.map tE) (dX [] (M.map mE));rw [List.length_map] at pl2;have pl3:=m8 ("copy" : Str) (hkS hsC) (dX (dX [] (M.map mE)) (T.map tE));refine (eQ rfl).trans (call_v ?_);refine aL (iQ rfl rfl) (aL (fV (xs:=M.map mkD) ?_ h1) (aL (fV (xs:=T.map tkD) ?_ h2) (aL (ρ':=[b_ k M T R,.dct (dD D.str (sZ (dX (dX [] (M.map mE)) (T.map tE)) "copy" (hkS hsC))),x,a,z,b,c,d]) ((RQ (d:=hkS hsC) (k:=.str "copy") (kvs:=dD D.str (dX (dX [] (M.map mE)) (T.map tE))) rfl rfl rfl (by rw [KZ,bN];lia) (SX mQ _ _) (o6 aM9)).trans ?_) (aL (ρ':=[b_ k M T R,.dct (dD D.str (sZ (sZ (dX (dX [] (M.map mE)) (T.map tE)) "copy" (hkS hsC)) "drop" (hkS hsD))),x,a,z,b,c,d]) ((RQ (d:=hkS hsD) (k:=.str "drop") (kvs:=dD D.str (sZ (dX (dX [] (M.map mE)) (T.map tE)) "copy" (hkS hsC))) rfl rfl rfl (by rw [KZ,bN];lia) (SX mQ _ _) (o6 aMa)).trans ?_) ?_))))
 ·rw [fY (xs:=M.map mkD) rfl,HH];rfl
 ·rw [fY (xs:=T.map tkD) rfl,HJ];rfl
 ·rw [zE mQ];rfl
 ·rw [zE mQ];rfl
 ·rw [show dX [] (HK M T)=sZ (sZ (dX (dX [] (M.map mE)) (T.map tE)) "copy" (hkS hsC)) "drop" (hkS hsD) from by unfold HK;rw [K5,K5];rfl];rfl
end
abbrev aNk:FS:=Y_ 3 zO (aHs (b2 getD eF zO) (b2 (cV .eq) eG cX))
abbrev aNl:FS:=Y_ 3 fQ (aHs (b2 getD eF fQ) (b2 (cV .eq) mW cX))
theorem aMb {r p b1 b2 b3 u v w o:D} {n:Str}:∀(M:List Mkr) (a:Bool) (x y z:D),∃x' y' z',o8 (tgN [4,5,6]) aNk (M.map mkD) [r,p,.str n,.lst [.bl a,b1,b2,b3],x,y,z,u,v,w,o]=.ok (.nx [r,p,.str n,.lst [.bl (a||M.any fun m=>m.1==n),b1,b2,b3],x',y',z',u,v,w,o])
 | [],a,x,y,z=>⟨x,y,z,by rw [List.any_nil,Bool.or_false];rfl⟩
 | m::M,a,x,y,z=>by
  obtain ⟨x',y',z',ih⟩:=aMb (r:=r) (p:=p) (b1:=b1) (b2:=b2) (b3:=b3) (u:=u) (v:=v) (w:=w) (o:=o) (n:=n) M (a||m.1==n) (.str m.1) (.str m.2.1) (.tup (m.2.2.map D.str));refine ⟨x',y',z',?_⟩;rw [List.any_cons,<-Bool.or_assoc];refine bZ rfl ?_ ih;cases a <;> rfl
theorem aMc {r p b1 b2 b3 u v o:D} {n:Str}:∀(T:List Tkr) (a:Bool) (x y z w:D),∃x' y' z' w',o8 (tgN [7,5,8,9]) aNl (T.map tkD) [r,p,.str n,.lst [b1,.bl a,b2,b3],u,x,v,y,z,w,o]=.ok (.nx [r,p,.str n,.lst [b1,.bl (a||T.any fun m=>m.1==n),b2,b3],u,x',v,y',z',w',o])
 | [],a,x,y,z,w=>⟨x,y,z,w,by rw [List.any_nil,Bool.or_false];rfl⟩
 | m::M,a,x,y,z,w=>by
  obtain ⟨x',y',z',w',ih⟩:=aMc (r:=r) (p:=p) (b1:=b1) (b2:=b2) (b3:=b3) (u:=u) (v:=v) (o:=o) (n:=n) M (a||m.1==n) (.str m.2.1) (.str m.1) (.str m.2.2.1) (.tup (m.2.2.2.map D.str));refine ⟨x',y',z',w',?_⟩;rw [List.any_cons,<-Bool.or_assoc];refine bZ rfl ?_ ih;cases a <;> rfl
inductive V2 (M:List Mkr) (T:List Tkr) (n:Str):Str->Prop
 | m (h1:(M.any fun m=>m.1==n)=true) (h2:(T.any fun m=>m.1==n)=false) (h3:(n == "copy")=false) (h4:(n == "drop")=false):V2 M T n "MakerRole"
 | t (h1:(M.any fun m=>m.1==n)=false) (h2:(T.any fun m=>m.1==n)=true) (h3:(n == "copy")=false) (h4:(n == "drop")=false):V2 M T n "TakerRole"
 | c (h1:(M.any fun m=>m.1==n)=false) (h2:(T.any fun m=>m.1==n)=false) (h3:(n == "copy")=true) (h4:(n == "drop")=false):V2 M T n "CopyRole"
 | d (h1:(M.any fun m=>m.1==n)=false) (h2:(T.any fun m=>m.1==n)=false) (h3:(n == "copy")=false) (h4:(n == "drop")=true):V2 M T n "DropRole"
section
variable {k:List Str} {M:List Mkr} {T:List Tkr} {R:D} {n c:Str} {hs:List Hk}
theorem aC9 (h:V2 M T n c):dO 3 e_ [fO c hs,b_ k M T R,.str n]=.ok (.bl true):=by
 obtain ⟨x,y,z,h1⟩:=aMb (r:=fO c hs) (p:=b_ k M T R) (n:=n) (b1:=.bl false) (b2:=.bl (n == "copy")) (b3:=.bl (n == "drop")) (u:=.uD) (v:=.uD) (w:=.uD) (o:=.uD) M false .uD .uD .uD;obtain ⟨a,b,d,e,h2⟩:=aMc (r:=fO c hs) (p:=b_ k M T R) (n:=n) (b1:=.bl (false||M.any fun m=>m.1==n)) (b2:=.bl (n == "copy")) (b3:=.bl (n == "drop")) (u:=x) (v:=z) (o:=.uD) T false y .uD .uD .uD;refine (eQ rfl).trans (call_v ?_);refine aL (iQ (d:=.lst [.bl false,.bl false,.bl (n == "copy"),.bl (n == "drop")]) rfl rfl) (aL (fV (xs:=M.map mkD) ?_ h1) (aL (fV (xs:=T.map tkD) ?_ h2) ?_))
 ·rw [fY (xs:=M.map mkD) rfl,HH];rfl
 ·rw [fY (xs:=T.map tkD) rfl,HJ];rfl
 ·cases h with
  | m q1 q2 q3 q4=>rw [q1,q2,q3,q4];rfl
  | t q1 q2 q3 q4=>rw [q1,q2,q3,q4];rfl
  | c q1 q2 q3 q4=>rw [q1,q2,q3,q4];rfl
  | d q1 q2 q3 q4=>rw [q1,q2,q3,q4];rfl
theorem V3 (hM:∀m∈M,m.2.2.length<=300) (hT:∀t∈T,t.2.2.2.length<=300) (h:nQ M T n=none):dO 2 d_ [b_ k M T R,.str n]=.ok (.bl true):=by
 have e:=Z_ (k:=k) (R:=R) hM hT n;rw [h] at e;refine (eQ rfl).trans (call_v ?_);refine aL (bO rfl) (aL (ρ':=[b_ k M T R,.str n,.exc "NoName" [("word",n)],.uD]) ?_ ?_)
 ·unfold aLg;show (match dO 2 dB [b_ k M T R,.str n] with|.err c [.exc c' fs]=>_|_=>_)=_;rw [show dO 2 dB [b_ k M T R,.str n]=_ from (eQ rfl).trans e];rfl
 ·refine aL (nA (V0 (V9 rfl) (V0 (V9 rfl) rfl)) rfl) (aL (nA (V0 rfl (V0 rfl rfl)) rfl) (iD (d:=.bl true) ?_ rfl));show (Res.ok (D.bl (n==n)))=_;rw [beq_self_eq_true]
end
noncomputable def tx (cs:List Nat):Str:=⟨cs.toArray⟩
theorem gP (cs:List Nat):(tx cs).length=cs.length:=by
 show cs.toArray.size=_;simp
theorem aJo (a b:List Nat):tx a++tx b=tx (a++b):=by
 show (⟨a.toArray++b.toArray⟩:Str)=⟨(a++b).toArray⟩
 congr 1
 simp
theorem K6 {cs:List Nat} {l u:Option Int} {a b:Nat} (hab:a<=b) (hb:b<=cs.length) (e:Builtin.Str.strSliceIndices l u 1 (tx cs).length=Builtin.Str.strSliceIndices (some (a:Int)) (some (b:Int)) 1 (tx cs).length):Txt.slice (tx cs) l u=tx ((cs.drop a).take (b-a)):=by
 unfold Txt.slice;rw [e];split
 ·rename_i hw;rw [StrLaws.strSliceIndices_plain hab (by rw [gP];exact hb),gP] at hw;have:b-a=cs.length:=by simpa using hw
  have ha:a=0:=by lia
  rw [this,ha,List.drop_zero,List.take_of_length_le (Nat.le_refl _)]
 ·rw [StrLaws.sliced_plain (tx cs) hab (by rw [gP];exact hb)];unfold tx
  congr 1
theorem K7 (cs:List Nat) (a:Nat):Txt.slice (tx cs) none (some (a:Int))=tx (cs.take a):=by
 have e:Builtin.Str.strSliceIndices none (some (a:Int)) 1 (tx cs).length=Builtin.Str.strSliceIndices (some ((0:Nat):Int)) (some ((min a cs.length:Nat):Int)) 1 (tx cs).length:=by
  rw [gP];simp only [Builtin.Str.strSliceIndices];have e0:max (0:Int) (min (if ((0:Nat):Int)<0 then ((0:Nat):Int)+(cs.length:Int) else ((0:Nat):Int)) (cs.length:Int))=0:=by
   rw [if_neg (by lia)];lia
  have e1:max (0:Int) (min (if (a:Int)<0 then (a:Int)+(cs.length:Int) else (a:Int)) (cs.length:Int))=max (0:Int) (min (if ((min a cs.length:Nat):Int)<0 then ((min a cs.length:Nat):Int)+(cs.length:Int) else ((min a cs.length:Nat):Int)) (cs.length:Int)):=by
   rw [if_neg (by lia),if_neg (by lia)];lia
  simp only [show (1:Int) > 0 from by decide,if_true,e0,e1]
 rw [K6 (Nat.zero_le _) (Nat.min_le_right _ _) e,List.drop_zero,Nat.sub_zero];by_cases h:a<=cs.length
 ·rw [Nat.min_eq_left h]
 ·rw [Nat.min_eq_right (by lia),List.take_of_length_le (Nat.le_refl _),List.take_of_length_le (by lia)]
theorem zH {a:FE} {lo hi:List D->Res (Option Int)} {ρ:List D} {x:Str} {l h:Option Int} (h1:a ρ=.ok (.str x)) (h2:lo ρ=.ok l) (h3:hi ρ=.ok h) (hx:x.length<=1000):m_ a lo hi ρ=.ok (.str (Txt.slice x l h)):=by
 unfold m_;rw [h1,Res.aW,h2,Res.aW,h3,Res.aW];show (if decide (x.length<=lim) then Res.ok (D.str (Txt.slice x l h)) else .bad)=_;rw [if_pos (by rw [bN];exact decide_eq_true (by lia))]
theorem aA0 (cs:List Nat):Txt.slice (tx cs) none (some (-1))=tx (cs.take (cs.length-1)):=by
 have e:Builtin.Str.strSliceIndices none (some (-1)) 1 (tx cs).length=Builtin.Str.strSliceIndices (some ((0:Nat):Int)) (some ((cs.length-1:Nat):Int)) 1 (tx cs).length:=by
  rw [gP];simp only [Builtin.Str.strSliceIndices];have e0:max (0:Int) (min (if ((0:Nat):Int)<0 then ((0:Nat):Int)+(cs.length:Int) else ((0:Nat):Int)) (cs.length:Int))=0:=by
   rw [if_neg (by lia)];lia
  have e1:max (0:Int) (min (if (-1:Int)<0 then (-1:Int)+(cs.length:Int) else (-1:Int)) (cs.length:Int))=max (0:Int) (min (if ((cs.length-1:Nat):Int)<0 then ((cs.length-1:Nat):Int)+(cs.length:Int) else ((cs.length-1:Nat):Int)) (cs.length:Int)):=by
   rw [if_pos (by decide),if_neg (by lia)];lia
  simp only [show (1:Int) > 0 from by decide,if_true,e0,e1]
 rw [K6 (Nat.zero_le _) (Nat.sub_le _ _) e,List.drop_zero,Nat.sub_zero]
theorem TQ (x:Str):tx x.cps.toList=x:=rfl
theorem u_ {a:FE} {ρ:List D} {i:Int} (h:a ρ=.ok (.int i)):dC a ρ=.ok (some i):=by
 unfold dC;rw [h];rfl
theorem aJp (x:Str) (a:Nat):∃y:Str,Txt.slice x none (some (a:Int))=y/\y.length<=x.length:=⟨_,rfl,by
 rw [<-TQ x,K7,gP,gP,List.length_take];exact Nat.min_le_right ..⟩
theorem aG6 (x:Str):∃y:Str,Txt.slice x none (some (-1))=y/\y.length<=x.length:=⟨_,rfl,by
 rw [<-TQ x,aA0,gP,gP,List.length_take];exact Nat.min_le_right ..⟩
theorem add_str (x y:Str) (h:x.length+y.length<=1000):aX .add (.str x) (.str y)=.ok (.str (x++y)):=by
 show (if decide (x.length+y.length<=lim) then Res.ok (D.str (x++y)) else .bad)=_;rw [if_pos (by rw [bN];exact decide_eq_true (by lia))]
theorem zJ {α:Type} [DecidableEq α]:∀(ps L:List (α×D)),((L++ps).map (·.1)).Nodup->dX L ps=L++ps
 | [],L,_=>(List.append_nil L).symm
 | p::ps,L,h=>by
  have put:∀(L:List (α×D)),p.1∉L.map (·.1)->sZ L p.1 p.2=L++[p]:=fun L=>by
   induction L with
   | nil=>intro _;rfl
   | cons q L ih=>
    intro hn;rw [List.map_cons,List.mem_cons,not_or] at hn;rw [sZ,if_neg (fun z=>hn.1 z.symm),ih hn.2];rfl
  rw [t_,put L ?_,zJ ps _ (by rw [List.append_assoc];exact h),List.append_assoc]
  ·rfl
  ·rw [List.map_append,List.map_cons] at h;intro z;exact (List.nodup_append.mp h).2.2 _ z _ (List.mem_cons_self ..) rfl
theorem K8 {α:Type} [DecidableEq α] {a:α}:∀{L:List (α×D)},gM L a=none->a∉L.map (·.1)
 | [],_=>by simp
 | p::L,h=>by
  rw [gM] at h;rw [List.map_cons,List.mem_cons,not_or];split at h
  ·cases h
  ·rename_i z;exact ⟨fun y=>z y.symm,K8 h⟩
structure WF (M:List Mkr) (T:List Tkr):Prop where
 nd:(M.map (·.1)++(T.map (·.1)++[("copy" : Str), "drop"])).Nodup
 hM:∀m∈M,m.2.2.length<=300
 hT:∀t∈T,t.2.2.2.length<=300
 lM:M.length<=100
 lT:T.length<=100
section
variable {M:List Mkr} {T:List Tkr}
theorem v_:(HK M T).map (·.1)=M.map (·.1)++(T.map (·.1)++[("copy" : Str), "drop"]):=by
 unfold HK;rw [List.map_append,List.map_append,List.map_map,List.map_map];rfl
theorem aG7 (w:WF M T):dX [] (HK M T)=HK M T:=zJ _ [] (by rw [List.nil_append,v_];exact w.nd)
theorem j9 {α:Type} {f:α->Str} {L:List α} {n:Str} (h:n∉L.map f):(L.any fun m=>f m==n)=false:=by
 rw [List.any_eq_false];intro m hm z;exact h (List.mem_map.mpr ⟨m,hm,eq_of_beq z⟩)
theorem find_none {α:Type} {f:α->Str} {L:List α} {n:Str} (h:n∉L.map f):L.find? (fun m=>f m==n)=none:=by
 rw [List.find?_eq_none];intro m hm z;exact h (List.mem_map.mpr ⟨m,hm,eq_of_beq z⟩)
theorem QG {α:Type} {f:α->Str}:∀{L:List α} {m:α},m∈L->(L.map f).Nodup->L.find? (fun x=>f x==f m)=some m
 | x::L,m,h,nd=>by
  rw [List.map_cons,List.nodup_cons] at nd;rw [List.find?_cons];rcases List.mem_cons.mp h with rfl|h
  ·rw [beq_self_eq_true]
  ·rw [beq_eq_false_iff_ne.mpr fun z=>nd.1 (List.mem_map.mpr ⟨m,h,z.symm⟩)];exact QG h nd.2
theorem TV {α:Type} {f:α->Str} {L:List α} {m:α} (h:m∈L):(L.any fun x=>f x==f m)=true:=List.any_eq_true.mpr ⟨m,h,beq_self_eq_true _⟩
theorem aA1 {n:Str} (h:n∉(HK M T).map (·.1)):nQ M T n=none:=by
 rw [v_,List.mem_append,List.mem_append,not_or,not_or] at h;unfold nQ;rw [find_none h.1];show K4 T n=none;unfold K4;rw [find_none h.2.1];have:=h.2.2;simp only [List.mem_cons,List.not_mem_nil,or_false,not_or] at this;show (if n = "copy" then _ else _)=_;rw [if_neg this.1,if_neg this.2]
theorem K9 (w:WF M T) {n:Str} {v:D} (h:(n,v)∈HK M T):∃c hs,nQ M T n=some (c,hs)/\v=hkS hs/\V2 M T n c/\V1 hs/\hs.length<=400/\rcs.contains c=true:=by
 have nd:=w.nd;rw [List.nodup_append] at nd;obtain ⟨n1,n2,n3⟩:=nd;rw [List.nodup_append] at n2;obtain ⟨n2,_,n4⟩:=n2;have c1:(("copy" : Str))∈[("copy" : Str), "drop"]:=List.mem_cons_self ..;have c2:(("drop" : Str))∈[("copy" : Str), "drop"]:=List.mem_cons_of_mem _ (List.mem_cons_self ..);rcases List.mem_append.mp h with h|h
 ·obtain ⟨m,hm,e⟩:=List.mem_map.mp h;cases e;have im:m.1∈M.map (·.1):=List.mem_map.mpr ⟨m,hm,rfl⟩;have t1:m.1∉T.map (·.1):=fun z=>n3 _ im _ (List.mem_append_left _ z) rfl
  refine ⟨_,_,by unfold nQ;rw [QG (f:=(·.1)) hm n1],rfl,.m (TV (f:=(·.1)) hm) (j9 t1) (beq_eq_false_iff_ne.mpr fun z=>n3 _ im _ (List.mem_append_right _ c1) z) (beq_eq_false_iff_ne.mpr fun z=>n3 _ im _ (List.mem_append_right _ c2) z),aKe m,?_,by decide⟩;have:=w.hM m hm;unfold hsM;rw [List.length_cons,List.length_map];lia
 rcases List.mem_append.mp h with h|h
 ·obtain ⟨m,hm,e⟩:=List.mem_map.mp h;cases e;have im:m.1∈T.map (·.1):=List.mem_map.mpr ⟨m,hm,rfl⟩;have t1:m.1∉M.map (·.1):=fun z=>n3 _ z _ (List.mem_append_left _ im) rfl
  refine ⟨_,_,by unfold nQ K4;rw [find_none t1,QG (f:=(·.1)) hm n2],rfl,.t (j9 t1) (TV (f:=(·.1)) hm) (beq_eq_false_iff_ne.mpr fun z=>n4 _ im _ c1 z) (beq_eq_false_iff_ne.mpr fun z=>n4 _ im _ c2 z),aKf m,?_,by decide⟩;have:=w.hT m hm;unfold hsT;rw [List.length_cons,List.length_cons,List.length_map];lia
 ·simp only [List.mem_cons,List.not_mem_nil,or_false] at h;rcases h with h|h <;> cases h
  ·have t1:("copy" : Str)∉M.map (·.1):=fun z=>n3 _ z _ (List.mem_append_right _ c1) rfl
   have t2:("copy" : Str)∉T.map (·.1):=fun z=>n4 _ z _ c1 rfl
   exact ⟨_,_,by unfold nQ K4;rw [find_none t1,find_none t2];rfl,rfl,.c (j9 t1) (j9 t2) rfl rfl,aM9,by decide,by decide⟩
  ·have t1:("drop" : Str)∉M.map (·.1):=fun z=>n3 _ z _ (List.mem_append_right _ c2) rfl
   have t2:("drop" : Str)∉T.map (·.1):=fun z=>n4 _ z _ c2 rfl
   exact ⟨_,_,by unfold nQ K4;rw [find_none t1,find_none t2];rfl,rfl,.d (j9 t1) (j9 t2) rfl rfl,aMa,by decide,by decide⟩
end
theorem CZ {a:FE} {ρ:List D} {xs:List D} {fr:Bool} (h:a ρ=.ok (.lst xs)):∃kk,cF a fr ρ=.ok (xs,kk)/\(fr=true->kk=true):=by
 refine ⟨fr||(D.lst xs).pure,?_,fun z=>by rw [z];rfl⟩;unfold cF;rw [h];rfl
theorem aG8 {a b:FT} {ρ:List D} {x y:Bool} (h1:a ρ=.ok x) (h2:b ρ=.ok y):aAb a b ρ=.ok (x&&y):=by
 unfold aAb;rw [h1];cases x
 ·rfl
 ·exact h2
theorem aA2 {a:FA} {ρ:List D} {xs:List D} (h:a ρ=.ok xs) (hl:xs.length<=100):lE a ρ=.ok (.lst xs):=by
 unfold lE;rw [h,Res.aW,if_pos (by rw [bN];exact decide_eq_true (by lia))];rfl
theorem QH (L:List (Str×D)):jH (dD D.str L)=(L.map (·.1)).map D.str:=by
 unfold jH dD;rw [List.map_map,List.map_map];rfl
theorem aCa {M:List Mkr} {T:List Tkr}:HK M T≠[]:=by
 unfold HK;simp
theorem TX {L:List (Str×D)} (h:L≠[]):txK (dD D.str L)=true:=by
 unfold txK;rw [Bool.and_eq_true];constructor
 ·cases L with
  | nil=>exact absurd rfl h
  | cons a L=>rfl
 ·rw [List.all_eq_true];intro p hp;obtain ⟨q,_,rfl⟩:=List.mem_map.mp hp;rfl
abbrev bdB:FS:=cG false 4 (b2 (aX .add) eG (lE (aC (m_ iC kJ (dC (b1 aGn fQ))) (aC (b2 (aX .add) (m_ iC kJ (dC aHr)) (bC (.str "x"))) (aC (b2 (aX .add) (m_ iC kJ (dC (b1 aGn fQ))) (bC (.str "q"))) aU))))) true
theorem aJq {c p f nn:D}:∀(K S:List Str) (x:D),(∀n∈K,n.length<=100)->S.length+3*K.length<=10000->∃(S':List Str) (x':D),o8 (tg1 5) bdB (K.map D.str) [c,p,f,nn,.lst (S.map D.str),x]=.ok (.nx [c,p,f,nn,.lst (S'.map D.str),x'])/\S'.length=S.length+3*K.length
 | [],S,x,_,_=>⟨S,x,rfl,rfl⟩
 | n::K,S,x,hn,hl=>by
  obtain ⟨y1,e1,l1⟩:=aG6 n;obtain ⟨y2,e2,l2⟩:=aJp n 7;have ln:=hn n (List.mem_cons_self ..);rw [List.length_cons] at hl;obtain ⟨S',x',h1,h2⟩:=aJq (c:=c) (p:=p) (f:=f) (nn:=nn) K (S++[y1,y2++("x" : Str),y1++("q" : Str)]) (.str n) (fun n h=>hn n (List.mem_cons_of_mem _ h)) (by rw [List.length_append,List.length_cons,List.length_cons,List.length_cons,List.length_nil];lia);refine ⟨S',x',?_,?_⟩
  ·rw [List.map_cons];refine bZ rfl ?_ h1;have s1:m_ iC kJ (dC (b1 aGn fQ)) [c,p,f,nn,.lst (S.map D.str),.str n]=.ok (.str y1):=by
    rw [<-e1];exact zH rfl rfl rfl (by lia)
   have s2:m_ iC kJ (dC aHr) [c,p,f,nn,.lst (S.map D.str),.str n]=.ok (.str y2):=by
    rw [<-e2];exact zH rfl rfl rfl (by lia)
   refine bO (d:=.lst ((S++[y1,y2++("x" : Str),y1++("q" : Str)]).map D.str)) ?_;rw [List.map_append];refine aM (x:=.lst (S.map D.str)) (y:=.lst [.str y1,.str (y2++("x" : Str)),.str (y1++("q" : Str))]) rfl ?_ (mF _ _ ?_ (bB S) rfl)
   ·refine aA2 (xs:=[.str y1,.str (y2++("x" : Str)),.str (y1++("q" : Str))]) (aF s1 (aF (aM s2 rfl (add_str y2 "x" (by have:("x" : Str).length=1:=rfl;lia))) (aF (aM s1 rfl (add_str y1 "q" (by have:("q" : Str).length=1:=rfl;lia))) rfl))) (by simp)
   ·rw [List.length_map,bN,List.length_cons,List.length_cons,List.length_cons,List.length_nil];lia
  ·rw [h2,List.length_append,List.length_cons,List.length_cons,List.length_cons,List.length_nil,List.length_cons];lia
section
variable {M:List Mkr} {T:List Tkr} {ks N:List Str} {R cl:D} {c0:Int}
theorem aA3 (w:WF M T) (hn:∀n∈(HK M T).map (·.1),n.length<=100) (hk:ks.length<=100) (hc:getD cl (.int 0)=.ok (.int c0)) (hcl:h_ 0 [cl]=.ok cl) (hN:dO 2 cP [.int c0,.int 21]=.ok (.lst (N.map D.str))) (lN:N.length=21):∃L:List Str,dO 3 fM [cl,b_ ks M T R,.fdc (dD D.str (HK M T))]=.ok (.lst (L.map D.str))/\∀s∈L,s∉(HK M T).map (·.1):=by
 have lk:((HK M T).map (·.1)).length<=202:=by
  rw [v_,List.length_append,List.length_append,List.length_map,List.length_map,List.length_cons,List.length_cons,List.length_nil];have:=w.lM;have:=w.lT;lia
 obtain ⟨a,ha⟩:∃a,N[12]?=some a:=⟨N[12]'(by lia),List.getElem?_eq_getElem (by lia)⟩
 obtain ⟨b,hb⟩:∃b,N[20]?=some b:=⟨N[20]'(by lia),List.getElem?_eq_getElem (by lia)⟩
 have ga:getD (.lst (N.map D.str)) (.int 12)=.ok (.str a):=getL _ 12 _ (by rw [List.getElem?_map,ha];rfl);have gb:getD (.lst (N.map D.str)) (.int 20)=.ok (.str b):=getL _ 20 _ (by rw [List.getElem?_map,hb];rfl);obtain ⟨S,x,h1,h2⟩:=aJq (c:=cl) (p:=b_ ks M T R) (f:=.fdc (dD D.str (HK M T))) (nn:=.lst (N.map D.str)) ((HK M T).map (·.1)) (ks++[a,b, "cop", "dropp", "copyx"]) .uD hn (by rw [List.length_append,List.length_cons,List.length_cons,List.length_cons,List.length_cons,List.length_cons,List.length_nil];lia);rw [List.length_append,List.length_cons,List.length_cons,List.length_cons,List.length_cons,List.length_cons,List.length_nil] at h2;obtain ⟨kk,hi,_⟩:=CZ (a:=h_ 4) (ρ:=[cl,b_ ks M T R,.fdc (dD D.str (HK M T)),.lst (N.map D.str),.lst (S.map D.str),x]) (xs:=S.map D.str) (fr:=false) rfl;refine ⟨S.filter fun s=>(!(s==("" : Str)))&&!(gM (HK M T) s).isSome,(eQ rfl).trans (call_v ?_),fun s hs=>?_⟩
 ·have v0:∀l,h_ 0 (cl::l)=.ok cl:=fun l=>hcl
  refine aL (ρ':=[cl,b_ ks M T R,.fdc (dD D.str (HK M T)),.lst (N.map D.str),.uD,.uD]) (bO (a_ (aF (aM (v0 _) rfl hc) (aF rfl rfl)) hN)) (aL (ρ':=[cl,b_ ks M T R,.fdc (dD D.str (HK M T)),.lst (N.map D.str),.lst ((ks++[a,b, "cop", "dropp", "copyx"]).map D.str),.uD]) (bO ?_) (aL (fV (xs:=((HK M T).map (·.1)).map D.str) ?_ h1) (iD (Z4 D.str D.str _ S rfl hi (by lia) (fun s _=>?_) fun s _ _=>⟨rfl,rfl⟩) rfl)))
  ·rw [List.map_append];refine aM (x:=.lst (ks.map D.str)) (y:=.lst [.str a,.str b,.str "cop",.str "dropp",.str "copyx"]) (a_ (aF (aM rfl rfl rfl) rfl) ?_) ?_ (mF _ _ ?_ (bB ks) rfl)
   ·show (if D.aN (ks.map D.str) then Res.ok (D.lst (ks.map D.str)) else .bad)=_;rw [bB];rfl
   ·have g1:bPu (b2 getD eF U3) [cl,b_ ks M T R,.fdc (dD D.str (HK M T)),.lst (N.map D.str),.uD,.uD]=.ok (.str a):=by
     unfold bPu;rw [aM rfl rfl ga];rfl
    have g2:bPu (b2 getD eF aEj) [cl,b_ ks M T R,.fdc (dD D.str (HK M T)),.lst (N.map D.str),.uD,.uD]=.ok (.str b):=by
     unfold bPu;rw [aM rfl rfl gb];rfl
    exact aA2 (xs:=[.str a,.str b,.str "cop",.str "dropp",.str "copyx"]) (aF g1 (aF g2 rfl)) (by simp)
   ·rw [List.length_map,bN,List.length_cons,List.length_cons,List.length_cons,List.length_cons,List.length_cons,List.length_nil];lia
  ·unfold aLs;show (if txK (dD D.str (HK M T)) then Res.ok (jH (dD D.str (HK M T)),true) else .bad)=_;rw [TX aCa,QH];rfl
  ·refine aG8 (fU (aM rfl rfl rfl)) (fU (aM rfl rfl ?_));show (if txK (dD D.str (HK M T))&&gR (.str s) then Res.ok (D.bl (!(fC (dD D.str (HK M T)) (.str s)).isSome)) else .bad)=_;rw [TX aCa,HB mQ];rfl
 ·have:=(List.mem_filter.mp hs).2;rw [Bool.and_eq_true] at this;apply K8;have h:=this.2;cases e:gM (HK M T) s with
  | none=>rfl
  | some v=>rw [e] at h;cases h
end
section
variable {M:List Mkr} {T:List Tkr} {ks N:List Str} {R cl s:D} {c0 c8:Int}
abbrev bdN:FS:=(bH (cG false 6 (aY (dO 2 dB) (aC cX (aC iC aU))) true) (bH (sIf (bOr (wO (bTr (aY (dO 3 e_) (aC nU (aC cX (aC iC aU)))))) (wO (bTr (aY (dO 2 bF) (aC nU (aC (b2 getD eF iC) aU)))))) (kO (bC (.bl false)) true) jL) (bH (aFv (lB rcs "gives" mG nU)) (bH (aFv (lB rcs "takes" mH nU)) (sIf (bOr (wO (bTr (aY (dO 2 bF) (aC nU (aC (b2 getD eF iC) aU))))) (wO (bTr (aY (dO 2 bF) (aC (aY (dO 2 dB) (aC cX (aC iC aU))) (aC (b2 getD eF iC) aU)))))) (kO (bC (.bl false)) true) jL)))))
theorem aDl {f:FE} {ρ:List D} {xs:List D} (h:f ρ=.ok (.lst xs)) (hl:xs.length<=1000):aFv f ρ=.ok (.nx ρ):=by
 unfold aFv;rw [h,Res.aW];show (if decide (xs.length<lim) then Res.ok (Fl.nx ρ) else .bad)=_;rw [if_pos (by rw [bN];exact decide_eq_true (by lia))]
theorem aCb {L:List (Str×D)} {n:Str} {v:D} (nd:(L.map (·.1)).Nodup) (h:(n,v)∈L):gM L n=some v:=by
 have:=QC n v L [] nd h;rw [zJ L [] (by rw [List.nil_append];exact nd),List.nil_append] at this;exact this
theorem aA4 {L:List (Str×D)} {a:Str} {v:D} (e:gM L a=some v):getD (.fdc (dD D.str L)) (.str a)=.ok v:=by
 show (if keyOk (.str a) then Res.ofOpt (fC (dD D.str L) (.str a)) else .bad)=_;rw [HB mQ,e];rfl
theorem aA5 (w:WF M T) {n:Str} {v x:D} {nm:D} (h:(n,v)∈HK M T):∃y,bdN [s,cl,b_ ks M T R,.fdc (dD D.str (HK M T)),nm,.str n,x]=.ok (.nx [s,cl,b_ ks M T R,.fdc (dD D.str (HK M T)),nm,.str n,y]):=by
 obtain ⟨c,hs,e,rfl,hc,kd,hl,hr⟩:=K9 w h;have re:dO 2 dB [b_ ks M T R,.str n]=.ok (fO c hs):=(eQ rfl).trans (by rw [Z_ w.hM w.hT,e];rfl);have ce:dO 3 e_ [fO c hs,b_ ks M T R,.str n]=.ok (.bl true):=aC9 hc;have te:dO 2 bF [fO c hs,hkS hs]=.ok (.bl true):=aG4 hr hl kd;have ge:getD (.fdc (dD D.str (HK M T))) (.str n)=.ok (hkS hs):=aA4 (aCb (by rw [v_];exact w.nd) h);have g1:=S8 (hs:=hs) hr (by lia);have g2:=S9 (hs:=hs) hr (by lia);have s1:=jP true hs 0;have s2:=jP false hs 0;have lg:∀(a b:D) (m:Str),m ≠ "giving"->m ≠ "taking"->List.lookup m [(("giving" : Str),a),("taking",b)]=none:=fun a b m h1 h2=>by
  rw [List.lookup_cons,beq_eq_false_iff_ne.mpr h1,List.lookup_cons,beq_eq_false_iff_ne.mpr h2];rfl
 refine ⟨fO c hs,aL (ρ':=[s,cl,b_ ks M T R,.fdc (dD D.str (HK M T)),nm,.str n,fO c hs]) (bO (a_ (aF rfl (aF rfl rfl)) re)) (aL (nA (V0 (V9 (oE (a_ (aF rfl (aF rfl (aF rfl rfl))) ce))) (V9 (oE (a_ (aF rfl (aF (aM rfl rfl ge) rfl)) te)))) rfl) (aL (aDl (aC6 (c:=c) rfl hr (lg _ _ _ (by decide) (by decide)) g1) (by rw [List.length_map];lia)) (aL (aDl (aC6 (c:=c) rfl hr (lg _ _ _ (by decide) (by decide)) g2) (by rw [List.length_map];lia)) (nA (V0 (V9 (oE (a_ (aF rfl (aF (aM rfl rfl ge) rfl)) te))) (V9 (oE (a_ (aF (a_ (aF rfl (aF rfl rfl)) re) (aF (aM rfl rfl ge) rfl)) te)))) rfl))))⟩
theorem aLx (w:WF M T) {nm:D} (K:List Str) (hK:∀n∈K,n∈(HK M T).map (·.1)):∃x y,o8 (tg1 5) bdN (K.map D.str) [s,cl,b_ ks M T R,.fdc (dD D.str (HK M T)),nm,.uD,.uD]=.ok (.nx [s,cl,b_ ks M T R,.fdc (dD D.str (HK M T)),nm,x,y]):=by
 obtain ⟨ρ',h,x,y,rfl⟩:=oY (t:=tg1 5) (body:=bdN) (fun ρ=>∃x y,ρ=[s,cl,b_ ks M T R,.fdc (dD D.str (HK M T)),nm,x,y]) (K.map D.str) [s,cl,b_ ks M T R,.fdc (dD D.str (HK M T)),nm,.uD,.uD] ⟨_,_,rfl⟩ fun z hz ρ ⟨x,y,e⟩=>by
  subst e;obtain ⟨n,hn,rfl⟩:=List.mem_map.mp hz;obtain ⟨⟨n',v⟩,hp,e⟩:=List.mem_map.mp (hK n hn);cases e;obtain ⟨y',h⟩:=aA5 (s:=s) (cl:=cl) (ks:=ks) (R:=R) (x:=y) (nm:=nm) w hp;exact ⟨_,_,rfl,h,_,_,rfl⟩
 exact ⟨x,y,h⟩
theorem aCc (w:WF M T) (hv:s≠.uD) (hcl:h_ 0 [cl]=.ok cl) (hn:∀n∈(HK M T).map (·.1),n.length<=100) (hk:ks.length<=100) (hc:getD cl (.int 0)=.ok (.int c0)) (hc8:getD cl (.int 8)=.ok (.int c8)) (h1:dO 2 gG [s,.int 64]=.ok cl) (h2:dO 1 d9 [cl]=.ok (b_ ks M T R)) (hN:dO 2 cP [.int c0,.int 21]=.ok (.lst (N.map D.str))) (lN:N.length=21):O8 [s]=.ok (.bl true):=by
 have vs:∀l,h_ 0 (s::l)=.ok s:=fun l=>by cases s <;> first|rfl|exact absurd rfl hv
 have v1:∀a l,h_ 1 (a::cl::l)=.ok cl:=fun _ _=>hcl
 have hne:=aG7 w;have h3:dO 1 dM [b_ ks M T R]=.ok (.dct (dD D.str (HK M T))):=by
  rw [<-hne];exact aC8 w.hM w.hT (by have:=w.lM;lia) (by have:=w.lT;lia)
 have lk:((HK M T).map (·.1)).length<=202:=by
  rw [v_,List.length_append,List.length_append,List.length_map,List.length_map,List.length_cons,List.length_cons,List.length_nil];have:=w.lM;have:=w.lT;lia
 have h4:aKc (aY (dO 1 dM) (aC cX aU)) [s,cl,b_ ks M T R,.uD,.uD,.uD,.uD]=.ok (.fdc (dD D.str (HK M T))):=by
  unfold aKc;rw [show aY (dO 1 dM) (aC cX aU) [s,cl,b_ ks M T R,.uD,.uD,.uD,.uD]=_ from a_ (aF rfl rfl) h3,Res.aW];show (if txK (dD D.str (HK M T))&&D.aN ((dD D.str (HK M T)).map (·.2)) then _ else _)=_;have:D.aN ((dD D.str (HK M T)).map (·.2))=true:=fZ fun x hx=>by
   obtain ⟨p,hp,rfl⟩:=List.mem_map.mp hx;obtain ⟨⟨n,v⟩,hq,rfl⟩:=List.mem_map.mp hp;obtain ⟨_,_,_,e,_,kd,_,_⟩:=K9 w hq;show v.pure=true;rw [e];exact o6 kd
  rw [TX aCa,this];rfl
 have h5:aY aBz (aC eF aU) [s,cl,b_ ks M T R,.fdc (dD D.str (HK M T)),.uD,.uD,.uD]=.ok (.lst (((HK M T).map (·.1)).map D.str)):=by
  refine a_ (aF rfl rfl) ?_;show (if txK (dD D.str (HK M T)) then Res.ok (D.lst (jH (dD D.str (HK M T)))) else .bad)=_;rw [TX aCa,QH];rfl
 have h6:∃K:List Str,(∀n∈K,n∈(HK M T).map (·.1))/\sIf (bTB (b2 (cV .eq) (b2 (aX .mod) (b2 getD dN V7) iU) fQ)) (cG false 4 (b1 aKa eG) true) jL [s,cl,b_ ks M T R,.fdc (dD D.str (HK M T)),.lst (((HK M T).map (·.1)).map D.str),.uD,.uD]=.ok (.nx [s,cl,b_ ks M T R,.fdc (dD D.str (HK M T)),.lst (K.map D.str),.uD,.uD]):=by
  have e:bTB (b2 (cV .eq) (b2 (aX .mod) (b2 getD dN V7) iU) fQ) [s,cl,b_ ks M T R,.fdc (dD D.str (HK M T)),.lst (((HK M T).map (·.1)).map D.str),.uD,.uD]=.ok (c8 % 2==1):=fU (aM (aM (aM (v1 _ _) rfl hc8) rfl rfl) rfl rfl);cases hb:(c8 % 2==1) with
  | false=>exact ⟨_,fun n h=>h,nA (e.trans (by rw [hb])) rfl⟩
  | true=>
   refine ⟨((HK M T).map (·.1)).reverse,fun n h=>List.mem_reverse.mp h,MN (e.trans (by rw [hb])) (bO (d:=.lst ((((HK M T).map (·.1)).reverse).map D.str)) (aC5 rfl ?_))⟩;show (if D.aN (((HK M T).map (·.1)).map D.str)&&decide ((((HK M T).map (·.1)).map D.str).length<=lim) then Res.ok (D.lst (((HK M T).map (·.1)).map D.str).reverse) else .bad)=_;rw [bB,Bool.true_and,if_pos (decide_eq_true (by rw [List.length_map,bN];lia)),List.map_reverse]
 obtain ⟨K,hK,h6⟩:=h6;obtain ⟨x,y,h7⟩:=aLx (s:=s) (cl:=cl) (ks:=ks) (R:=R) (nm:=.lst (K.map D.str)) w K hK;obtain ⟨L,h8,hL⟩:=aA3 (R:=R) w hn hk hc hcl hN lN;obtain ⟨kk,h9,hkk⟩:=CZ (a:=aY (dO 3 fM) (aC dN (aC cX (aC eF aU)))) (ρ:=[s,cl,b_ ks M T R,.fdc (dD D.str (HK M T)),.lst (K.map D.str),x,y]) (fr:=true) (a_ (aF (v1 _ _) (aF rfl (aF rfl rfl))) h8);obtain rfl:=hkk rfl;obtain ⟨ρ',h10,_⟩:=oY (t:=tg1 5) (body:=sIf (wO (bTr (aY (dO 2 d_) (aC cX (aC iC aU))))) (kO (bC (.bl false)) true) jL) (fun ρ=>∃x y,ρ=[s,cl,b_ ks M T R,.fdc (dD D.str (HK M T)),.lst (K.map D.str),x,y]) (L.map D.str) _ ⟨x,y,rfl⟩ fun z hz ρ ⟨x,y,e⟩=>by
  subst e;obtain ⟨n,hn,rfl⟩:=List.mem_map.mp hz;exact ⟨_,_,rfl,nA (V9 (oE (a_ (aF rfl (aF rfl rfl)) (V3 w.hM w.hT (aA1 (hL n hn)))))) rfl,_,_,rfl⟩
 refine call_v ?_;exact aL (ρ':=[s,cl,.uD,.uD,.uD,.uD,.uD]) (bO (a_ (aF (vs _) (aF rfl rfl)) h1)) (aL (ρ':=[s,cl,b_ ks M T R,.uD,.uD,.uD,.uD]) (bO (a_ (aF (v1 _ _) rfl) h2)) (aL (bO h4) (aL (bO h5) (aL h6 (aL (yL rfl rfl h7) (aL (fV h9 h10) (iD rfl rfl)))))))
end
theorem zK (a b:Int) (h:iJ b=true):sO (.int a) (.int b)=.ok (.int (a*b)):=by
 show aX .mul (.int a) (.int b)=_;exact aIg a b h
theorem xK (a b:Int) (h:iJ a=true):sO (.int a) (.int b)=.ok (.int (a*b)):=by
 show aX .mul (.int a) (.int b)=_;exact aF1 a b h
theorem fP (a:Int) (h1:-10000000000<=a) (h2:a<=10000000000):iJ a=true:=by
 unfold iJ;rw [Bool.and_eq_true,decide_eq_true_eq,decide_eq_true_eq];lia
theorem aJr (a b:Int):cV (.ord .lt) (.int a) (.int b)=.ok (.bl (decide (a<b))):=rfl
theorem cmp_gt (a b:Int):cV (.ord .gt) (.int a) (.int b)=.ok (.bl (decide (b<a))):=rfl
theorem aG9 (a b:Int):cV .eq (.int a) (.int b)=.ok (.bl (a==b)):=rfl
theorem aGa (ns:List Int) (i:Int) (h0:0<=i) (h1:i<ns.length):∃n,getD (.scr (ns.map D.int)) (.int i)=.ok (.int n):=by
 have hl:i.toNat<ns.length:=by lia
 refine ⟨ns[i.toNat],?_⟩;show Res.ofOpt ((ixD (ns.map D.int).length i).bind fun j=>(ns.map D.int)[j]?)=_;unfold ixD;rw [if_pos h0,List.length_map,if_pos h1];simp [hl]
theorem K_ {a b:List Nat} (h:tx a=tx b):a=b:=by
 unfold tx at h;injection h with h
 have:=congrArg Array.toList h;simpa using this
noncomputable def abc:Str := "abcdefghijklmnopqrstuvwxyz"
theorem aJs:∀i,i<26->abc.cps.toList[i]?=some (97+i):=by decide +kernel
theorem letter (i:Int) (h0:0<=i) (h1:i<26):getD (.str abc) (.int i)=.ok (.str (tx [97+i.toNat])):=by
 have hl:decide (abc.length<=lim)=true:=by decide +kernel
 have h26:abc.cps.toList.length=26:=by decide +kernel
 have hix:ixD abc.cps.toList.length i=some i.toNat:=by
  unfold ixD;rw [if_pos h0,h26,if_pos (by lia)]
 show (if decide (abc.length<=lim) then Res.ofOpt (((ixD abc.cps.toList.length i).bind fun j=>abc.cps.toList[j]?).map fun c=>D.str ⟨#[c]⟩) else .bad)=_;rw [hl,if_pos rfl,hix];simp only [Option.bind_some];rw [aJs _ (by lia)];rfl
theorem aDm {t:D->List D->Res (List D)} {body:FS} (I:Nat->List D->Prop):∀(n j:Nat) (ρ:List D),I j ρ->(∀(k:Nat) (ρ:List D),j<=k->k<j+n->I k ρ->∃ρ1 ρ2,t (.int (0+(k:Int))) ρ=.ok ρ1/\body ρ1=.ok (.nx ρ2)/\I (k+1) ρ2)->∃ρ',o8 t body ((List.range' j n).map fun (k:Nat)=>D.int (0+(k:Int))) ρ=.ok (.nx ρ')/\I (j+n) ρ'
 | 0,j,ρ,h,_=>⟨ρ,rfl,h⟩
 | n+1,j,ρ,h,hb=>by
  obtain ⟨ρ1,ρ2,h1,h2,h3⟩:=hb j ρ (Nat.le_refl _) (by lia) h;obtain ⟨ρ',h4,h5⟩:=aDm I n (j+1) ρ2 h3 fun k ρ a b=>hb k ρ (by lia) (by lia)
  refine ⟨ρ',?_,by rw [show j+(n+1)=j+1+n by lia];exact h5⟩;rw [List.range'_succ,List.map_cons];exact bZ h1 h2 h4
theorem QJ {fa:FA} {t:D->List D->Res (List D)} {body:FS} (I:Nat->List D->Prop) (n:Nat) (hn:n<=1000) {ρ:List D} (h0:fa ρ=.ok [.int (n:Int)]) (h:I 0 ρ) (hb:∀(k:Nat) (ρ:List D),k<n->I k ρ->∃ρ1 ρ2,t (.int (0+(k:Int))) ρ=.ok ρ1/\body ρ1=.ok (.nx ρ2)/\I (k+1) ρ2):∃ρ',zP (jJ fa iV) t body ρ=.ok (.nx ρ')/\I n ρ':=by
 obtain ⟨ρ',h1,h2⟩:=aDm I n 0 ρ h fun k ρ _ b=>hb k ρ (by lia)
 refine ⟨ρ',fV (JQ h0 (by lia) (by lia)) ?_,by rw [Nat.zero_add] at h2;exact h2⟩;rw [Int.toNat_natCast,List.range_eq_range'];exact h1
theorem aCd (ns:List Int) (hn:ns.length<=63):∃cs:List Int,cs.length=64/\dO 2 gG [.scr (ns.map D.int),.int 64]=.ok (.lst (cs.map D.int)):=by
 obtain ⟨ρ',h1,cs,x,hl,rfl⟩:=QJ (fa:=aC dN aU) (t:=tg1 3) (body:=(sIf (bTB (b2 (cV (.ord .lt)) eF (aY iK (aC cO aU)))) (nW 2 (b2 getD cO eF)) (nW 2 (b2 (aX .mod) (b2 (aX .add) (b2 sO (b2 sO eF eF) eF) (b2 sO aHr eF)) (bC (.int 1009)))))) (fun k ρ=>∃(cs:List Int) (x:D),cs.length=k/\ρ=[.scr (ns.map D.int),.int 64,.lst (cs.map D.int),x]) 64 (by lia) (ρ:=[.scr (ns.map D.int),.int 64,.lst [],.uD]) rfl ⟨[],_,rfl,rfl⟩ fun k ρ hk ⟨cs,x,hl,e⟩=>by
  subst e;have fin:∀n:Int,∃ρ2,Res.ok (Fl.nx ([D.scr (ns.map D.int),.int 64,.lst (cs.map D.int),.int (0+(k:Int))].set 2 (.lst (cs.map D.int++[.int n]))))=.ok (.nx ρ2)/\∃(cs:List Int) (x:D),cs.length=k+1/\ρ2=[.scr (ns.map D.int),.int 64,.lst (cs.map D.int),x]:=fun n=>⟨_,rfl,cs++[n],_,by rw [List.length_append,List.length_singleton,hl],by rw [List.map_append];rfl⟩
  have hc:bTB (b2 (cV (.ord .lt)) eF (aY iK (aC cO aU))) [D.scr (ns.map D.int),.int 64,.lst (cs.map D.int),.int (0+(k:Int))]=.ok (decide (0+(k:Int)<(ns.map D.int).length)):=fU (aM rfl (a_ (aF rfl rfl) rfl) rfl);by_cases z:0+(k:Int)<(ns.map D.int).length
  ·obtain ⟨n,hg⟩:=aGa ns (0+(k:Int)) (by lia) (by rw [List.length_map] at z;exact z);obtain ⟨ρ2,e,h⟩:=fin n;exact ⟨_,ρ2,rfl,MN (hc.trans (by rw [decide_eq_true z])) ((nH (xs:=cs.map D.int) (aM rfl rfl hg) rfl (by rw [List.length_map,bN];lia) rfl).trans e),h⟩
  ·obtain ⟨ρ2,e,h⟩:=fin (((0+(k:Int))*(0+(k:Int))*(0+(k:Int))+7*(0+(k:Int))) % 1009);refine ⟨_,ρ2,rfl,nA (hc.trans (by rw [decide_eq_false z])) ((nH (xs:=cs.map D.int) (aM (aM (aM (aM rfl rfl (zK _ _ (fP _ (by lia) (by lia)))) rfl (zK _ _ (fP _ (by lia) (by lia)))) (aM rfl rfl (zK _ _ (fP _ (by lia) (by lia)))) (dU _ _)) rfl (d7 _ _ (by decide))) rfl (by rw [List.length_map,bN];lia) rfl).trans e),h⟩
 exact ⟨cs,hl,(eQ rfl).trans (call_v (aL (iQ rfl rfl) (aL h1 rfl)))⟩
theorem QK (a b:List Nat) (h1:a.length<=100) (h2:b.length<=100):aX .add (.str (tx a)) (.str (tx b))=.ok (.str (tx (a++b))):=by
 rw [aF2 _ _ (by rw [gP,gP,bN];lia),aJo]
theorem aJt (m:Int):∃r:List Nat,r.length=8/\dO 1 m7 [.int m]=.ok (.str (tx r)):=by
 obtain ⟨ρ',h1,r,n,x,hl,rfl⟩:=QJ (fa:=aC V7 aU) (t:=tg1 3) (body:=(bH (cG false 2 (b2 (aX .add) cX (b2 getD dN (b2 (aX .mod) cO DQ))) true) (cG false 0 (b2 (aX .fdiv) cO DQ) true))) (fun k ρ=>∃(r:List Nat) (n:Int) (x:D),r.length=k/\ρ=[.int n,.str abc,.str (tx r),x]) 8 (by lia) (ρ:=[.int m,.str abc,.str (tx []),.uD]) rfl ⟨[],_,_,rfl,rfl⟩ fun k ρ hk ⟨r,n,x,hl,e⟩=>by
  subst e;refine ⟨_,_,rfl,aL (bO (aM rfl (aM rfl (aM rfl rfl (d7 _ _ (by decide))) (letter (n % 26) (by lia) (by lia))) (QK _ _ (by lia) (by simp)))) (bO (aM rfl rfl (dJ _ _ (by decide) (by decide)))),r++[97+(n % 26).toNat],n / 26,_,by rw [List.length_append,List.length_singleton,hl],rfl⟩
 exact ⟨r,hl,(eQ rfl).trans (call_v (aL (bO rfl) (aL (bO rfl) (aL h1 (iD rfl rfl)))))⟩
noncomputable def cd (k:Nat):List Nat:=if k % 2=0 then [99,111,112,121] else [100,114,111,112]
theorem wK (k:Nat):(cd k).length=4:=by unfold cd;split <;> rfl
theorem HN:("copy" : Str)=tx [99,111,112,121]:=by decide +kernel
theorem HQ:("drop" : Str)=tx [100,114,111,112]:=by decide +kernel
theorem aGb:("ssss" : Str)=tx [115,115,115,115]:=by decide +kernel
theorem aLy (k:Nat):getD (.lst [.str "copy",.str "drop"]) (.int ((0+(k:Int)) % 2))=.ok (.str (tx (cd k))):=by
 rw [HN,HQ];unfold cd;rcases Nat.mod_two_eq_zero_or_one k with h|h
 ·rw [if_pos h,show (0+(k:Int)) % 2=0 by lia];rfl
 ·rw [if_neg (by lia),show (0+(k:Int)) % 2=1 by lia];rfl
noncomputable def LC (x:List Nat):List Nat:=if x=[99,111,112,121]\/x=[100,114,111,112] then x++[115,115,115,115] else x
theorem aGc {x y:List Nat} (h:LC x=LC y) (hl:x.length=y.length\/(x.length<8/\y.length<8)):x=y:=by
 unfold LC at h;split at h <;> split at h
 ·exact List.append_cancel_right h
 ·rename_i h1 h2;exfalso;have e:=congrArg List.length h;rw [List.length_append] at e;have:x.length=4:=by rcases h1 with rfl|rfl <;> rfl
  simp only [List.length_cons,List.length_nil] at e;lia
 ·rename_i h1 h2;exfalso;have e:=congrArg List.length h;rw [List.length_append] at e;have:y.length=4:=by rcases h2 with rfl|rfl <;> rfl
  simp only [List.length_cons,List.length_nil] at e;lia
 ·exact h
theorem aGd (x:List Nat):(LC x).length<=x.length+4:=by
 unfold LC;split
 ·rw [List.length_append];exact Nat.le_refl _
 ·lia
theorem aDn (x:List Nat):tx (LC x) ≠ "copy"/\tx (LC x) ≠ "drop":=by
 rw [HN,HQ];unfold LC;split
 ·rename_i h;rcases h with rfl|rfl <;> exact ⟨by decide +kernel,by decide +kernel⟩
 ·rename_i h;rw [not_or] at h;exact ⟨fun e=>h.1 (K_ e),fun e=>h.2 (K_ e)⟩
def aJu:FS:=(bH (cG false 8 (b2 getD cX (b2 (aX .mod) (b2 (aX .add) (b2 (aX .fdiv) cO CK) mW) DQ)) false) (bH (cG false 9 (b2 (aX .add) (b2 (aX .add) (m_ iC kJ (dC eG)) o_) (m_ iC (dC eG) (dC (b2 (aX .sub) eF fQ)))) true) (bH (sIf (bTB (b2 (cV .eq) (b2 (aX .mod) cO zT) fQ)) (cG false 9 (b2 (aX .add) (m_ iC kJ (dC (b2 (aX .fdiv) mW zT))) (b2 getD cX (b2 (aX .mod) (b2 (aX .add) (b2 (aX .fdiv) cO CK) (b2 (aX .mod) mW zT)) DQ))) true) jL) (bH (sIf (bTB (b2 (cV .eq) (b2 (aX .mod) cO zT) iU)) (cG false 9 (b2 (aX .add) (b2 getD (lE (aC (bC (.str "copy")) (aC (bC (.str "drop")) aU))) (b2 (aX .mod) mW iU)) o_) true) jL) (bH (sIf (bTB (b2 (cV .eq) (b2 (aX .mod) cO zT) CN)) (cG false 9 (b2 (aX .add) o_ (b2 getD (lE (aC (bC (.str "copy")) (aC (bC (.str "drop")) aU))) (b2 (aX .mod) mW iU))) true) jL) (bH (sIf (bOr (bTB (b2 (cV .eq) p_ (bC (.str "copy")))) (bTB (b2 (cV .eq) p_ (bC (.str "drop"))))) (cG false 9 (b2 (aX .add) p_ (bC (.str "ssss"))) true) jL) (nW 6 p_)))))))
section
variable {c size at_:Int} {r:List Nat}
def En (c size at_:Int) (r:List Nat) (NM:List D) (a b d:D):List D:=[.int c,.int 21,.str abc,.int size,.int at_,.str (tx r),.lst NM,a,b,d]
theorem HR (NM:List D) (a b:D) (x:List Nat) (hx:x.length<=50) (hN:NM.length<=100):∃d,bH (sIf (bOr (bTB (b2 (cV .eq) p_ (bC (.str "copy")))) (bTB (b2 (cV .eq) p_ (bC (.str "drop"))))) (cG false 9 (b2 (aX .add) p_ (bC (.str "ssss"))) true) jL) (nW 6 p_) (En c size at_ r NM a b (.str (tx x)))=.ok (.nx (En c size at_ r (NM++[.str (tx (LC x))]) a b d)):=by
 refine ⟨.str (tx (LC x)),?_⟩;have h1:bTB (b2 (cV .eq) p_ (bC (.str "copy"))) (En c size at_ r NM a b (.str (tx x)))=.ok (tx x == "copy"):=fU (aM rfl rfl rfl);have h2:bTB (b2 (cV .eq) p_ (bC (.str "drop"))) (En c size at_ r NM a b (.str (tx x)))=.ok (tx x == "drop"):=fU (aM rfl rfl rfl);have fin:∀y:List Nat,nW 6 p_ (En c size at_ r NM a b (.str (tx y)))=.ok (.nx (En c size at_ r (NM++[.str (tx y)]) a b (.str (tx y)))):=fun y=>nH (xs:=NM) rfl rfl (by rw [bN];lia) rfl
 have add:b2 (aX .add) p_ (bC (.str "ssss")) (En c size at_ r NM a b (.str (tx x)))=.ok (.str (tx (x++[115,115,115,115]))):=by
  refine aM rfl rfl ?_;rw [aGb];exact QK _ _ (by lia) (by simp)
 unfold LC;by_cases z:x=[99,111,112,121]
 ·rw [if_pos (.inl z)];exact aL (MN (aM8 (h1.trans (by rw [z,<-HN];rfl))) (bO add)) (fin _)
 ·have n1:(tx x == "copy")=false:=beq_eq_false_iff_ne.mpr fun e=>z (K_ (e.trans HN))
  by_cases z2:x=[100,114,111,112]
  ·rw [if_pos (.inr z2)];exact aL (MN (V0 (h1.trans (by rw [n1])) (h2.trans (by rw [z2,<-HQ];rfl))) (bO add)) (fin _)
  ·rw [if_neg (by rw [not_or];exact ⟨z,z2⟩)];have n2:(tx x == "drop")=false:=beq_eq_false_iff_ne.mpr fun e=>z2 (K_ (e.trans HQ))
   exact aL (nA (V0 (h1.trans (by rw [n1])) (h2.trans (by rw [n2]))) rfl) (fin _)
structure Raw (nm:Nat->List Nat):Prop where
 inj:∀j k,j<21->k<21->nm j=nm k->j=k
 len:∀j k,j<21->k<21->(nm j).length=(nm k).length\/((nm j).length<8/\(nm k).length<8)
 le:∀k,k<21->(nm k).length<=17
theorem aGe {P Q A B:List Nat} (h:P++A++Q=P++B++Q):A=B:=by
 rw [List.append_assoc,List.append_assoc] at h;exact List.append_cancel_right (List.append_cancel_left h)
theorem aCe (hr:r.length=8):∃nm:Nat->List Nat,Raw nm/\∀(k:Nat),k<21->∀(NM:List D) (b d:D),NM.length<=100->∃b' d',aJu (En c size at_ r NM (.int (0+(k:Int))) b d)=.ok (.nx (En c size at_ r (NM++[.str (tx (LC (nm k)))]) (.int (0+(k:Int))) b' d')):=by
 have cm:∀(NM:List D) (a b d:D) (j:Int),bTB (b2 (cV .eq) (b2 (aX .mod) cO zT) (bC (.int j))) (En c size at_ r NM a b d)=.ok (c % 4==j):=fun NM a b d j=>fU (aM (aM rfl rfl (d7 _ _ (by decide))) rfl (aG9 _ _))
 have lt:∀(NM:List D) (a b d:D) (f:FE) (i:Int),f (En c size at_ r NM a b d)=.ok (.int i)->0<=i->i<26->b2 getD cX f (En c size at_ r NM a b d)=.ok (.str (tx [97+i.toNat])):=fun NM a b d f i h2 h3 h4=>aM rfl h2 (letter i h3 h4)
 obtain ⟨P,hP,lP⟩:∃P,Txt.slice (tx r) none (some at_)=tx P/\P.length<=8:=⟨_,(TQ _).symm,Nat.le_trans (Txt.slice_le ..) (by rw [gP];lia)⟩
 obtain ⟨Q,hQ,lQ⟩:∃P,Txt.slice (tx r) (some at_) (some (size-1))=tx P/\P.length<=8:=⟨_,(TQ _).symm,Nat.le_trans (Txt.slice_le ..) (by rw [gP];lia)⟩
 have slP:∀(NM:List D) (a b d:D),m_ iC kJ (dC eG) (En c size at_ r NM a b d)=.ok (.str (tx P)):=fun NM a b d=>by
  rw [<-hP];exact zH rfl rfl (u_ rfl) (by rw [gP];lia)
 have slQ:∀(NM:List D) (a b d:D),m_ iC (dC eG) (dC (b2 (aX .sub) eF fQ)) (En c size at_ r NM a b d)=.ok (.str (tx Q)):=fun NM a b d=>by
  rw [<-hQ];exact zH rfl (u_ rfl) (u_ (aM rfl rfl (aIf _ _))) (by rw [gP];lia)
 have sg:∀k:Nat,∃s:Nat,s=((c / 256+(0+(k:Int))) % 26).toNat:=fun k=>⟨_,rfl⟩
 have h8:∀(k:Nat) (NM:List D) (b d:D),cG false 8 (b2 getD cX (b2 (aX .mod) (b2 (aX .add) (b2 (aX .fdiv) cO CK) mW) DQ)) false (En c size at_ r NM (.int (0+(k:Int))) b d)=.ok (.nx (En c size at_ r NM (.int (0+(k:Int))) (.str (tx [97+((c / 256+(0+(k:Int))) % 26).toNat])) d)):=fun k NM b d=>OJ (lt _ _ _ _ _ _ (aM (aM (aM rfl rfl (dJ _ _ (by decide) (by decide))) rfl (dU _ _)) rfl (d7 _ _ (by decide))) (by lia) (by lia)) rfl
 have h9:∀(NM:List D) (a d:D) (s:Nat),cG false 9 (b2 (aX .add) (b2 (aX .add) (m_ iC kJ (dC eG)) o_) (m_ iC (dC eG) (dC (b2 (aX .sub) eF fQ)))) true (En c size at_ r NM a (.str (tx [s])) d)=.ok (.nx (En c size at_ r NM a (.str (tx [s])) (.str (tx (P++[s]++Q))))):=fun NM a d s=>bO (aM (aM (slP ..) rfl (QK _ _ (by lia) (by simp))) (slQ ..) (QK _ _ (by simp only [List.length_append,List.length_singleton];lia) (by lia)))
 have cds:∀(k:Nat) (NM:List D) (b d:D),b2 getD (lE (aC (bC (.str "copy")) (aC (bC (.str "drop")) aU))) (b2 (aX .mod) mW iU) (En c size at_ r NM (.int (0+(k:Int))) b d)=.ok (.str (tx (cd k))):=fun k NM b d=>aM (x:=.lst [.str "copy",.str "drop"]) rfl (aM rfl rfl (d7 _ _ (by decide))) (aLy k)
 by_cases m1:c % 4=1
 ·refine ⟨fun k=>r.take (k / 4)++[97+((c / 256+(0+(k:Int)) % 4) % 26).toNat],⟨fun j k hj hk e=>?_,fun j k hj hk=>.inr ?_,fun k hk=>?_⟩,fun k hk NM b d hN=>?_⟩
  ·have e1:=congrArg List.length e;simp only [List.length_append,List.length_singleton,List.length_take] at e1;have e2:j / 4=k / 4:=by lia
   rw [show r.take (j / 4)=r.take (k / 4) by rw [e2]] at e;have e3:=List.append_cancel_left e;simp only [List.cons.injEq,and_true] at e3;lia
  ·simp only [List.length_append,List.length_singleton,List.length_take];lia
  ·simp only [List.length_append,List.length_singleton,List.length_take];lia
  ·obtain ⟨d',ht⟩:=HR (c:=c) (size:=size) (at_:=at_) (r:=r) NM (.int (0+(k:Int))) (.str (tx [97+((c / 256+(0+(k:Int))) % 26).toNat])) (r.take (k / 4)++[97+((c / 256+(0+(k:Int)) % 4) % 26).toNat]) (by simp only [List.length_append,List.length_singleton,List.length_take];lia) hN;have sl:m_ iC kJ (dC (b2 (aX .fdiv) mW zT)) (En c size at_ r NM (.int (0+(k:Int))) (.str (tx [97+((c / 256+(0+(k:Int))) % 26).toNat])) (.str (tx (P++[97+((c / 256+(0+(k:Int))) % 26).toNat]++Q))))=.ok (.str (tx (r.take (k / 4)))):=by
    rw [<-K7 r (k / 4)];refine zH rfl rfl (u_ (aM rfl rfl ((dJ _ _ (by decide) (by decide)).trans ?_))) (by rw [gP];lia);rw [show (0+(k:Int)) / 4=((k / 4:Nat):Int) by lia]
   exact ⟨_,d',aL (h8 ..) (aL (h9 ..) (aL (MN ((cm ..).trans (by rw [m1];rfl)) (bO (aM sl (lt _ _ _ _ _ _ (aM (aM (aM rfl rfl (dJ _ _ (by decide) (by decide))) (aM rfl rfl (d7 _ _ (by decide))) (dU _ _)) rfl (d7 _ _ (by decide))) (by lia) (by lia)) (QK _ _ (by rw [List.length_take];lia) (by simp))))) (aL (nA ((cm ..).trans (by rw [m1];rfl)) rfl) (aL (nA ((cm ..).trans (by rw [m1];rfl)) rfl) ht))))⟩
 have f1:(c % 4==1)=false:=beq_eq_false_iff_ne.mpr m1;by_cases m2:c % 4=2
 ·refine ⟨fun k=>cd k++[97+((c / 256+(0+(k:Int))) % 26).toNat],⟨fun j k hj hk e=>?_,fun j k hj hk=>.inr ?_,fun k hk=>?_⟩,fun k hk NM b d hN=>?_⟩
  ·have e3:=(List.append_inj' e rfl).2;simp only [List.cons.injEq,and_true] at e3;lia
  ·simp only [List.length_append,List.length_singleton,wK];lia
  ·simp only [List.length_append,List.length_singleton,wK];lia
  ·obtain ⟨d',ht⟩:=HR (c:=c) (size:=size) (at_:=at_) (r:=r) NM (.int (0+(k:Int))) (.str (tx [97+((c / 256+(0+(k:Int))) % 26).toNat])) (cd k++[97+((c / 256+(0+(k:Int))) % 26).toNat]) (by simp only [List.length_append,List.length_singleton,wK];lia) hN;exact ⟨_,d',aL (h8 ..) (aL (h9 ..) (aL (nA ((cm ..).trans (by rw [f1])) rfl) (aL (MN ((cm ..).trans (by rw [m2];rfl)) (bO (aM (cds ..) rfl (QK _ _ (by rw [wK];lia) (by simp))))) (aL (nA ((cm ..).trans (by rw [m2];rfl)) rfl) ht))))⟩
 have f2:(c % 4==2)=false:=beq_eq_false_iff_ne.mpr m2;by_cases m3:c % 4=3
 ·refine ⟨fun k=>[97+((c / 256+(0+(k:Int))) % 26).toNat]++cd k,⟨fun j k hj hk e=>?_,fun j k hj hk=>.inr ?_,fun k hk=>?_⟩,fun k hk NM b d hN=>?_⟩
  ·have e3:=(List.append_inj e rfl).1;simp only [List.cons.injEq,and_true] at e3;lia
  ·simp only [List.length_append,List.length_singleton,wK];lia
  ·simp only [List.length_append,List.length_singleton,wK];lia
  ·obtain ⟨d',ht⟩:=HR (c:=c) (size:=size) (at_:=at_) (r:=r) NM (.int (0+(k:Int))) (.str (tx [97+((c / 256+(0+(k:Int))) % 26).toNat])) ([97+((c / 256+(0+(k:Int))) % 26).toNat]++cd k) (by simp only [List.length_append,List.length_singleton,wK];lia) hN;exact ⟨_,d',aL (h8 ..) (aL (h9 ..) (aL (nA ((cm ..).trans (by rw [f1])) rfl) (aL (nA ((cm ..).trans (by rw [f2])) rfl) (aL (MN ((cm ..).trans (by rw [m3];rfl)) (bO (aM rfl (cds ..) (QK _ _ (by simp) (by rw [wK];lia))))) ht))))⟩
 have f3:(c % 4==3)=false:=beq_eq_false_iff_ne.mpr m3;refine ⟨fun k=>P++[97+((c / 256+(0+(k:Int))) % 26).toNat]++Q,⟨fun j k hj hk e=>?_,fun j k hj hk=>.inl ?_,fun k hk=>?_⟩,fun k hk NM b d hN=>?_⟩
 ·have e3:=aGe e;simp only [List.cons.injEq,and_true] at e3;lia
 ·simp only [List.length_append,List.length_singleton]
 ·simp only [List.length_append,List.length_singleton];lia
 ·obtain ⟨d',ht⟩:=HR (c:=c) (size:=size) (at_:=at_) (r:=r) NM (.int (0+(k:Int))) (.str (tx [97+((c / 256+(0+(k:Int))) % 26).toNat])) (P++[97+((c / 256+(0+(k:Int))) % 26).toNat]++Q) (by simp only [List.length_append,List.length_singleton];lia) hN;exact ⟨_,d',aL (h8 ..) (aL (h9 ..) (aL (nA ((cm ..).trans (by rw [f1])) rfl) (aL (nA ((cm ..).trans (by rw [f2])) rfl) (aL (nA ((cm ..).trans (by rw [f3])) rfl) ht))))⟩
end
theorem aCf (c:Int):∃N:List Str,N.length=21/\N.Nodup/\(∀s∈N,s ≠ "copy"/\s ≠ "drop"/\s.length<=21)/\dO 2 cP [.int c,.int 21]=.ok (.lst (N.map D.str)):=by
 obtain ⟨r,hr,er⟩:=aJt (c / 256);obtain ⟨nm,hn,hs⟩:=aCe (c:=c) (size:=1+c / 4 % 8) (at_:=c / 32 % (1+c / 4 % 8)) hr;obtain ⟨ρ',h1,a,b,d,rfl⟩:=QJ (fa:=aC dN aU) (t:=tg1 7) (body:=aJu) (fun k ρ=>∃a b d,ρ=En c (1+c / 4 % 8) (c / 32 % (1+c / 4 % 8)) r (((List.range k).map fun k=>tx (LC (nm k))).map D.str) a b d) 21 (by lia) (ρ:=En c (1+c / 4 % 8) (c / 32 % (1+c / 4 % 8)) r [] .uD .uD .uD) rfl ⟨_,_,_,rfl⟩ fun k ρ hk ⟨a,b,d,e⟩=>by
  subst e;obtain ⟨b',d',h⟩:=hs k hk (((List.range k).map fun k=>tx (LC (nm k))).map D.str) b d (by rw [List.length_map,List.length_map,List.length_range];lia);refine ⟨_,_,rfl,h,.int (0+(k:Int)),b',d',?_⟩;rw [List.range_succ,List.map_append,List.map_append];rfl
 refine ⟨(List.range 21).map fun k=>tx (LC (nm k)),by rw [List.length_map,List.length_range],?_,fun s hs=>?_,(eQ rfl).trans (call_v ?_)⟩
 ·refine (List.nodup_iff_pairwise_ne.mp List.nodup_range |>.imp_of_mem (S:=fun j k=>tx (LC (nm j))≠tx (LC (nm k))) fun {j k} hj hk hne e=>?_) |> fun h=>List.nodup_iff_pairwise_ne.mpr (List.pairwise_map.mpr h)
  have hj:=List.mem_range.mp hj;have hk:=List.mem_range.mp hk;exact hne (hn.inj j k hj hk (aGc (K_ e) (hn.len j k hj hk)))
 ·obtain ⟨k,hk,rfl⟩:=List.mem_map.mp hs;have hk:=List.mem_range.mp hk;refine ⟨(aDn _).1,(aDn _).2,?_⟩;rw [gP];have:=aGd (nm k);have:=hn.le k hk;lia
 ·refine aL (bO rfl) (aL (bO (aM rfl (aM (aM rfl rfl (dJ _ _ (by decide) (by decide))) rfl (d7 _ _ (by decide))) (dU _ _))) (aL (bO (aM (aM rfl rfl (dJ _ _ (by decide) (by decide))) rfl (d7 _ _ (by lia)))) (aL (bO (a_ (aF (aM rfl rfl (dJ _ _ (by decide) (by decide))) rfl) er)) (aL (iQ rfl rfl) (aL h1 rfl)))))
theorem oU {α:Type} (e:α->D) (L:List α) (i:Int) (h0:0<=i) (h1:i<L.length):∃a∈L,getD (.lst (L.map e)) (.int i)=.ok (e a):=by
 obtain ⟨j,rfl⟩:∃j:Nat,i=j:=Int.eq_ofNat_of_zero_le h0;have hi:j<L.length:=by lia
 exact ⟨L[j],List.getElem_mem hi,getL _ _ _ (by rw [List.getElem?_map,List.getElem?_eq_getElem hi];rfl)⟩
theorem HS (ks:List Str) (h0:0<ks.length) (hk:ks.length<=100) (many:Nat) (hm:many<=100) (cell:Int):∃l:List Str,l.length=many/\(∀x∈l,x∈ks)/\dO 3 bY [.lst (ks.map D.str),.int many,.int cell]=.ok (.tup (l.map D.str)):=by
 have ln:∀ρ,h_ 0 ρ=.ok (.lst (ks.map D.str))->aY iK (aC cO aU) ρ=.ok (.int (ks.length:Nat)):=fun ρ h=>a_ (aF h rfl) (mU (List.length_map ..))
 obtain ⟨ρ',h1,l,n,x,hl,hi,rfl⟩:=QJ (fa:=aC dN aU) (t:=tg1 4) (body:=(bH (nW 3 (b2 getD cO (b2 (aX .mod) cX (aY iK (aC cO aU))))) (cG false 2 (b2 (aX .fdiv) cX (aY iK (aC cO aU))) true))) (fun k ρ=>∃(l:List Str) (n:Int) (x:D),l.length=k/\(∀x∈l,x∈ks)/\ρ=[.lst (ks.map D.str),.int many,.int n,.lst (l.map D.str),x]) many (by lia) (ρ:=[.lst (ks.map D.str),.int many,.int cell,.lst [],.uD]) rfl ⟨[],_,_,rfl,by simp,rfl⟩ fun k ρ hk ⟨l,n,x,hl,hi,e⟩=>by
  subst e;obtain ⟨s,hs,hg⟩:=oU D.str ks (n % (ks.length:Nat)) (Int.emod_nonneg _ (by lia)) (Int.emod_lt_of_pos _ (by lia));refine ⟨_,[.lst (ks.map D.str),.int many,.int (n / (ks.length:Nat)),.lst ((l++[s]).map D.str),.int (0+(k:Int))],rfl,aL (ρ':=[.lst (ks.map D.str),.int many,.int n,.lst ((l++[s]).map D.str),.int (0+(k:Int))]) ?_ (bO (aM rfl (ln _ rfl) (dJ _ _ (by lia) (by lia)))),l++[s],_,_,by rw [List.length_append,List.length_singleton,hl],fun y hy=>?_,rfl⟩
  ·refine (nH (xs:=l.map D.str) (aM rfl (aM rfl (ln _ rfl) (d7 _ _ (by lia))) hg) rfl (by rw [List.length_map,bN];lia) rfl).trans ?_;rw [List.map_append];rfl
  ·rcases List.mem_append.mp hy with h|h
   ·exact hi y h
   ·rw [List.mem_singleton.mp h];exact hs
 exact ⟨l,hl,hi,(eQ rfl).trans (call_v (aL (iQ rfl rfl) (aL h1 (iD (a_ (aF rfl rfl) rfl) (bJ (bB l))))))⟩
noncomputable abbrev Sm:=Str×List Str
noncomputable def smD (p:Sm):D:=.tup [.str p.1,.tup (p.2.map D.str)]
theorem zL (p:Sm):(smD p).pure=true:=bJ (aP rfl (aP (bJ (bB _)) rfl))
def Good (ks:List Str) (room:Bool) (p:Sm):Prop:=(room=true\/p.2=[])/\p.2.length<=3/\∀x∈p.2,x∈ks
theorem LK (n:Nat):∀l:List Str,D.jT n (l.map D.str)=true
 | []=>rfl
 | x::l=>by
  rw [List.map_cons,D.jT,LK n l,Bool.and_true];cases n <;> rfl
theorem aJv (l:List Str):cV .eq (.tup (l.map D.str)) (.tup [])=.ok (.bl l.isEmpty):=by
 show (if D.jT 11 (l.map D.str)&&true then Res.ok (D.bl (MF (l.map D.str) [])) else .bad)=_;rw [LK];cases l <;> rfl
theorem aNm {a b:FT} {ρ:List D} {x y:Bool} (h1:a ρ=.ok x) (h2:b ρ=.ok y):bOr a b ρ=.ok (x||y):=by
 cases x with
 | true=>exact aM8 h1
 | false=>exact V0 h1 h2
abbrev aMd:FS:=sIf (aAb (bTB (b2 (cV .eq) lO mW)) (bOr (bTB (b2 (cV .eq) wN (eZ aU))) (bTr o_))) (nW 9 (eZ (aC xZ (aC wN aU)))) jL
abbrev aMe:FS:=sIf (aAb (bTB (b2 (cV .eq) lO mW)) (bTr o_)) (nW 9 (eZ (aC zR (aC (b2 aBe (eZ (aC DP aU)) NQ) aU)))) jL
section
variable {ks:List Str} {k:Str} {room:Bool} {m t wd kn cl w s a10 a12 a13 a14 a15 a16 a17 a18:D}
theorem wM:∀(M:List Mkr) (L:List Sm) (x y z:D),(∀m∈M,m.2.2.length<=3/\∀x∈m.2.2,x∈ks)->(∀p∈L,Good ks room p)->L.length+M.length<=900->∃(L':List Sm) (x' y' z':D),o8 (tgN [10,11,12]) aMd (M.map mkD) [m,t,wd,kn,cl,w,s,.str k,.bl room,.lst (L.map smD),x,y,z,a13,a14,a15,a16,a17,a18]=.ok (.nx [m,t,wd,kn,cl,w,s,.str k,.bl room,.lst (L'.map smD),x',y',z',a13,a14,a15,a16,a17,a18])/\(∀p∈L',Good ks room p)/\L'.length<=L.length+M.length/\((L≠[]\/∃m∈M,m.2.1=k/\m.2.2=[])->L'≠[])
 | [],L,x,y,z,_,hL,_=>⟨L,x,y,z,rfl,hL,by simp,fun h=>h.elim id fun ⟨m,h,_⟩=>by cases h⟩
 | q::M,L,x,y,z,hM,hL,hl=>by
  rw [List.length_cons] at hl;have hc:aAb (bTB (b2 (cV .eq) lO mW)) (bOr (bTB (b2 (cV .eq) wN (eZ aU))) (bTr o_)) [m,t,wd,kn,cl,w,s,.str k,.bl room,.lst (L.map smD),.str q.1,.str q.2.1,.tup (q.2.2.map D.str),a13,a14,a15,a16,a17,a18]=.ok ((q.2.1==k)&&(q.2.2.isEmpty||room)):=aG8 (fU (aM rfl rfl rfl)) (aNm (fU (aM rfl rfl (aJv _))) (oE rfl));have hq:=hM q (List.mem_cons_self ..);cases hb:(q.2.1==k)&&(q.2.2.isEmpty||room) with
  | true=>
   rw [Bool.and_eq_true] at hb;obtain ⟨L',x',y',z',h1,h2,h3,h4⟩:=wM M (L++[(q.1,q.2.2)]) (.str q.1) (.str q.2.1) (.tup (q.2.2.map D.str)) (fun m h=>hM m (List.mem_cons_of_mem _ h)) (fun p hp=>by
    rcases List.mem_append.mp hp with h|h
    ·exact hL p h
    ·rw [List.mem_singleton.mp h];refine ⟨?_,hq.1,hq.2⟩;rcases Bool.or_eq_true .. |>.mp hb.2 with h|h
     ·exact .inr (List.isEmpty_iff.mp h)
     ·exact .inl h) (by rw [List.length_append,List.length_singleton];lia)
   rw [List.length_append,List.length_singleton] at h3;refine ⟨L',x',y',z',bZ rfl (MN (hc.trans (by rw [hb.1,hb.2];rfl)) ((nH (xs:=L.map smD) (d:=smD (q.1,q.2.2)) rfl rfl (by rw [List.length_map,bN];lia) (zL _)).trans ?_)) h1,h2,by rw [List.length_cons];lia,fun _=>h4 (.inl (by simp))⟩;rw [List.map_append];rfl
  | false=>
   obtain ⟨L',x',y',z',h1,h2,h3,h4⟩:=wM M L (.str q.1) (.str q.2.1) (.tup (q.2.2.map D.str)) (fun m h=>hM m (List.mem_cons_of_mem _ h)) hL (by lia);refine ⟨L',x',y',z',bZ rfl (nA (hc.trans (by rw [hb])) rfl) h1,h2,by rw [List.length_cons];lia,fun h=>h4 (h.imp id fun ⟨m,hm,e1,e2⟩=>?_)⟩;rcases List.mem_cons.mp hm with rfl|hm
   ·rw [e1,e2,beq_self_eq_true] at hb;cases hb
   ·exact ⟨m,hm,e1,e2⟩
theorem wT:∀(T:List Tkr) (L:List Sm) (b x y z:D),(∀m∈T,m.2.2.2.length<=2/\m.2.2.1∈ks/\∀x∈m.2.2.2,x∈ks)->(∀p∈L,Good ks room p)->L.length+T.length<=900->∃(L':List Sm) (b' x' y' z':D),o8 (tgN [13,11,14,15]) aMe (T.map tkD) [m,t,wd,kn,cl,w,s,.str k,.bl room,.lst (L.map smD),a10,b,a12,x,y,z,a16,a17,a18]=.ok (.nx [m,t,wd,kn,cl,w,s,.str k,.bl room,.lst (L'.map smD),a10,b',a12,x',y',z',a16,a17,a18])/\(∀p∈L',Good ks room p)/\(L≠[]->L'≠[])
 | [],L,b,x,y,z,_,hL,_=>⟨L,b,x,y,z,rfl,hL,id⟩
 | q::M,L,b,x,y,z,hM,hL,hl=>by
  rw [List.length_cons] at hl;have hc:aAb (bTB (b2 (cV .eq) lO mW)) (bTr o_) [m,t,wd,kn,cl,w,s,.str k,.bl room,.lst (L.map smD),a10,.str q.2.1,a12,.str q.1,.str q.2.2.1,.tup (q.2.2.2.map D.str),a16,a17,a18]=.ok ((q.2.1==k)&&room):=aG8 (fU (aM rfl rfl rfl)) (oE rfl);have hq:=hM q (List.mem_cons_self ..);cases hb:(q.2.1==k)&&room with
  | true=>
   rw [Bool.and_eq_true] at hb;obtain ⟨L',b',x',y',z',h1,h2,h4⟩:=wT M (L++[(q.1,q.2.2.1::q.2.2.2)]) (.str q.2.1) (.str q.1) (.str q.2.2.1) (.tup (q.2.2.2.map D.str)) (fun m h=>hM m (List.mem_cons_of_mem _ h)) (fun p hp=>by
    rcases List.mem_append.mp hp with h|h
    ·exact hL p h
    ·rw [List.mem_singleton.mp h];refine ⟨.inl hb.2,by rw [List.length_cons];lia,fun x hx=>?_⟩;rcases List.mem_cons.mp hx with rfl|hx
     ·exact hq.2.1
     ·exact hq.2.2 x hx) (by rw [List.length_append,List.length_singleton];lia)
   have e1:b2 aBe (eZ (aC DP aU)) NQ [m,t,wd,kn,cl,w,s,.str k,.bl room,.lst (L.map smD),a10,.str q.2.1,a12,.str q.1,.str q.2.2.1,.tup (q.2.2.2.map D.str),a16,a17,a18]=.ok (.tup ((q.2.2.1::q.2.2.2).map D.str)):=by
    refine aM (x:=.tup [.str q.2.2.1]) (y:=.tup (q.2.2.2.map D.str)) rfl rfl ?_;show (if decide ([D.str q.2.2.1].length+(q.2.2.2.map D.str).length<=lim) then Res.ok (D.tup ([D.str q.2.2.1]++q.2.2.2.map D.str)) else .bad)=_;rw [if_pos (decide_eq_true (by rw [List.length_map,bN,List.length_singleton];lia))];rfl
   have e2:eZ (aC zR (aC (b2 aBe (eZ (aC DP aU)) NQ) aU)) [m,t,wd,kn,cl,w,s,.str k,.bl room,.lst (L.map smD),a10,.str q.2.1,a12,.str q.1,.str q.2.2.1,.tup (q.2.2.2.map D.str),a16,a17,a18]=.ok (smD (q.1,q.2.2.1::q.2.2.2)):=CP (xs:=[.str q.1,.tup ((q.2.2.1::q.2.2.2).map D.str)]) (aF rfl (aF e1 rfl)) (by rw [bN,List.length_cons,List.length_singleton];lia);have e3:nW 9 (eZ (aC zR (aC (b2 aBe (eZ (aC DP aU)) NQ) aU))) [m,t,wd,kn,cl,w,s,.str k,.bl room,.lst (L.map smD),a10,.str q.2.1,a12,.str q.1,.str q.2.2.1,.tup (q.2.2.2.map D.str),a16,a17,a18]=.ok (.nx [m,t,wd,kn,cl,w,s,.str k,.bl room,.lst ((L++[(q.1,q.2.2.1::q.2.2.2)]).map smD),a10,.str q.2.1,a12,.str q.1,.str q.2.2.1,.tup (q.2.2.2.map D.str),a16,a17,a18]):=by
    rw [nH (xs:=L.map smD) e2 rfl (by rw [List.length_map,bN];lia) (zL _),List.map_append];rfl
   exact ⟨L',b',x',y',z',bZ rfl (MN (hc.trans (by rw [hb.1,hb.2];rfl)) e3) h1,h2,fun _=>h4 (by simp)⟩
  | false=>
   obtain ⟨L',b',x',y',z',h1,h2,h4⟩:=wT M L (.str q.2.1) (.str q.1) (.str q.2.2.1) (.tup (q.2.2.2.map D.str)) (fun m h=>hM m (List.mem_cons_of_mem _ h)) hL (by lia);exact ⟨L',b',x',y',z',bZ rfl (nA (hc.trans (by rw [hb])) rfl) h1,h2,h4⟩
end
theorem aCg {KV:List (Str×D)} (h:∀p∈KV,∃v:Str,p.2=.str v) {a:Str} (ha:a∈KV.map (·.1)):∃v:Str,gM KV a=some (.str v):=by
 induction KV with
 | nil=>cases ha
 | cons p KV ih=>
  rw [gM];by_cases z:p.1=a
  ·rw [if_pos z];obtain ⟨v,e⟩:=h p (List.mem_cons_self ..);exact ⟨v,by rw [e]⟩
  ·rw [if_neg z];rw [List.map_cons,List.mem_cons] at ha;exact ih (fun q hq=>h q (List.mem_cons_of_mem _ hq)) (ha.resolve_left fun y=>z y.symm)
def aGf:FE:=R0 19 3 yC (bTB (b2 (cV .eq) (b2 getD eF JG) mW)) (eZ (aC JG (aC (eZ aU) aU)))
section
variable {k:Str} {room:Bool} {m t wd cl w s a9 a10 a11 a12 a13 a14 a15 a16 a17 a18:D} {KV:List (Str×D)}
theorem aGg (h:∀p∈KV,∃v:Str,p.2=.str v) (hl:KV.length<=100):∃L:List Sm,aGf [m,t,wd,.dct (dD D.str KV),cl,w,s,.str k,.bl room,a9,a10,a11,a12,a13,a14,a15,a16,a17,a18]=.ok (.lst (L.map smD))/\(∀p∈L,p.2=[])/\L.length<=100:=by
 have go:∀(ρ:List D),ρ.length=19->(∀a v:Str,gM KV a=some (.str v)->bTB (b2 (cV .eq) (b2 getD eF JG) mW) (ρ++[.str a])=.ok (v==k))->(∀a:Str,eZ (aC JG (aC (eZ aU) aU)) (ρ++[.str a])=.ok (smD (a,[])))->∀(K:List Str) (acc:List D),(∀a∈K,∃v:Str,gM KV a=some (.str v))->∃L:List Sm,jK (q_ 19 yC (bTB (b2 (cV .eq) (b2 getD eF JG) mW)) (eZ (aC JG (aC (eZ aU) aU))) false ρ) acc (K.map D.str)=.ok (acc++L.map smD)/\(∀p∈L,p.2=[])/\L.length<=K.length:=fun ρ hρ h1 h2 K=>by
  induction K with
  | nil=>exact fun acc _=>⟨[],by rw [List.map_nil,List.map_nil,List.append_nil];rfl,by simp,Nat.le_refl _⟩
  | cons a K ih=>
   intro acc hK;obtain ⟨v,hv⟩:=hK a (List.mem_cons_self ..);rw [List.map_cons,jK,yM hρ (h1 a v hv) fun _=>⟨h2 a,by rw [zL,Bool.or_true]⟩];cases v==k with
   | true=>
    obtain ⟨L,e1,e2,e3⟩:=ih (acc++[smD (a,[])]) fun b hb=>hK b (List.mem_cons_of_mem _ hb)
    refine ⟨(a,[])::L,?_,fun p hp=>?_,by rw [List.length_cons,List.length_cons];lia⟩
    ·show jK _ (acc++[smD (a,[])]) _=_;rw [e1,List.append_assoc];rfl
    ·rcases List.mem_cons.mp hp with rfl|hp
     ·rfl
     ·exact e2 p hp
   | false=>
    obtain ⟨L,e1,e2,e3⟩:=ih acc fun b hb=>hK b (List.mem_cons_of_mem _ hb)
    exact ⟨L,e1,e2,by rw [List.length_cons];lia⟩
 obtain ⟨L,e1,e2,e3⟩:=go (fzD 3 (dD D.str KV) [m,t,wd,.dct (dD D.str KV),cl,w,s,.str k,.bl room,a9,a10,a11,a12,a13,a14,a15,a16,a17,a18]) rfl (fun a v e=>fU (aM (aM rfl rfl (aA4 e)) rfl rfl)) (fun a=>rfl) (KV.map (·.1)) [] fun a ha=>aCg h ha
 rw [List.length_map] at e3;refine ⟨L,?_,e2,by lia⟩;unfold aGf R0;show (if decide ((dD D.str KV).length<=lim)&&((dD D.str KV).all (fun p=>!isTup p.1)&&D.aN ((dD D.str KV).map (·.2))) then _ else _)=_;have p1:(dD D.str KV).all (fun p=>!isTup p.1)=true:=by
  rw [List.all_eq_true];intro p hp;obtain ⟨q,_,rfl⟩:=List.mem_map.mp hp;rfl
 have p2:D.aN ((dD D.str KV).map (·.2))=true:=fZ fun x hx=>by
  obtain ⟨p,hp,rfl⟩:=List.mem_map.mp hx;obtain ⟨q,hq,rfl⟩:=List.mem_map.mp hp;obtain ⟨v,e⟩:=h q hq;show q.2.pure=true;rw [e];rfl
 rw [p1,p2,if_pos (by rw [decide_eq_true (by rw [KZ,bN];lia)];rfl),QH,e1];rfl
theorem LQ {l:List D} (h:D.aN l=true):inner (.lst l)=true:=by
 unfold inner;simp [h]
theorem aCh (L:List Sm):D.aN (L.map smD)=true:=fZ fun x hx=>by
 obtain ⟨p,_,rfl⟩:=List.mem_map.mp hx;exact zL p
theorem aNn (x:D) (xs:List D):cutD (x::xs) (some 1) none=xs:=by
 unfold cutD aAa;dsimp only;rw [if_neg (by decide)];have:(min (1:Int) ((x::xs).length:Int)).toNat=1:=by rw [List.length_cons];lia
 rw [this,List.drop_one,List.tail_cons,List.take_of_length_le (by rw [List.length_cons];lia)]
end
def aJw:FT:=bTB (b2 (cV (.ord .gt)) (aY iK (aC nU aU)) zO)
def aJx:FS:=(bH (cG false 7 (b2 getD nU zO) false) (bH (cG false 6 (m_ nU (dC fQ) kJ) true) (bH (cG false 8 (b2 (cV (.ord .lt)) (b2 (aX .add) (aY iK (aC iC aU)) (aY iK (aC nU aU))) MJ) true) (bH (cG true 9 aGf true) (bH (yD 0 (tgN [10,11,12]) aMd) (bH (yD 1 (tgN [13,11,14,15]) aMe) (bH (cG false 16 (b2 getD eG (b2 (aX .mod) (aY iK (aC iC aU)) (aY iK (aC eG aU)))) false) (bH (aD5 (b2 getD p_ (b2 (aX .mod) XQ (aY iK (aC p_ aU)))) (tgN [17,18])) (bH (nW 5 XR) (cG false 6 (b2 (aX .add) (aY XS (aC (h_ 18) aU)) nU) true))))))))))
structure WW (ks:List Str) (M:List Mkr) (T:List Tkr) (KV:List (Str×D)) (C:List Int):Prop where
 hM:∀m∈M,m.2.2.length<=3/\∀x∈m.2.2,x∈ks
 hT:∀m∈T,m.2.2.2.length<=2/\m.2.2.1∈ks/\∀x∈m.2.2.2,x∈ks
 nul:∀k∈ks,∃m∈M,m.2.1=k/\m.2.2=[]
 lM:M.length<=100
 lT:T.length<=100
 kv:∀p∈KV,∃v:Str,p.2=.str v
 lk:KV.length<=100
 lc:0<C.length
section
variable {ks:List Str} {M:List Mkr} {T:List Tkr} {KV:List (Str×D)} {C:List Int} {wd:D}
theorem aA6 (ww:WW ks M T KV C) (W S:List Str) (k:Str) (hk:k∈ks) (hS:∀x∈S,x∈ks) (hl:W.length+S.length+1<=9) (a7 a8 a9 a10 a11 a12 a13 a14 a15 a16 a17 a18:D):∃(v:Str) (S':List Str) (b7 b8 b9 b10 b11 b12 b13 b14 b15 b16 b17 b18:D),aJx [.lst (M.map mkD),.lst (T.map tkD),wd,.dct (dD D.str KV),.lst (C.map D.int),.lst (W.map D.str),.lst ((k::S).map D.str),a7,a8,a9,a10,a11,a12,a13,a14,a15,a16,a17,a18]=.ok (.nx [.lst (M.map mkD),.lst (T.map tkD),wd,.dct (dD D.str KV),.lst (C.map D.int),.lst ((W++[v]).map D.str),.lst (S'.map D.str),b7,b8,b9,b10,b11,b12,b13,b14,b15,b16,b17,b18])/\(∀x∈S',x∈ks)/\W.length+1+S'.length<=9:=by
 obtain ⟨L0,e0,g0,n0⟩:=aGg (m:=.lst (M.map mkD)) (t:=.lst (T.map tkD)) (wd:=wd) (cl:=.lst (C.map D.int)) (w:=.lst (W.map D.str)) (s:=.lst (S.map D.str)) (k:=k) (room:=decide (((W.length:Nat):Int)+((S.length:Nat):Int)<6)) (a9:=a9) (a10:=a10) (a11:=a11) (a12:=a12) (a13:=a13) (a14:=a14) (a15:=a15) (a16:=a16) (a17:=a17) (a18:=a18) ww.kv ww.lk;have lM:=ww.lM;have lT:=ww.lT;obtain ⟨L1,x1,y1,z1,e1,g1,n1,p1⟩:=wM (ks:=ks) (k:=k) (room:=decide (((W.length:Nat):Int)+((S.length:Nat):Int)<6)) (m:=.lst (M.map mkD)) (t:=.lst (T.map tkD)) (wd:=wd) (kn:=.dct (dD D.str KV)) (cl:=.lst (C.map D.int)) (w:=.lst (W.map D.str)) (s:=.lst (S.map D.str)) (a13:=a13) (a14:=a14) (a15:=a15) (a16:=a16) (a17:=a17) (a18:=a18) M L0 a10 a11 a12 ww.hM (fun p hp=>⟨.inr (g0 p hp),by rw [g0 p hp];simp,by rw [g0 p hp];simp⟩) (by lia);obtain ⟨L2,c2,x2,y2,z2,e2,g2,p2⟩:=wT (ks:=ks) (k:=k) (room:=decide (((W.length:Nat):Int)+((S.length:Nat):Int)<6)) (m:=.lst (M.map mkD)) (t:=.lst (T.map tkD)) (wd:=wd) (kn:=.dct (dD D.str KV)) (cl:=.lst (C.map D.int)) (w:=.lst (W.map D.str)) (s:=.lst (S.map D.str)) (a10:=x1) (a12:=z1) (a16:=a16) (a17:=a17) (a18:=a18) T L1 y1 a13 a14 a15 ww.hT g1 (by lia);have hne:L2≠[]:=p2 (p1 (.inr (ww.nul k hk)));have hpos:0<L2.length:=List.length_pos_iff.mpr hne;have lc:=ww.lc;obtain ⟨c,_,hc⟩:=oU D.int C (((W.length:Nat):Int) % ((C.length:Nat):Int)) (Int.emod_nonneg _ (by lia)) (Int.emod_lt_of_pos _ (by lia));obtain ⟨q,hq,hg⟩:=oU smD L2 (c % ((L2.length:Nat):Int)) (Int.emod_nonneg _ (by lia)) (Int.emod_lt_of_pos _ (by lia));obtain ⟨gr,gl,gi⟩:=g2 q hq
 refine ⟨q.1,q.2++S,.str k,_,_,_,_,_,_,_,_,_,_,_,aL (ρ':=[.lst (M.map mkD),.lst (T.map tkD),wd,.dct (dD D.str KV),.lst (C.map D.int),.lst (W.map D.str),.lst ((k::S).map D.str),.str k,a8,a9,a10,a11,a12,a13,a14,a15,a16,a17,a18]) (OJ (aM (x:=.lst ((k::S).map D.str)) rfl rfl (getL _ 0 (.str k) rfl)) rfl) (aL (ρ':=[.lst (M.map mkD),.lst (T.map tkD),wd,.dct (dD D.str KV),.lst (C.map D.int),.lst (W.map D.str),.lst (S.map D.str),.str k,a8,a9,a10,a11,a12,a13,a14,a15,a16,a17,a18]) (bO ?_) (aL (bO (aM (aM (a_ (aF rfl rfl) (mU (List.length_map ..))) (a_ (aF rfl rfl) (mU (List.length_map ..))) (dU _ _)) rfl (aJr _ _))) (aL (iQ e0 (LQ (aCh L0))) (aL (yL rfl rfl e1) (aL (yL rfl rfl e2) (aL (OJ (aM rfl (aM (a_ (aF rfl rfl) (mU (List.length_map ..))) (a_ (aF rfl rfl) (mU (List.length_map ..))) (d7 _ _ (by lia))) hc) rfl) (aL (ρ':=[.lst (M.map mkD),.lst (T.map tkD),wd,.dct (dD D.str KV),.lst (C.map D.int),.lst (W.map D.str),.lst (S.map D.str),.str k,.bl (decide (((W.length:Nat):Int)+((S.length:Nat):Int)<6)),.lst (L2.map smD),x1,c2,z1,x2,y2,z2,.int c,.str q.1,.tup (q.2.map D.str)]) ?_ (aL (ρ':=[.lst (M.map mkD),.lst (T.map tkD),wd,.dct (dD D.str KV),.lst (C.map D.int),.lst ((W++[q.1]).map D.str),.lst (S.map D.str),.str k,.bl (decide (((W.length:Nat):Int)+((S.length:Nat):Int)<6)),.lst (L2.map smD),x1,c2,z1,x2,y2,z2,.int c,.str q.1,.tup (q.2.map D.str)]) ?_ (bO (d:=.lst ((q.2++S).map D.str)) ?_))))))))),fun x hx=>(List.mem_append.mp hx).elim (gi x) (hS x),?_⟩
 ·unfold m_;show (if D.aN ((k::S).map D.str) then Res.ok (D.lst (cutD ((k::S).map D.str) (some 1) none)) else .bad)=_;rw [bB,List.map_cons,aNn];rfl
 ·unfold aD5;rw [aM (f:=getD) (a:=h_ 9) (b:=b2 (aX .mod) XQ (aY iK (aC p_ aU))) rfl (aM rfl (a_ (aF rfl rfl) (mU (List.length_map ..))) (d7 _ _ (by lia))) hg,Res.aW,if_pos (zL q)];rfl
 ·refine (nH (xs:=W.map D.str) (d:=.str q.1) rfl rfl (by rw [List.length_map,bN];lia) rfl).trans ?_;rw [List.map_append];rfl
 ·rw [show (q.2++S).map D.str=q.2.map D.str++S.map D.str from List.map_append];refine aM (x:=.lst (q.2.map D.str)) (y:=.lst (S.map D.str)) (a_ (aF rfl rfl) ?_) rfl (mF (q.2.map D.str) (S.map D.str) (by rw [List.length_map,List.length_map,bN];lia) (bB _) (bB _));show (if D.aN (q.2.map D.str) then Res.ok (D.lst (q.2.map D.str)) else .bad)=_;rw [bB];rfl
 ·rw [List.length_append];rcases gr with h|h
  ·have:=of_decide_eq_true h;lia
  ·rw [h,List.length_nil];lia
theorem LR (ww:WW ks M T KV C):∀(n:Nat) (W S:List Str) (a7 a8 a9 a10 a11 a12 a13 a14 a15 a16 a17 a18:D),(∀x∈S,x∈ks)->W.length+S.length<=9->10<=n+W.length->∃(W':List Str) (b6 b7 b8 b9 b10 b11 b12 b13 b14 b15 b16 b17 b18:D),aD9 aJw aJx n [.lst (M.map mkD),.lst (T.map tkD),wd,.dct (dD D.str KV),.lst (C.map D.int),.lst (W.map D.str),.lst (S.map D.str),a7,a8,a9,a10,a11,a12,a13,a14,a15,a16,a17,a18]=.ok (.nx [.lst (M.map mkD),.lst (T.map tkD),wd,.dct (dD D.str KV),.lst (C.map D.int),.lst (W'.map D.str),b6,b7,b8,b9,b10,b11,b12,b13,b14,b15,b16,b17,b18])
 | 0,W,S,a7,a8,a9,a10,a11,a12,a13,a14,a15,a16,a17,a18,_,h1,h2=>by lia
 | n+1,W,[],a7,a8,a9,a10,a11,a12,a13,a14,a15,a16,a17,a18,_,h1,h2=>⟨W,_,_,_,_,_,_,_,_,_,_,_,_,_,rfl⟩
 | n+1,W,k::S,a7,a8,a9,a10,a11,a12,a13,a14,a15,a16,a17,a18,hS,h1,h2=>by
  rw [List.length_cons] at h1;obtain ⟨v,S',b7,b8,b9,b10,b11,b12,b13,b14,b15,b16,b17,b18,e,h3,h4⟩:=aA6 (wd:=wd) ww W S k (hS k (List.mem_cons_self ..)) (fun x hx=>hS x (List.mem_cons_of_mem _ hx)) (by lia) a7 a8 a9 a10 a11 a12 a13 a14 a15 a16 a17 a18;obtain ⟨W',c6,c7,c8,c9,c10,c11,c12,c13,c14,c15,c16,c17,c18,e2⟩:=LR ww n (W++[v]) S' b7 b8 b9 b10 b11 b12 b13 b14 b15 b16 b17 b18 h3 (by rw [List.length_append,List.length_singleton];lia) (by rw [List.length_append,List.length_singleton];lia);refine ⟨W',c6,c7,c8,c9,c10,c11,c12,c13,c14,c15,c16,c17,c18,?_⟩;have hc:aJw [.lst (M.map mkD),.lst (T.map tkD),wd,.dct (dD D.str KV),.lst (C.map D.int),.lst (W.map D.str),.lst ((k::S).map D.str),a7,a8,a9,a10,a11,a12,a13,a14,a15,a16,a17,a18]=.ok true:=by
   refine fU (aM (a_ (aF rfl rfl) (mU (n:=S.length+1) (by rw [List.length_map,List.length_cons]))) rfl ((cmp_gt _ _).trans ?_));rw [decide_eq_true (by lia)]
  rw [aD9,hc,Res.aW,if_pos rfl,e,Res.aW];exact e2
theorem aCi (ww:WW ks M T KV C) (k:Str) (hk:k∈ks):∃W:List Str,dO 5 gH [.lst (M.map mkD),.lst (T.map tkD),.str k,.dct (dD D.str KV),.lst (C.map D.int)]=.ok (.tup (W.map D.str)):=by
 obtain ⟨W',b6,b7,b8,b9,b10,b11,b12,b13,b14,b15,b16,b17,b18,e⟩:=LR (wd:=.str k) ww 1000 [] [k] .uD .uD .uD .uD .uD .uD .uD .uD .uD .uD .uD .uD (fun x hx=>by rw [List.mem_singleton.mp hx];exact hk) (by simp) (by simp);exact ⟨W',(eQ rfl).trans (call_v (aL (iQ rfl rfl) (aL (bO rfl) (aL e (iD (a_ (aF rfl rfl) rfl) (bJ (bB _)))))))⟩
end
def aJy (L:List (Str×D)):Prop:=∀p∈L,∃v:Str,p.2=.str v
theorem TY (a v:Str):∀{L:List (Str×D)},aJy L->aJy (sZ L a (.str v))
 | [],_=>fun p hp=>by rw [sZ,List.mem_singleton] at hp;exact ⟨v,by rw [hp]⟩
 | q::L,h=>fun p hp=>by
  rw [sZ] at hp;split at hp
  ·rcases List.mem_cons.mp hp with rfl|hp
   ·exact ⟨v,rfl⟩
   ·exact h p (List.mem_cons_of_mem _ hp)
  ·rcases List.mem_cons.mp hp with rfl|hp
   ·exact h _ (List.mem_cons_self ..)
   ·exact TY a v (fun r hr=>h r (List.mem_cons_of_mem _ hr)) p hp
theorem aDo:∀(ns vs:List Str) (L:List (Str×D)),aJy L->∃L',nJ (ns.map D.str) (vs.map D.str) (dD D.str L)=dD D.str L'/\aJy L'/\L'.length<=L.length+ns.length
 | [],_,L,h=>⟨L,by rw [List.map_nil];rfl,h,by simp⟩
 | n::ns,[],L,h=>⟨L,rfl,h,by lia⟩
 | n::ns,v::vs,L,h=>by
  obtain ⟨L',h1,h2,h3⟩:=aDo ns vs (sZ L n (.str v)) (TY n v h);have:=m8 n (.str v) L;refine ⟨L',?_,h2,by rw [List.length_cons];lia⟩;show nJ (ns.map D.str) (vs.map D.str) (putD (dD D.str L) (.str n) (.str v))=_;rw [zE mQ,h1]
theorem aJz (ns vs:List Str) (hl:vs.length=ns.length) (hn:ns.length<=50):∃L',yV [.lst (ns.map D.str),.tup (vs.map D.str)]=.ok (.dct (dD D.str L'))/\aJy L'/\L'.length<=50:=by
 obtain ⟨L',h1,h2,h3⟩:=aDo ns vs [] (fun p hp=>by cases hp);refine ⟨L',?_,h2,by rw [List.length_nil] at h3;lia⟩;show (if decide ((ns.map D.str).length<=1000)&&decide ((vs.map D.str).length=(ns.map D.str).length)&&(ns.map D.str).all gR&&D.aN (vs.map D.str) then Res.ok (D.dct (nJ (ns.map D.str) (vs.map D.str) [])) else .bad)=_;have e:(ns.map D.str).all gR=true:=by
  rw [List.all_eq_true];intro x hx;obtain ⟨s,_,rfl⟩:=List.mem_map.mp hx;rfl
 rw [e,bB,decide_eq_true (by rw [List.length_map];lia),decide_eq_true (by rw [List.length_map,List.length_map];exact hl),show nJ (ns.map D.str) (vs.map D.str) []=dD D.str L' from h1];rfl
theorem aMf {L:List D} {n:Nat} (h:L.length=n):iK [.tup L]=.ok (.int (n:Int)):=by rw [<-h];rfl
theorem YM (f:Int->D) (cs:List Int) (lo hi:Option Int):cutD (cs.map f) lo hi=(cutD cs lo hi).map f:=by
 unfold cutD;rw [List.length_map,List.map_take,List.map_drop]
theorem aGh (cs:List Int) (a:Int) (h0:0<=a) (h1:a<cs.length):0<(cutD cs (some a) (some (a+9))).length:=by
 unfold cutD aAa;dsimp only;rw [if_neg (by lia),if_neg (by lia),List.length_take,List.length_drop];lia
def aK0:FS:=(bH (cG false 12 (b2 (aX .add) aCw (b2 sO (aY iK (aC eG aU)) aK7)) true) (bH (cG false 13 (b2 (aX .fdiv) (b2 getD eF (b2 (aX .add) wN fQ)) aK7) true) (bH (cG false 14 (gC 17 (jJ (aC (b2 (aX .add) (aY iK (aC lO aU)) (aY iK (aC o_ aU))) aU) iV) yC jU (b2 getD cX (b2 (aX .mod) (b2 (aX .add) zR (b2 sO (b2 (aX .add) fQ (b2 sO MJ (b2 (aX .mod) (b2 (aX .fdiv) zR V7) iU))) XR)) V7)) false) true) (bH (cG false 15 (aY yV (aC DP (aC (b2 aBe lO o_) aU))) true) (bH (cG false 16 (aY (dO 5 gH) (aC cO (aC dN (aC nU (aC NQ (aC (m_ eF (dC wN) (dC (b2 (aX .add) wN aCw))) aU)))))) true) (nW 4 (eZ (aC iC (aC p_ (aC (aY nD (aC DP aU)) (aC XQ aU))))))))))) 
structure WR (ks:List Str) (M:List Mkr) (T:List Tkr):Prop where
 hM:∀m∈M,m.2.2.length<=3/\∀x∈m.2.2,x∈ks
 hT:∀m∈T,m.2.2.2.length<=2/\m.2.2.1∈ks/\m.2.1∈ks/\∀x∈m.2.2.2,x∈ks
 nul:∀k∈ks,∃m∈M,m.2.1=k/\m.2.2=[]
 lM:M.length<=100
 lT:T.length<=3
 cnt:∀k,(M.filter fun m=>m.2.1==k).length<=3
section
variable {ks:List Str} {M:List Mkr} {T:List Tkr} {pool:List Str} {cs:List Int}
def Er (M:List Mkr) (T:List Tkr) (pool:List Str) (cs:List Int) (rs:List D) (t:Tkr) (m:Mkr) (a b c d e:D):List D:=[.lst (M.map mkD),.lst (T.map tkD),.lst (pool.map D.str),.lst (cs.map D.int),.lst rs,.str t.1,.str t.2.1,.str t.2.2.1,.tup (t.2.2.2.map D.str),.str m.1,.str m.2.1,.tup (m.2.2.map D.str),a,b,c,d,e]
theorem aCj (wr:WR ks M T) (hp:pool.length=8) (hc:cs.length=64) (rs:List D) (hr:rs.length<=8) (t:Tkr) (ht:t∈T) (m:Mkr) (hm:m∈M) (a b c d e:D):∃(r a' b' c' d' e':D),aK0 (Er M T pool cs rs t m a b c d e)=.ok (.nx (Er M T pool cs (rs++[r]) t m a' b' c' d' e'))/\r.pure=true:=by
 have l1:=(wr.hM m hm).1;have l2:=(wr.hT t ht).1;obtain ⟨z,_,hz⟩:=oU D.int cs (9+(rs.length:Nat)*5+1) (by lia) (by lia);have ix:∀k:Nat,∃s:Str,getD (.lst (pool.map D.str)) (.int ((z / 5+(1+6*(z / 5 / 8 % 2))*(0+(k:Int))) % 8))=.ok (.str s):=fun k=>by
  obtain ⟨s,_,hs⟩:=oU D.str pool ((z / 5+(1+6*(z / 5 / 8 % 2))*(0+(k:Int))) % 8) (Int.emod_nonneg _ (by decide)) (by rw [hp];exact Int.emod_lt_of_pos _ (by decide));exact ⟨s,hs⟩
 have ⟨f,hf⟩:∃f:Nat->Str,∀k:Nat,getD (.lst (pool.map D.str)) (.int ((z / 5+(1+6*(z / 5 / 8 % 2))*(0+(k:Int))) % 8))=.ok (.str (f k)):=⟨fun k=>(ix k).choose,fun k=>(ix k).choose_spec⟩
 have hn:gC 17 (jJ (aC (b2 (aX .add) (aY iK (aC lO aU)) (aY iK (aC o_ aU))) aU) iV) yC jU (b2 getD cX (b2 (aX .mod) (b2 (aX .add) zR (b2 sO (b2 (aX .add) fQ (b2 sO MJ (b2 (aX .mod) (b2 (aX .fdiv) zR V7) iU))) XR)) V7)) false (Er M T pool cs rs t m (.int (9+(rs.length:Nat)*5)) (.int (z / 5)) c d e)=.ok (.lst (((List.range (m.2.2.length+t.2.2.2.length)).map f).map D.str)):=by
  rw [List.map_map];refine S6 (kk:=true) (fun (k:Nat)=>D.int (0+(k:Int))) _ (List.range (m.2.2.length+t.2.2.2.length)) rfl ?_ (by rw [List.length_range];lia) fun k hk=>⟨?_,rfl⟩
  ·have la:aY iK (aC lO aU) (Er M T pool cs rs t m (.int (9+(rs.length:Nat)*5)) (.int (z / 5)) c d e)=.ok (.int (m.2.2.length:Nat)):=a_ (xs:=[.tup (m.2.2.map D.str)]) (aF rfl rfl) (aMf (List.length_map ..));have lb:aY iK (aC o_ aU) (Er M T pool cs rs t m (.int (9+(rs.length:Nat)*5)) (.int (z / 5)) c d e)=.ok (.int (t.2.2.2.length:Nat)):=a_ (xs:=[.tup (t.2.2.2.map D.str)]) (aF rfl rfl) (aMf (List.length_map ..));have ln:aC (b2 (aX .add) (aY iK (aC lO aU)) (aY iK (aC o_ aU))) aU (Er M T pool cs rs t m (.int (9+(rs.length:Nat)*5)) (.int (z / 5)) c d e)=.ok [.int ((m.2.2.length+t.2.2.2.length:Nat):Int)]:=by
    rw [Int.natCast_add];exact aF (aM la lb (dU _ _)) rfl
   have:=JQ ln (by lia) (by lia);rw [Int.toNat_natCast] at this;exact this
  ·have hk:=List.mem_range.mp hk;exact aM rfl (aM (aM rfl (aM (aM rfl (aM rfl (aM (aM rfl rfl (dJ _ _ (by decide) (by decide))) rfl (d7 _ _ (by decide))) (xK _ _ (fP _ (by lia) (by lia)))) (dU _ _)) rfl (zK _ _ (fP _ (by lia) (by lia)))) (dU _ _)) rfl (d7 _ _ (by decide))) (hf k)
 obtain ⟨KV,h1,h2,h3⟩:=aJz ((List.range (m.2.2.length+t.2.2.2.length)).map f) (m.2.2++t.2.2.2) (by rw [List.length_append,List.length_map,List.length_range]) (by rw [List.length_map,List.length_range];lia);obtain ⟨W,hW⟩:=aCi (ks:=ks) (M:=M) (T:=T) (KV:=KV) (C:=cutD cs (some (9+(rs.length:Nat)*5)) (some (9+(rs.length:Nat)*5+9))) ⟨wr.hM,fun m hm=>⟨(wr.hT m hm).1,(wr.hT m hm).2.1,(wr.hT m hm).2.2.2⟩,wr.nul,wr.lM,by have:=wr.lT;lia,h2,by lia,aGh _ _ (by lia) (by lia)⟩ t.2.1 (wr.hT t ht).2.2.1;refine ⟨.tup [.str t.1,.str m.1,.tup (((List.range (m.2.2.length+t.2.2.2.length)).map f).map D.str),.tup (W.map D.str)],.int (9+(rs.length:Nat)*5),.int (z / 5),.lst (((List.range (m.2.2.length+t.2.2.2.length)).map f).map D.str),.dct (dD D.str KV),.tup (W.map D.str),?_,bJ (aP rfl (aP rfl (aP (bJ (bB _)) (aP (bJ (bB _)) rfl))))⟩;refine aL (ρ':=Er M T pool cs rs t m (.int (9+(rs.length:Nat)*5)) b c d e) (bO (aM rfl (aM (a_ (aF rfl rfl) rfl) rfl (zK _ _ (fP _ (by lia) (by lia)))) (dU _ _))) (aL (ρ':=Er M T pool cs rs t m (.int (9+(rs.length:Nat)*5)) (.int (z / 5)) c d e) (bO (aM (aM rfl (aM rfl rfl (dU _ _)) hz) rfl (dJ _ _ (by decide) (by decide)))) (aL (ρ':=Er M T pool cs rs t m (.int (9+(rs.length:Nat)*5)) (.int (z / 5)) (.lst (((List.range (m.2.2.length+t.2.2.2.length)).map f).map D.str)) d e) (bO hn) (aL (ρ':=Er M T pool cs rs t m (.int (9+(rs.length:Nat)*5)) (.int (z / 5)) (.lst (((List.range (m.2.2.length+t.2.2.2.length)).map f).map D.str)) (.dct (dD D.str KV)) e) (bO (a_ (aF rfl (aF (aM (x:=.tup (m.2.2.map D.str)) (y:=.tup (t.2.2.2.map D.str)) (z:=.tup ((m.2.2++t.2.2.2).map D.str)) rfl rfl ?_) rfl)) h1)) (aL (ρ':=Er M T pool cs rs t m (.int (9+(rs.length:Nat)*5)) (.int (z / 5)) (.lst (((List.range (m.2.2.length+t.2.2.2.length)).map f).map D.str)) (.dct (dD D.str KV)) (.tup (W.map D.str))) (bO (a_ (aF rfl (aF rfl (aF rfl (aF rfl (aF ?_ rfl))))) hW)) (nH (xs:=rs) (CP (xs:=[.str t.1,.str m.1,.tup (((List.range (m.2.2.length+t.2.2.2.length)).map f).map D.str),.tup (W.map D.str)]) (aF rfl (aF rfl (aF (a_ (aF rfl rfl) rfl) (aF rfl rfl)))) (by rw [bN];simp)) rfl (by rw [bN];lia) (bJ (aP rfl (aP rfl (aP (bJ (bB _)) (aP (bJ (bB _)) rfl))))))))))
 ·show (if decide ((m.2.2.map D.str).length+(t.2.2.2.map D.str).length<=lim) then Res.ok (D.tup (m.2.2.map D.str++t.2.2.2.map D.str)) else .bad)=_;rw [if_pos (decide_eq_true (by rw [List.length_map,List.length_map,bN];lia)),List.map_append]
 ·rw [<-YM];unfold m_;show (if D.aN (cs.map D.int) then Res.ok (D.lst (cutD (cs.map D.int) (some (9+(rs.length:Nat)*5)) (some (9+(rs.length:Nat)*5+9)))) else .bad)=_;rw [if_pos (fZ fun x hx=>by obtain ⟨i,_,rfl⟩:=List.mem_map.mp hx;rfl)]
end
abbrev aK1:FS:=sIf (bTB (b2 (cV .eq) xZ mW)) aK0 jL
theorem l_ {a b:List D} (h1:D.aN a=true) (h2:D.aN b=true):D.aN (a++b)=true:=by
 induction a with
 | nil=>exact h2
 | cons x a ih=>
  rw [D.aN,Bool.and_eq_true] at h1;exact aP h1.1 (ih h1.2)
section
variable {ks:List Str} {M:List Mkr} {T:List Tkr} {pool:List Str} {cs:List Int}
theorem oF (wr:WR ks M T) (hp:pool.length=8) (hc:cs.length=64) (t:Tkr) (ht:t∈T):∀(M':List Mkr) (rs:List D) (x9 x10 x11 a b c d e:D),(∀m∈M',m∈M)->rs.length+(M'.filter fun m=>m.2.1==t.2.2.1).length<=9->D.aN rs=true->∃(rs':List D) (y9 y10 y11 a' b' c' d' e':D),o8 (tgN [9,10,11]) aK1 (M'.map mkD) [.lst (M.map mkD),.lst (T.map tkD),.lst (pool.map D.str),.lst (cs.map D.int),.lst rs,.str t.1,.str t.2.1,.str t.2.2.1,.tup (t.2.2.2.map D.str),x9,x10,x11,a,b,c,d,e]=.ok (.nx [.lst (M.map mkD),.lst (T.map tkD),.lst (pool.map D.str),.lst (cs.map D.int),.lst rs',.str t.1,.str t.2.1,.str t.2.2.1,.tup (t.2.2.2.map D.str),y9,y10,y11,a',b',c',d',e'])/\D.aN rs'=true/\rs'.length=rs.length+(M'.filter fun m=>m.2.1==t.2.2.1).length
 | [],rs,x9,x10,x11,a,b,c,d,e,_,_,h=>⟨rs,x9,x10,x11,a,b,c,d,e,rfl,h,rfl⟩
 | m::M',rs,x9,x10,x11,a,b,c,d,e,hM,hl,h=>by
  rw [List.filter_cons] at hl ⊢;have hcn:bTB (b2 (cV .eq) xZ mW) (Er M T pool cs rs t m a b c d e)=.ok (m.2.1==t.2.2.1):=fU (aM rfl rfl rfl);cases hb:m.2.1==t.2.2.1 with
  | true=>
   rw [hb,if_pos rfl,List.length_cons] at hl;rw [if_pos rfl,List.length_cons];obtain ⟨r,a1,b1,c1,d1,e1,h1,h2⟩:=aCj (pool:=pool) wr hp hc rs (by lia) t ht m (hM m (List.mem_cons_self ..)) a b c d e;obtain ⟨rs',y9,y10,y11,a',b',c',d',e',h3,h4,h5⟩:=oF wr hp hc t ht M' (rs++[r]) (.str m.1) (.str m.2.1) (.tup (m.2.2.map D.str)) a1 b1 c1 d1 e1 (fun m h=>hM m (List.mem_cons_of_mem _ h)) (by rw [List.length_append,List.length_singleton];lia) (l_ h (aP h2 rfl));rw [List.length_append,List.length_singleton] at h5;exact ⟨rs',y9,y10,y11,a',b',c',d',e',bZ (ρ1:=Er M T pool cs rs t m a b c d e) rfl (MN (hcn.trans (by rw [hb])) h1) h3,h4,by lia⟩
  | false=>
   rw [hb,if_neg (by decide)] at hl;rw [if_neg (by decide)];obtain ⟨rs',y9,y10,y11,a',b',c',d',e',h3,h4,h5⟩:=oF wr hp hc t ht M' rs (.str m.1) (.str m.2.1) (.tup (m.2.2.map D.str)) a b c d e (fun m h=>hM m (List.mem_cons_of_mem _ h)) hl h;exact ⟨rs',y9,y10,y11,a',b',c',d',e',bZ (ρ1:=Er M T pool cs rs t m a b c d e) rfl (nA (hcn.trans (by rw [hb])) rfl) h3,h4,h5⟩
theorem zM (wr:WR ks M T) (hp:pool.length=8) (hc:cs.length=64):∀(T':List Tkr) (rs:List D) (x5 x6 x7 x8 x9 x10 x11 a b c d e:D),(∀t∈T',t∈T)->rs.length+3*T'.length<=9->D.aN rs=true->∃(rs':List D) (y5 y6 y7 y8 y9 y10 y11 a' b' c' d' e':D),o8 (tgN [5,6,7,8]) (yD 0 (tgN [9,10,11]) aK1) (T'.map tkD) [.lst (M.map mkD),.lst (T.map tkD),.lst (pool.map D.str),.lst (cs.map D.int),.lst rs,x5,x6,x7,x8,x9,x10,x11,a,b,c,d,e]=.ok (.nx [.lst (M.map mkD),.lst (T.map tkD),.lst (pool.map D.str),.lst (cs.map D.int),.lst rs',y5,y6,y7,y8,y9,y10,y11,a',b',c',d',e'])/\D.aN rs'=true
 | [],rs,x5,x6,x7,x8,x9,x10,x11,a,b,c,d,e,_,_,h=>⟨rs,x5,x6,x7,x8,x9,x10,x11,a,b,c,d,e,rfl,h⟩
 | t::T',rs,x5,x6,x7,x8,x9,x10,x11,a,b,c,d,e,hT,hl,h=>by
  rw [List.length_cons] at hl;have hn:=wr.cnt t.2.2.1;obtain ⟨rs1,y9,y10,y11,a1,b1,c1,d1,e1,h1,h2,h3⟩:=oF (pool:=pool) wr hp hc t (hT t (List.mem_cons_self ..)) M rs x9 x10 x11 a b c d e (fun _ h=>h) (by lia) h;obtain ⟨rs',z5,z6,z7,z8,z9,z10,z11,a',b',c',d',e',h4,h5⟩:=zM wr hp hc T' rs1 (.str t.1) (.str t.2.1) (.str t.2.2.1) (.tup (t.2.2.2.map D.str)) y9 y10 y11 a1 b1 c1 d1 e1 (fun m h=>hT m (List.mem_cons_of_mem _ h)) (by lia) h2;exact ⟨rs',z5,z6,z7,z8,z9,z10,z11,a',b',c',d',e',bZ rfl (yL rfl rfl h1) h4,h5⟩
theorem aCk (wr:WR ks M T) (hp:pool.length=8) (hc:cs.length=64):∃rs:List D,dO 4 jC [.lst (M.map mkD),.lst (T.map tkD),.lst (pool.map D.str),.lst (cs.map D.int)]=.ok (.lst rs)/\D.aN rs=true:=by
 have lT:=wr.lT;obtain ⟨rs,y5,y6,y7,y8,y9,y10,y11,a',b',c',d',e',h1,h2⟩:=zM (pool:=pool) wr hp hc T [] .uD .uD .uD .uD .uD .uD .uD .uD .uD .uD .uD .uD (fun _ h=>h) (by rw [List.length_nil];lia) rfl;exact ⟨rs,(eQ rfl).trans (call_v (aL (iQ rfl rfl) (aL (yL rfl rfl h1) rfl))),h2⟩
end
noncomputable def nI (N:List Str) (i:Nat):Str:=N.getD i ""
theorem aDp {N:List Str} (hd:N.Nodup) {i j:Nat} (hi:i<N.length) (hj:j<N.length) (h:nI N i=nI N j):i=j:=by
 unfold nI at h;rw [List.getD_eq_getElem?_getD,List.getD_eq_getElem?_getD,List.getElem?_eq_getElem hi,List.getElem?_eq_getElem hj] at h;have h:N[i]=N[j]:=h;have p:=List.pairwise_iff_getElem.mp (List.nodup_iff_pairwise_ne.mp hd);rcases Nat.lt_trichotomy i j with z|z|z
 ·exact absurd h (p i j hi hj z)
 ·exact z
 ·exact absurd h.symm (p j i hj hi z)
theorem o7 {α:Type} (e:α->D) (d:α) (N:List α) (i:Int) (n:Nat) (h:i=n) (hn:n<N.length):getD (.lst (N.map e)) (.int i)=.ok (e (N.getD n d)):=by
 subst h;exact getL _ n _ (by rw [List.getElem?_map,List.getElem?_eq_getElem hn,List.getD_eq_getElem?_getD,List.getElem?_eq_getElem hn];rfl)
noncomputable def cntK (M:List Mkr) (k:Str):Nat:=(M.filter fun m=>m.2.1==k).length
theorem HW (M:List Mkr) (m:Mkr) (k:Str):cntK (M++[m]) k=cntK M k+if m.2.1=k then 1 else 0:=by
 unfold cntK;rw [List.filter_append,List.length_append,List.filter_cons,List.filter_nil];by_cases h:m.2.1=k
 ·rw [if_pos h,h,beq_self_eq_true];rfl
 ·rw [if_neg h,beq_eq_false_iff_ne.mpr h];rfl
def Ix (N:List Str) (M:List Mkr) (b:Nat):Prop:=∃I:List Nat,M.map (·.1)=I.map (nI N)/\I.Pairwise (·<·)/\∀i∈I,i<b
theorem Ix.add {N:List Str} {M:List Mkr} {b b':Nat} (h:Ix N M b) (hb:b<=b') (m:Mkr) (hm:m.1=nI N b'):Ix N (M++[m]) (b'+1):=by
 obtain ⟨I,h1,h2,h3⟩:=h;refine ⟨I++[b'],by rw [List.map_append,List.map_append,h1,List.map_singleton,List.map_singleton,hm],?_,fun i hi=>?_⟩
 ·refine List.pairwise_append.mpr ⟨h2,List.pairwise_singleton ..,fun i hi j hj=>?_⟩;rw [List.mem_singleton.mp hj];have:=h3 i hi;lia
 ·rcases List.mem_append.mp hi with hi|hi
  ·have:=h3 i hi;lia
  ·rw [List.mem_singleton.mp hi];lia
structure PMo (N K:List Str) (k:Nat) (M:List Mkr):Prop where
 ix:Ix N M (3+3*k)
 hM:∀m∈M,m.2.2.length<=3/\∀x∈m.2.2,x∈K
 nul:∀j,j<k->∃m∈M,m.2.1=nI N j/\m.2.2=[]
 cnt:∀s,cntK M s<=3
 zero:∀m∈M,∃j,j<k/\m.2.1=nI N j
 lM:M.length<=3*k
structure PMi (N K:List Str) (k j:Nat) (M:List Mkr):Prop where
 ix:Ix N M (4+3*k+j)
 hM:∀m∈M,m.2.2.length<=3/\∀x∈m.2.2,x∈K
 nul:∀j,j<k+1->∃m∈M,m.2.1=nI N j/\m.2.2=[]
 cnt:∀s,s≠nI N k->cntK M s<=3
 cn0:cntK M (nI N k)<=1+j
 zero:∀m∈M,∃j,j<k+1/\m.2.1=nI N j
 lM:M.length<=3*k+1+j
section
variable {N K:List Str} {M:List Mkr} {k j:Nat}
theorem aCl (hN:N.length=21) (hd:N.Nodup) (hk:k<2) (h:PMo N K k M):PMi N K k 0 (M++[(nI N (3+3*k),nI N k,[])]) where
 ix:=by
  have:=h.ix.add (Nat.le_refl _) (nI N (3+3*k),nI N k,[]) rfl;rw [show 4+3*k+0=3+3*k+1 by lia];exact this
 hM m hm:=by
  rcases List.mem_append.mp hm with hm|hm
  ·exact h.hM m hm
  ·rw [List.mem_singleton.mp hm];exact ⟨by simp,by simp⟩
 nul i hi:=by
  by_cases z:i<k
  ·obtain ⟨m,hm,e⟩:=h.nul i z;exact ⟨m,List.mem_append_left _ hm,e⟩
  ·obtain rfl:i=k:=by lia
   exact ⟨_,List.mem_append_right _ (List.mem_singleton_self _),rfl,rfl⟩
 cnt s hs:=by
  rw [HW,if_neg (fun e=>hs e.symm)];exact h.cnt s
 cn0:=by
  rw [HW,if_pos rfl];have:cntK M (nI N k)=0:=by
   unfold cntK;rw [List.length_eq_zero_iff,List.filter_eq_nil_iff];intro m hm e;obtain ⟨i,hi,e2⟩:=h.zero m hm;have:=aDp hd (by lia) (by lia) (e2.symm.trans (eq_of_beq e));lia
  lia
 zero m hm:=by
  rcases List.mem_append.mp hm with hm|hm
  ·obtain ⟨i,hi,e⟩:=h.zero m hm;exact ⟨i,by lia,e⟩
  ·rw [List.mem_singleton.mp hm];exact ⟨k,by lia,rfl⟩
 lM:=by
  rw [List.length_append,List.length_singleton];have:=h.lM;lia
theorem aGi (h:PMi N K k j M) (l:List Str) (hl:l.length<=3) (hK:∀x∈l,x∈K):PMi N K k (j+1) (M++[(nI N (4+3*k+j),nI N k,l)]) where
 ix:=h.ix.add (Nat.le_refl _) (nI N (4+3*k+j),nI N k,l) rfl
 hM m hm:=by
  rcases List.mem_append.mp hm with hm|hm
  ·exact h.hM m hm
  ·rw [List.mem_singleton.mp hm];exact ⟨hl,hK⟩
 nul i hi:=by
  obtain ⟨m,hm,e⟩:=h.nul i hi;exact ⟨m,List.mem_append_left _ hm,e⟩
 cnt s hs:=by
  rw [HW,if_neg (fun e=>hs e.symm)];exact h.cnt s hs
 cn0:=by
  rw [HW,if_pos rfl];have:=h.cn0;lia
 zero m hm:=by
  rcases List.mem_append.mp hm with hm|hm
  ·exact h.zero m hm
  ·rw [List.mem_singleton.mp hm];exact ⟨k,by lia,rfl⟩
 lM:=by
  rw [List.length_append,List.length_singleton];have:=h.lM;lia
theorem aK2 (h:PMi N K k j M) (hj:j<=2):PMo N K (k+1) M where
 ix:=by
  obtain ⟨I,h1,h2,h3⟩:=h.ix;exact ⟨I,h1,h2,fun i hi=>by have:=h3 i hi;lia⟩
 hM:=h.hM
 nul:=h.nul
 cnt s:=by
  by_cases z:s=nI N k
  ·rw [z];have:=h.cn0;lia
  ·exact h.cnt s z
 zero:=h.zero
 lM:=by have:=h.lM;lia
def aDq:FS:=(bH (cG false 6 (b2 (aX .add) fQ (b2 (aX .mod) (b2 (aX .fdiv) (b2 getD cO (b2 (aX .add) iU eG)) (b2 (aX .add) iU (b2 sO zT iC))) CN)) true) (bH (cG false 7 (aY (dO 3 bY) (aC cX (aC nU (aC (b2 (aX .fdiv) (b2 getD cO (b2 (aX .add) zT eG)) (b2 (aX .add) fQ iC)) aU)))) true) (nW 3 (eZ (aC (b2 getD dN (b2 (aX .add) (b2 (aX .add) zT (b2 sO CN eG)) iC)) (aC (b2 getD cX eG) (aC mW aU)))))))
def aK3:FS:=(bH (nW 3 (eZ (aC (b2 getD dN (b2 (aX .add) CN (b2 sO CN eG))) (aC (b2 getD cX eG) (aC (eZ aU) aU))))) (zP (jJ (aC (b2 (aX .add) fQ (b2 (aX .mod) (b2 getD cO (b2 (aX .add) iU eG)) iU)) aU) iV) (tg1 5) aDq))
def Em (cs:List Int) (N K:List Str) (M:List Mkr) (a b c d:D):List D:=[.lst (cs.map D.int),.lst (N.map D.str),.lst (K.map D.str),.lst (M.map mkD),a,b,c,d,.uD,.uD,.uD,.uD,.uD]
theorem aCm (m:Mkr):(mkD m).pure=true:=bJ (aP rfl (aP rfl (aP (bJ (bB _)) rfl)))
theorem aDr {cs:List Int} {a b c d:D} {f:FE} (m:Mkr) (hM:M.length<=100) (h:f (Em cs N K M a b c d)=.ok (mkD m)):nW 3 f (Em cs N K M a b c d)=.ok (.nx (Em cs N K (M++[m]) a b c d)):=by
 refine (nH (xs:=M.map mkD) h rfl (by rw [List.length_map,bN];lia) (aCm m)).trans ?_;unfold Em;rw [List.map_append];rfl
theorem V4 {cs:List Int} (hc:cs.length=64) (hN:N.length=21) (hd:N.Nodup) (hk:k<2) (hK:K.length<=2) (hkK:k<K.length) (hKk:K.getD k "" = nI N k) (h:PMo N K k M) (b c d:D):∃(M':List Mkr) (b' c' d':D),aK3 (Em cs N K M (.int (0+(k:Int))) b c d)=.ok (.nx (Em cs N K M' (.int (0+(k:Int))) b' c' d'))/\PMo N K (k+1) M':=by
 have g2:∀(M:List Mkr) (b c d:D),b2 getD cX eG (Em cs N K M (.int (0+(k:Int))) b c d)=.ok (.str (nI N k)):=fun M b c d=>aM rfl rfl (by rw [<-hKk];exact o7 D.str "" K _ k (by lia) hkK)
 have gc:∀(z:Int) (n:Nat) (hz:z+(0+(k:Int))=n) (hn:n<64) (M:List Mkr) (b c d:D),b2 getD cO (b2 (aX .add) (bC (.int z)) eG) (Em cs N K M (.int (0+(k:Int))) b c d)=.ok (.int (cs.getD n 0)):=fun z n hz hn M b c d=>aM rfl (aM rfl rfl (dU _ _)) (o7 D.int 0 cs _ n hz (by lia))
 have lM:=h.lM;have p0:=aCl hN hd hk h;have e0:nW 3 (eZ (aC (b2 getD dN (b2 (aX .add) CN (b2 sO CN eG))) (aC (b2 getD cX eG) (aC (eZ aU) aU)))) (Em cs N K M (.int (0+(k:Int))) b c d)=.ok (.nx (Em cs N K (M++[(nI N (3+3*k),nI N k,[])]) (.int (0+(k:Int))) b c d)):=by
  refine aDr _ (by lia) (CP (xs:=[.str (nI N (3+3*k)),.str (nI N k),.tup []]) (aF (aM rfl (aM rfl (aM rfl rfl (xK _ _ (fP _ (by lia) (by lia)))) (dU _ _)) (o7 D.str "" N _ (3+3*k) (by lia) (by lia))) (aF (g2 ..) (aF rfl rfl))) (by rw [bN];simp))
 obtain ⟨ρ',h1,M',b',c',d',hp,rfl⟩:=QJ (fa:=aC (b2 (aX .add) fQ (b2 (aX .mod) (b2 getD cO (b2 (aX .add) iU eG)) iU)) aU) (t:=tg1 5) (body:=aDq) (fun j ρ=>∃(M':List Mkr) (b c d:D),PMi N K k j M'/\ρ=Em cs N K M' (.int (0+(k:Int))) b c d) (1+cs.getD (2+k) 0 % 2).toNat (by lia) (ρ:=Em cs N K (M++[(nI N (3+3*k),nI N k,[])]) (.int (0+(k:Int))) b c d) (by
   rw [show (((1+cs.getD (2+k) 0 % 2).toNat:Nat):Int)=1+cs.getD (2+k) 0 % 2 by lia];exact aF (aM rfl (aM (gc 2 (2+k) (by lia) (by lia) _ _ _ _) rfl (d7 _ _ (by decide))) (dU _ _)) rfl) ⟨_,_,_,_,p0,rfl⟩ fun j ρ hj ⟨M1,b,c,d,hp,e⟩=>by
  subst e;have hj2:j<2:=by lia
  obtain ⟨l,hl,hi,hdr⟩:=HS K (by lia) (by lia) (1+cs.getD (2+k) 0 / (2+4*(0+(j:Int))) % 3).toNat (by lia) (cs.getD (4+k) 0 / (1+(0+(j:Int))));rw [show (((1+cs.getD (2+k) 0 / (2+4*(0+(j:Int))) % 3).toNat:Nat):Int)=1+cs.getD (2+k) 0 / (2+4*(0+(j:Int))) % 3 by lia] at hdr;have lM1:=hp.lM;refine ⟨_,Em cs N K (M1++[(nI N (4+3*k+j),nI N k,l)]) (.int (0+(k:Int))) (.int (0+(j:Int))) (.int (1+cs.getD (2+k) 0 / (2+4*(0+(j:Int))) % 3)) (.tup (l.map D.str)),rfl,aL (ρ':=Em cs N K M1 (.int (0+(k:Int))) (.int (0+(j:Int))) (.int (1+cs.getD (2+k) 0 / (2+4*(0+(j:Int))) % 3)) d) (bO (aM rfl (aM (aM (gc 2 (2+k) (by lia) (by lia) _ _ _ _) (aM rfl (aM rfl rfl (xK _ _ (fP _ (by lia) (by lia)))) (dU _ _)) (dJ _ _ (by lia) (by lia))) rfl (d7 _ _ (by decide))) (dU _ _))) (aL (ρ':=Em cs N K M1 (.int (0+(k:Int))) (.int (0+(j:Int))) (.int (1+cs.getD (2+k) 0 / (2+4*(0+(j:Int))) % 3)) (.tup (l.map D.str))) (bO (a_ (aF rfl (aF rfl (aF (aM (gc 4 (4+k) (by lia) (by lia) _ _ _ _) (aM rfl rfl (dU _ _)) (dJ _ _ (by lia) (by lia))) rfl))) hdr)) (aDr _ (by lia) (CP (xs:=[.str (nI N (4+3*k+j)),.str (nI N k),.tup (l.map D.str)]) (aF (aM rfl (aM (aM rfl (aM rfl rfl (xK _ _ (fP _ (by lia) (by lia)))) (dU _ _)) rfl (dU _ _)) (o7 D.str "" N _ (4+3*k+j) (by lia) (by lia))) (aF (g2 ..) (aF rfl rfl))) (by rw [bN];simp)))),_,_,_,_,aGi hp l (by lia) hi,rfl⟩
 exact ⟨M',b',c',d',aL e0 h1,aK2 hp (by lia)⟩
end
def aK4:FS:=(bH (aD5 (aY (dO 3 bY) (aC cX (aC iU (aC (b2 getD cO (b2 (aX .add) MJ eG)) aU)))) (tgN [9,10])) (bH (cG false 11 (aY (dO 3 bY) (aC cX (aC (b2 (aX .mod) (b2 (aX .fdiv) (b2 getD cO (b2 (aX .add) MJ eG)) zT) CN) (aC (b2 (aX .fdiv) (b2 getD cO (b2 (aX .add) MJ eG)) U3) aU)))) true) (nW 8 (eZ (aC (b2 getD dN (b2 (aX .add) aCw eG)) (aC p_ (aC xZ (aC lO aU))))))))
section
variable {N K:List Str} {M:List Mkr} {cs:List Int} {x5 x6 x7:D}
def Et (cs:List Int) (N K:List Str) (M:List Mkr) (T:List Tkr) (x5 x6 x7 a b c d:D):List D:=[.lst (cs.map D.int),.lst (N.map D.str),.lst (K.map D.str),.lst (M.map mkD),a,x5,x6,x7,.lst (T.map tkD),b,c,d,.uD]
structure PT (N K:List Str) (k:Nat) (T:List Tkr):Prop where
 nm:T.map (·.1)=(List.range k).map fun i=>nI N (9+i)
 hT:∀t∈T,t.2.2.2.length<=2/\t.2.2.1∈K/\t.2.1∈K/\∀x∈t.2.2.2,x∈K
theorem PT.len {k:Nat} {T:List Tkr} (h:PT N K k T):T.length=k:=by
 have:=congrArg List.length h.nm;rw [List.length_map,List.length_map,List.length_range] at this;exact this
theorem aCn (m:Tkr):(tkD m).pure=true:=bJ (aP rfl (aP rfl (aP rfl (aP (bJ (bB _)) rfl))))
theorem V5 (hc:cs.length=64) (hN:N.length=21) (hK0:0<K.length) (hK:K.length<=2) {k:Nat} (hk:k<3) {T:List Tkr} (h:PT N K k T) (b c d:D):∃(T':List Tkr) (b' c' d':D),aK4 (Et cs N K M T x5 x6 x7 (.int (0+(k:Int))) b c d)=.ok (.nx (Et cs N K M T' x5 x6 x7 (.int (0+(k:Int))) b' c' d'))/\PT N K (k+1) T':=by
 have lT:=h.len;have gc:∀(T:List Tkr) (b c d:D),b2 getD cO (b2 (aX .add) MJ eG) (Et cs N K M T x5 x6 x7 (.int (0+(k:Int))) b c d)=.ok (.int (cs.getD (6+k) 0)):=fun T b c d=>aM rfl (aM rfl rfl (dU _ _)) (o7 D.int 0 cs _ (6+k) (by lia) (by lia))
 obtain ⟨l,hl,hi,hdr⟩:=HS K hK0 (by lia) 2 (by lia) (cs.getD (6+k) 0);obtain ⟨u,v,rfl⟩:∃u v,l=[u,v]:=by
  match l,hl with
  | [u,v],_=>exact ⟨u,v,rfl⟩
 obtain ⟨l2,hl2,hi2,hdr2⟩:=HS K hK0 (by lia) (cs.getD (6+k) 0 / 4 % 3).toNat (by lia) (cs.getD (6+k) 0 / 12);rw [show (((cs.getD (6+k) 0 / 4 % 3).toNat:Nat):Int)=cs.getD (6+k) 0 / 4 % 3 by lia] at hdr2;have e1:aD5 (aY (dO 3 bY) (aC cX (aC iU (aC (b2 getD cO (b2 (aX .add) MJ eG)) aU)))) (tgN [9,10]) (Et cs N K M T x5 x6 x7 (.int (0+(k:Int))) b c d)=.ok (.nx (Et cs N K M T x5 x6 x7 (.int (0+(k:Int))) (.str u) (.str v) d)):=by
  unfold aD5;rw [show aY (dO 3 bY) (aC cX (aC iU (aC (b2 getD cO (b2 (aX .add) MJ eG)) aU))) (Et cs N K M T x5 x6 x7 (.int (0+(k:Int))) b c d)=_ from a_ (aF rfl (aF rfl (aF (gc ..) rfl))) hdr,Res.aW,if_pos (bJ (bB [u,v]))];rfl
 have e3:eZ (aC (b2 getD dN (b2 (aX .add) aCw eG)) (aC p_ (aC xZ (aC lO aU)))) (Et cs N K M T x5 x6 x7 (.int (0+(k:Int))) (.str u) (.str v) (.tup (l2.map D.str)))=.ok (tkD (nI N (9+k),u,v,l2)):=CP (xs:=[.str (nI N (9+k)),.str u,.str v,.tup (l2.map D.str)]) (aF (aM rfl (aM rfl rfl (dU _ _)) (o7 D.str "" N _ (9+k) (by lia) (by lia))) (aF rfl (aF rfl (aF rfl rfl)))) (by rw [bN];simp);have e4:nW 8 (eZ (aC (b2 getD dN (b2 (aX .add) aCw eG)) (aC p_ (aC xZ (aC lO aU))))) (Et cs N K M T x5 x6 x7 (.int (0+(k:Int))) (.str u) (.str v) (.tup (l2.map D.str)))=.ok (.nx (Et cs N K M (T++[(nI N (9+k),u,v,l2)]) x5 x6 x7 (.int (0+(k:Int))) (.str u) (.str v) (.tup (l2.map D.str)))):=by
  refine (nH (xs:=T.map tkD) e3 rfl (by rw [List.length_map,bN];lia) (aCn _)).trans ?_;unfold Et;rw [List.map_append];rfl
 refine ⟨T++[(nI N (9+k),u,v,l2)],.str u,.str v,.tup (l2.map D.str),aL e1 (aL (bO (a_ (aF rfl (aF (aM (aM (gc ..) rfl (dJ _ _ (by decide) (by decide))) rfl (d7 _ _ (by decide))) (aF (aM (gc ..) rfl (dJ _ _ (by decide) (by decide))) rfl))) hdr2)) e4),?_,fun t ht=>?_⟩
 ·rw [List.map_append,h.nm,List.range_succ,List.map_append];rfl
 ·rcases List.mem_append.mp ht with ht|ht
  ·exact h.hT t ht
  ·rw [List.mem_singleton.mp ht];exact ⟨by show l2.length<=2;lia,hi v (by simp),hi u (by simp),hi2⟩
end
theorem aDs (N:List Str) (a b:Nat) (hab:a<=b) (hb:b<=N.length) (z:Int) (hz:z=b) (y:Int) (hy:y=a):cutD (N.map D.str) (some y) (some z)=((N.drop a).take (b-a)).map D.str:=by
 subst hz;subst hy;unfold cutD aAa;dsimp only;rw [if_neg (by lia),if_neg (by lia),List.length_map,show (min (b:Int) (N.length:Int)).toNat=b by lia,show (min (a:Int) (N.length:Int)).toNat=a by lia,List.map_take,List.map_drop]
theorem aLz (N:List Str) (b:Nat) (hb:b<=N.length) (z:Int) (hz:z=b):cutD (N.map D.str) none (some z)=(N.take b).map D.str:=by
 subst hz;unfold cutD aAa;dsimp only;rw [if_neg (by lia),List.length_map,show (min (b:Int) (N.length:Int)).toNat=b by lia,List.drop_zero,Nat.sub_zero,List.map_take]
theorem slL {a:FE} {lo hi:List D->Res (Option Int)} {ρ:List D} {N:List Str} {l h:Option Int} (h1:a ρ=.ok (.lst (N.map D.str))) (h2:lo ρ=.ok l) (h3:hi ρ=.ok h):m_ a lo hi ρ=.ok (.lst (cutD (N.map D.str) l h)):=by
 unfold m_;rw [h1,Res.aW,h2,Res.aW,h3,Res.aW];show (if D.aN (N.map D.str) then Res.ok (D.lst (cutD (N.map D.str) l h)) else .bad)=_;rw [bB];rfl
theorem aA7 {l:List D} (h:D.aN l=true):D.aN l.reverse=true:=by
 induction l with
 | nil=>rfl
 | cons x l ih=>
  rw [D.aN,Bool.and_eq_true] at h;rw [List.reverse_cons];exact l_ (ih h.2) (aP h.1 rfl)
theorem aGj (cs:List Int) (hc:cs.length=64) (N:List Str) (hN:N.length=21) (hd:N.Nodup) (hs:∀s∈N,s ≠ "copy"/\s ≠ "drop"/\s.length<=21) (hn:dO 2 cP [.int (cs.getD 0 0),.int 21]=.ok (.lst (N.map D.str))):∃(ks:List Str) (M:List Mkr) (T:List Tkr) (R:D),dO 1 d9 [.lst (cs.map D.int)]=.ok (b_ ks M T R)/\WF M T/\ks.length<=100/\∀n∈(HK M T).map (·.1),n.length<=100:=by
 obtain ⟨kn,ekn,hkn⟩:∃kn:Nat,1+cs.getD 1 0 % 2=(kn:Int)/\(kn=1\/kn=2):=⟨(1+cs.getD 1 0 % 2).toNat,by lia,by lia⟩
 obtain ⟨K,eK⟩:∃K,K=N.take kn:=⟨_,rfl⟩
 have lK:K.length=kn:=by rw [eK,List.length_take];lia
 have gK:∀k,k<kn->K.getD k "" = nI N k:=fun k hk=>by
  unfold nI;rw [eK,List.getD_eq_getElem?_getD,List.getD_eq_getElem?_getD,List.getElem?_take,if_pos hk]
 have gcl:∀(i:Nat) (hi:i<64) (z:Int) (hz:z=i),getD (.lst (cs.map D.int)) (.int z)=.ok (.int (cs.getD i 0)):=fun i hi z hz=>o7 D.int 0 cs z i hz (by lia)
 have c1:∀l,b2 getD cO fQ (.lst (cs.map D.int)::l)=.ok (.int (cs.getD 1 0)):=fun l=>aM rfl rfl (gcl 1 (by lia) _ rfl)
 have c3:∀l,b2 getD cO CN (.lst (cs.map D.int)::l)=.ok (.int (cs.getD 3 0)):=fun l=>aM rfl rfl (gcl 3 (by lia) _ rfl)
 have c0:∀l,b2 getD cO zO (.lst (cs.map D.int)::l)=.ok (.int (cs.getD 0 0)):=fun l=>aM rfl rfl (gcl 0 (by lia) _ rfl)
 obtain ⟨ρ1,h1,M,x4,x5,x6,x7,pm,rfl⟩:=QJ (fa:=aC (aY iK (aC cX aU)) aU) (t:=tg1 4) (body:=aK3) (fun k ρ=>∃(M:List Mkr) (a b c d:D),PMo N K k M/\ρ=Em cs N K M a b c d) kn (by lia) (ρ:=Em cs N K [] .uD .uD .uD .uD) (by rw [<-lK];exact aF (a_ (aF rfl rfl) (mU (List.length_map ..))) rfl) ⟨[],_,_,_,_,⟨⟨[],rfl,List.Pairwise.nil,by simp⟩,by simp,fun j hj=>by lia,fun s=>by simp [cntK],by simp,by simp⟩,rfl⟩ fun k ρ hk ⟨M,a,b,c,d,pm,e⟩=>by
  subst e;obtain ⟨M',b',c',d',h1,h2⟩:=V4 hc hN hd (by lia) (by lia) (by lia) (gK k hk) pm b c d;exact ⟨_,_,rfl,h1,M',_,_,_,_,h2,rfl⟩
 obtain ⟨tn,htn,gt⟩:=oU (fun n:Nat=>D.int (n:Int)) [1,2,3,2,1,0] (cs.getD 1 0 / 2 % 6) (Int.emod_nonneg _ (by decide)) (Int.emod_lt_of_pos _ (by decide));have ltn:tn<=3:=by
  simp only [List.mem_cons,List.not_mem_nil,or_false] at htn;lia
 obtain ⟨ρ2,h2,T,y4,y9,y10,y11,pt,rfl⟩:=QJ (fa:=aC (b2 getD (lE (aC fQ (aC iU (aC CN (aC iU (aC fQ (aC zO aU))))))) (b2 (aX .mod) (b2 (aX .fdiv) (b2 getD cO fQ) iU) MJ)) aU) (t:=tg1 4) (body:=aK4) (fun k ρ=>∃(T:List Tkr) (a b c d:D),PT N K k T/\ρ=Et cs N K M T x5 x6 x7 a b c d) tn (by lia) (ρ:=Et cs N K M [] x5 x6 x7 x4 .uD .uD .uD) (aF (aM rfl (aM (aM (c1 _) rfl (dJ _ _ (by decide) (by decide))) rfl (d7 _ _ (by decide))) gt) rfl) ⟨[],_,_,_,_,⟨rfl,by simp⟩,rfl⟩ fun k ρ hk ⟨T,a,b,c,d,pt,e⟩=>by
  subst e;obtain ⟨T',b',c',d',h1,h2⟩:=V5 (M:=M) (x5:=x5) (x6:=x6) (x7:=x7) hc hN (by lia) (by lia) (by lia) pt b c d;exact ⟨_,_,rfl,h1,T',_,_,_,_,h2,rfl⟩
 have wr:WR K M T:=⟨pm.hM,pt.hT,fun k hk=>by
  obtain ⟨i,hi,e⟩:=List.getElem_of_mem hk;obtain ⟨m,hm,e1,e2⟩:=pm.nul i (by lia);refine ⟨m,hm,?_,e2⟩;rw [e1,<-gK i (by lia),List.getD_eq_getElem?_getD,List.getElem?_eq_getElem hi,<-e];rfl,by have:=pm.lM;lia,by rw [pt.len];lia,pm.cnt⟩
 obtain ⟨rs,h3,prs⟩:=aCk (pool:=(N.drop 12).take 8) wr (by rw [List.length_take,List.length_drop];lia) hc;obtain ⟨rs',h4,prs'⟩:∃rs',sIf (bTB (b2 (cV .eq) (b2 (aX .mod) (b2 (aX .fdiv) (b2 getD cO CN) aEk) iU) fQ)) (aKb 12) jL [.lst (cs.map D.int),.lst (N.map D.str),.lst (K.map D.str),.lst (M.map mkD),y4,x5,x6,x7,.lst (T.map tkD),y9,y10,y11,.lst rs]=.ok (.nx [.lst (cs.map D.int),.lst (N.map D.str),.lst (K.map D.str),.lst (M.map mkD),y4,x5,x6,x7,.lst (T.map tkD),y9,y10,y11,.lst rs'])/\D.aN rs'=true:=by
  have e:bTB (b2 (cV .eq) (b2 (aX .mod) (b2 (aX .fdiv) (b2 getD cO CN) aEk) iU) fQ) [.lst (cs.map D.int),.lst (N.map D.str),.lst (K.map D.str),.lst (M.map mkD),y4,x5,x6,x7,.lst (T.map tkD),y9,y10,y11,.lst rs]=.ok (cs.getD 3 0 / 16 % 2==1):=fU (aM (aM (aM (c3 _) rfl (dJ _ _ (by decide) (by decide))) rfl (d7 _ _ (by decide))) rfl rfl);cases hb:(cs.getD 3 0 / 16 % 2==1) with
  | true=>exact ⟨rs.reverse,MN (e.trans (by rw [hb])) rfl,aA7 prs⟩
  | false=>exact ⟨rs,nA (e.trans (by rw [hb])) rfl,prs⟩
 obtain ⟨en,een,hen⟩:∃en:Nat,cs.getD 1 0 / 12 % 2=(en:Int)/\en<=1:=⟨(cs.getD 1 0 / 12 % 2).toNat,by lia,by lia⟩
 refine ⟨K++(N.drop 2).take en,M,T,.tup rs',(eQ rfl).trans (call_v ?_),?_,by rw [List.length_append,List.length_take];lia,?_⟩
 ·refine aL (ρ':=[.lst (cs.map D.int),.lst (N.map D.str),.uD,.uD,.uD,.uD,.uD,.uD,.uD,.uD,.uD,.uD,.uD]) (bO (a_ (aF (c0 _) (aF rfl rfl)) hn)) (aL (ρ':=[.lst (cs.map D.int),.lst (N.map D.str),.lst (K.map D.str),.uD,.uD,.uD,.uD,.uD,.uD,.uD,.uD,.uD,.uD]) (bO ?_) (aL (iQ rfl rfl) (aL h1 (aL (iQ rfl rfl) (aL h2 (aL (ρ':=[.lst (cs.map D.int),.lst (N.map D.str),.lst (K.map D.str),.lst (M.map mkD),y4,x5,x6,x7,.lst (T.map tkD),y9,y10,y11,.lst rs]) (iQ (a_ (aF rfl (aF rfl (aF ?_ (aF rfl rfl)))) h3) (LQ prs)) (aL h4 (aL (ρ':=[.lst (cs.map D.int),.lst (N.map D.str),.lst ((K++(N.drop 2).take en).map D.str),.lst (M.map mkD),y4,x5,x6,x7,.lst (T.map tkD),y9,y10,y11,.lst rs']) (bO ?_) (iD (CP (xs:=[.tup ((K++(N.drop 2).take en).map D.str),.tup (M.map mkD),.tup (T.map tkD),.tup rs']) (aF (a_ (aF rfl rfl) rfl) (aF (a_ (aF rfl rfl) rfl) (aF (a_ (aF rfl rfl) rfl) (aF (a_ (aF rfl rfl) rfl) rfl)))) (by rw [bN];simp)) (bJ (aP (bJ (bB _)) (aP (bJ (HH M)) (aP (bJ (HJ T)) (aP (bJ prs') rfl))))))))))))))
  ·rw [eK,<-aLz N kn (by lia) _ ekn];exact slL rfl rfl (u_ (aM rfl (aM (c1 _) rfl (d7 _ _ (by decide))) (dU _ _)))
  ·rw [show (N.drop 12).take 8=(N.drop 12).take (20-12) from rfl,<-aDs N 12 20 (by lia) (by lia) 20 rfl 12 rfl];exact slL rfl rfl rfl
  ·rw [show (K++(N.drop 2).take en).map D.str=K.map D.str++((N.drop 2).take en).map D.str from List.map_append];refine aM (x:=.lst (K.map D.str)) (y:=.lst (((N.drop 2).take en).map D.str)) rfl ?_ (mF (K.map D.str) (((N.drop 2).take en).map D.str) (by rw [List.length_map,List.length_map,bN,List.length_take];lia) (bB _) (bB _));rw [show (N.drop 2).take en=(N.drop 2).take ((2+en)-2) by rw [Nat.add_sub_cancel_left],<-aDs N 2 (2+en) (by lia) (by lia) (2+cs.getD 1 0 / 12 % 2) (by lia) 2 rfl];exact slL rfl rfl (u_ (aM rfl (aM (aM (c1 _) rfl (dJ _ _ (by decide) (by decide))) rfl (d7 _ _ (by decide))) (dU _ _)))
 all_goals
  obtain ⟨I,i1,i2,i3⟩:=pm.ix;have key:M.map (·.1)++T.map (·.1)=(I++(List.range tn).map (9+·)).map (nI N):=by
   rw [i1,pt.nm,List.map_append,List.map_map];rfl
  have bd:∀i∈I++(List.range tn).map (9+·),i<21:=fun i hi=>by
   rcases List.mem_append.mp hi with hi|hi
   ·have:=i3 i hi;lia
   ·obtain ⟨j,hj,rfl⟩:=List.mem_map.mp hi;have:=List.mem_range.mp hj;lia
  have mem:∀n∈M.map (·.1)++T.map (·.1),n∈N:=fun n hn=>by
   rw [key] at hn;obtain ⟨i,hi,rfl⟩:=List.mem_map.mp hn;have hi:=bd i hi;unfold nI;rw [List.getD_eq_getElem?_getD,List.getElem?_eq_getElem (by lia)];exact List.getElem_mem ..
 ·refine ⟨?_,fun m hm=>by have:=(pm.hM m hm).1;lia,fun t ht=>by have:=(pt.hT t ht).1;lia,by have:=pm.lM;lia,by rw [pt.len];lia⟩;rw [<-List.append_assoc,List.nodup_append];refine ⟨?_,by decide,fun a ha b hb e=>?_⟩
  ·rw [key];have pw:(I++(List.range tn).map (9+·)).Pairwise (·≠·):=by
    refine List.pairwise_append.mpr ⟨i2.imp fun h=>by lia,?_,fun i hi j hj=>?_⟩
    ·exact List.pairwise_map.mpr ((List.nodup_iff_pairwise_ne.mp List.nodup_range).imp fun h=>by lia)
    ·obtain ⟨q,hq,rfl⟩:=List.mem_map.mp hj;have:=i3 i hi;lia
   refine List.nodup_iff_pairwise_ne.mpr (List.pairwise_map.mpr (pw.imp_of_mem fun {i j} hi hj hne e=>hne (aDp hd ?_ ?_ e)))
   ·have:=bd i hi;lia
   ·have:=bd j hj;lia
  ·have h:=hs a (mem a ha);subst e;simp only [List.mem_cons,List.not_mem_nil,or_false] at hb;rcases hb with hb|hb
   ·exact h.1 hb
   ·exact h.2.1 hb
 ·intro n hn;rw [v_,<-List.append_assoc] at hn;rcases List.mem_append.mp hn with hn|hn
  ·have:=(hs n (mem n hn)).2.2;lia
  ·simp only [List.mem_cons,List.not_mem_nil,or_false] at hn;rcases hn with rfl|rfl <;> decide
theorem main:∀ns:List Int,ns.length<=63->O8 [.scr (ns.map D.int)]=.ok (.bl true):=fun ns h=>by
 obtain ⟨cs,hc,e1⟩:=aCd ns h;obtain ⟨N,hN,hd,hs,e2⟩:=aCf (cs.getD 0 0);obtain ⟨ks,M,T,R,e3,wf,hk,hl⟩:=aGj cs hc N hN hd hs e2;exact aCc wf (by intro z;cases z) rfl hl hk (o7 D.int 0 cs 0 0 rfl (by lia)) (o7 D.int 0 cs 8 8 rfl (by lia)) e1 e3 e2 hN
end Lk71
section
open PySem PySem.W PyProof.Rows
namespace PySem.W.Fast
def tw14662145600536524328:=()
def tw16162771877297386411:=()
def tw16875806828921912790:=()
def tw8744227634843387220:=()
def tw9687498491197884936:=()
def tw4159539469599584218:=()
def tw5371537308010620539:=()
def tw9960732235682691765:=()
def tw962982134464021589:=()
def tw4414855006131697476:=()
def tw8009556903523641905:=()
def tw8306144522209683214:=()
def tw2633215984276606902:=()
def tw14084053350327085601:=()
def tw3475158972946933087:=()
def tw2687722771663253592:=()
def tw5753585017171665120:=()
def tw9650906549731947673:=()
def tw6765237353033873684:=()
def tw14284234280563503378:=()
def tw17540612207980440042:=()
def tw14641522012846595926:=()
def tw15879646595357832190:=()
def tw6427896424446119605:=()
def tw1483593694889212797:=()
def tw15769792117334523679:=()
def tw14179975635415574272:=()
def tw14695006726112714613:=()
def tw15674570163961989666:=()
def tw2155524667389941909:=()
def tw8460719933677996154:=()
def tw12382604429641443403:=()
def tw1397487950399423611:=()
def tw9892100983671768938:=()
def tw14191421288640231125:=()
def tw12380018054122091451:=()
def tw198892233348417769:=()
def tw2397123907754474738:=()
def tw5362512165551833501:=()
def tw18260391416083518127:=()
def tw3008068889913255260:=()
def tw11009289758540679274:=()
def tw6710327277665392688:=()
def tw327068405616184646:=()
def tw14843889676279716311:=()
def tw14090962752163535928:=()
def tw3029452560903518981:=()
def tw13034834211564828113:=()
def tw8972671088398839411:=()
def tw17851668199532547732:=()
def tw17859261107966040797:=()
def tw10780109823215343452:=()
def tw17610410421096341853:=()
def tw15988717032109649641:=()
def tw1056774960424006474:=()
def tw473631470645241186:=()
def tw13309071503789189443:=()
def tw4295811680451146265:=()
def tw12439124316087895825:=()
def tw15195490658841899357:=()
def tw8331687601987341074:=()
def tw12137637639769945786:=()
def tw14828649455666340317:=()
def tw2145798854491406140:=()
def tw12941425269639220607:=()
def tw8026619935452054706:=()
def tw9187675955209927811:=()
def tw9332250617562473601:=()
def tw11937400246685504152:=()
def tw13544441936164683102:=()
def tw13325473757179296846:=()
def tw14710188908473870189:=()
def tw3282764859768156887:=()
def tw11479147713049680961:=()
def tw15918393877183271239:=()
def tw3934218543364986227:=()
def tw4924117871013874566:=()
def tw14640240185387327722:=()
def tw2203751242751103582:=()
def tw748925024832432305:=()
def tw6634719706099491413:=()
def tw7068397478288619363:=()
def tw13661292551558725634:=()
def tw17491020787483737677:=()
def tw8539421347045864820:=()
def tw10631090715188368324:=()
def tw748476667966498634:=()
def tw10872398460717820171:=()
def tw4099014642014459487:=()
def tw9027377326639707211:=()
def tw17425114597278851156:=()
def tw13984330495806578379:=()
def tw1203582292376631014:=()
def tw6722268782072861470:=()
def tw2134893651847155857:=()
def tw14378953983704952694:=()
def tw14355543090652590847:=()
def tw6271808911024419757:=()
def tw12678770970561223078:=()
def tw3691410057348624780:=()
def tw6905151343733713616:=()
def tw1218968679169889439:=()
def tw13368357727697449313:=()
def tw10599871767710670909:=()
def tw6862275914369889897:=()
def tw8061521330050173524:=()
def tw18180675919943566722:=()
def tw17407821566590541082:=()
def tw1050111570699415919:=()
def tw1912449886090494663:=()
def tw15017605069936336699:=()
def tw13615149240818985504:=()
def tw9208834489237004823:=()
def tw17745273262853695327:=()
def tw1831577830862989445:=()
def tw9621515847895156435:=()
def tw4867837307157050691:=()
def tw5817420724404868810:=()
def tw15709185627633132779:=()
def tw10857431018613362286:=()
def tw17405440186213096088:=()
def tw6012964440020438531:=()
def tw18274667013905325712:=()
def tw12275955918897771743:=()
def tw7357073484656376558:=()
def tw11809898103678766575:=()
def tw6144601650193513059:=()
def tw4166555006154808859:=()
def tw4823023327328141496:=()
def tw11396364676250370141:=()
def tw7711312252219635290:=()
def tw16135786305280782316:=()
def tw2429244687795373140:=()
def tw17330982545259064426:=()
def tw8030857958499515381:=()
def tw1160080099908413464:=()
def tw14525923475728769182:=()
def tw15978484659497070588:=()
def tw13926246264219761614:=()
def tw13820743923936145144:=()
def tw8581495359988575605:=()
def tw17310614641702734480:=()
def tw14400742379473794345:=()
def tw621646570472746650:=()
def tw516420038909410819:=()
def tw12149471343603224432:=()
def tw17199764805059565170:=()
def tw13373628676378321969:=()
def tw15685413608789376098:=()
def tw4425758785700163691:=()
def tw3614931963986558679:=()
def tw6599582454454468464:=()
def tw16145186942706907465:=()
def tw18230461236183880290:=()
def tw14575318006533952386:=()
def tw842961113465665209:=()
def tw16293315479315500474:=()
def tw7467542054251369587:=()
def tw15419255778916571671:=()
def tw14810682900118968533:=()
def tw16626390688314506167:=()
def tw11890660569073752685:=()
def tw6732943014184460664:=()
def tw4112591867046077623:=()
def tw5322889492957898081:=()
def tw12173634411605697134:=()
def tw855679245124855402:=()
def tw5117432578605197786:=()
def tw13002807316210447618:=()
def tw4840102295744228153:=()
def tw7032827712335018835:=()
def tw80879635801547406:=()
def tw14135964727041085835:=()
def tw6551889785980067606:=()
def tw17181489594144739636:=()
def tw10643345286012873892:=()
def tw10477035339606158791:=()
def tw15302656243070383315:=()
def tw8199418365862650231:=()
def tw10765455964459921705:=()
def tw10376369114466491580:=()
def tw7879747832878589446:=()
def tw17940527334791271978:=()
def tw15395092494545504539:=()
def tw17013976145901510690:=()
def tw14287339066432875954:=()
def tw1365563153619398330:=()
def tw14034458352192296331:=()
def tw1760709396637845489:=()
def tw18058831862057808593:=()
def tw18215285700062013220:=()
def tw379555932491971334:=()
def tw17298697692346239947:=()
def tw18229589354563910067:=()
def tw15665027035057732390:=()
def tw15304692179365700624:=()
def tw7714834585252220825:=()
def tw16740114385506517381:=()
def tw13499981483669103692:=()
def tw13869022860697409240:=()
end PySem.W.Fast
set_option maxRecDepth 100000 in
set_option maxHeartbeats 0 in
theorem PySem.Challenge.cw_hookmill_k71_roles_holds : PySem.Challenge.rw_hookmill_k71_roles.Holds := by
 w_on;o_law;k_head;(case hw=>w_witness2)
 k_fill
 refine Lk71.walk (l:=PySem.Challenge.rw_hookmill_k71_roles) Lk71.main rfl rfl (fun w h Y=>PySem.W.kIn_of Y) ?F
 case F=>
  intro w mg fa h KX G hmg
  refine' Lk71.aJf KX G hmg ?a0 ?a1 ?a2 ?a3 ?a4 ?a5 ?a6 ?a7 ?a8 ?a9 ?a10 ?a11 ?a12 ?a13 ?a14 ?l14 ?c14 ?k14 ?rz ?rA ?rB ?rC ?rD ?rE ?rG ?rH ?rJ ?rK ?rL ?rM ?rN ?rO ?rP ?rQ ?rR ?rS ?ql ?pf ?rT ?rV ?rW ?rX ?pb ?pc ?pd ?pe ?pG ?rY ?rZ ?t5 ?t6 ?t7 ?t8 ?t9 ?tf ?pX ?tj ?tm ?tq ?tw ?tB ?tD ?tF ?qm ?pY ?tG ?tH ?tI ?tJ ?tK ?tL ?tM ?tN ?tO ?tP ?tQ ?tR ?tT ?tU ?tV ?tW ?tX ?tY ?u4 ?u5 ?qo ?qp ?qr ?qt ?qu ?qv ?qw ?qx ?u7 ?u8 ?u9 ?v5 ?pC ?pD ?ph ?v6 ?pP ?pQ ?pR ?kg_ ?kt_ ?ua ?qy ?qz ?qA ?ub ?pg_MakerRole ?uc ?po_MakerRole ?ud ?mk_MakerRole ?ue ?qB ?qD ?uf ?ug ?uh ?kc_MakerRole ?ob_MakerRole ?ui ?qE ?qF ?qG ?uj ?pg_TakerRole ?ul ?po_TakerRole ?um ?mk_TakerRole ?uo ?qH ?qI ?uq ?ur ?ut ?kc_TakerRole ?ob_TakerRole ?uv ?qJ ?qK ?qL ?ux ?pg_CopyRole ?uy ?po_CopyRole ?uz ?mk_CopyRole ?uA ?qM ?qN ?uB ?uC ?uD ?kc_CopyRole ?ob_CopyRole ?uE ?qO ?qP ?qQ ?uF ?pg_DropRole ?uG ?po_DropRole ?uH ?mk_DropRole ?uI ?qR ?qS ?uJ ?uK ?uL ?kc_DropRole ?ob_DropRole ?pH ?pI ?pz ?pS ?pJ ?pK ?pA ?pT ?pL ?pM ?pB ?pU
  (case a0|a1|a2|a3|a4|a5|a6|a7|a8|a9|a10|a11|a12|a13=>refine' Lk71.aLv ?a ?b ?c ?d;(case a=>k_is);(case b=>k_is);(case c=>k_is);case d=>k_is)
  (case a14|l14|c14|k14|rz|rA|rB|rC|rD|rE|rG|rH|rJ|rK|rL|rM|rN|rO|rP|rQ|rR|rS|ql|pf|rT|rV|rW|rX|pb|pc|pd|pe|pG|rY|t5|t6|t7|t8|t9|tf|pX|tj|qm|pY|qp|qr|qt|qu|qv|qw|qx|u7|u8|u9|v5|pC|pD|ph|v6|pP|pQ|pR|kg_|kt_|ua|qy|qz|qA|ub|pg_MakerRole|uc|po_MakerRole|ud|mk_MakerRole|ue|qB|qD|uf|ug|uh|kc_MakerRole|ob_MakerRole|ui|qE|qF|qG|uj|pg_TakerRole|ul|po_TakerRole|um|mk_TakerRole|uo|qH|qI|uq|ur|ut|kc_TakerRole|ob_TakerRole|uv|qJ|qK|qL|ux|pg_CopyRole|uy|po_CopyRole|uz|mk_CopyRole|uA|qM|qN|uB|uC|uD|kc_CopyRole|ob_CopyRole|uE|qO|qP|qQ|uF|pg_DropRole|uG|po_DropRole|uH|mk_DropRole|uI|qR|qS|uJ|uK|uL|kc_DropRole|ob_DropRole|pH|pI|pz|pS|pJ|pK|pA|pT|pL|pM|pB|pU=>k_is)
  (case rZ=>kts_exm)
  (case tm=>kit_is)
  (case tq=>kit_is)
  (case tw=>kit_is)
  (case tB=>kit_is)
  (case tD=>kit_is)
  (case tF=>kit_is)
  (case tG=>kit_is)
  (case tH=>kit_is)
  (case tI=>kit_is)
  (case tJ=>kit_is)
  (case tK=>kit_is)
  (case tL=>kit_is)
  (case tM=>kit_is)
  (case tN=>kit_is)
  (case tO=>kit_is)
  (case tP=>kit_is)
  (case tQ=>kit_is)
  (case tR=>kit_is)
  (case tT=>kit_is)
  (case tU=>kit_is)
  (case tV=>kit_is)
  (case tW=>kit_is)
  (case tX=>kit_is)
  (case tY=>kit_is)
  (case u4=>kit_is)
  (case u5=>kit_is)
  (case qo=>kernel_rfl)
end
