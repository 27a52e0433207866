import PyProof.Rows.All
import Wide.All
import OpenK.AllK
import Wide.FinOn
import PyProof.EqAt
import PyProof.EqKinds
import PyProof.TupleCall
import Lean
import PyProof.Rows.SortRuns
import PySem.Syntax
import PyProof.NeKinds
import PyProof.WalkInts
import KE.KDictList
import PyProof.CompUse
import PyProof.StrWalks
import PyProof.EnumMake
import PyProof.EnumFor
import PyProof.StrCalls2
import PyProof.StrBlock2
import PyProof.StrBlockI
import PyProof.SliceStr2
import PyProof.ConsumeWalk
import PyProof.StrLawsJoin
import KE.KTryMore
import KE.KTryDeep
import OpenK.KOwn
import PyProof.ExcClass3
import KE.KIsAll
import PyProof.ExcArgsOwn
import PyProof.NsDelKeeps
import PyProof.ListRange
import PyProof.DictWalks
import KE.KEqDict
import PyProof.Rows.TupAdd
import PyProof.DictIter
import PyProof.AttrMissHeap
import PyProof.ZipIter
import PyProof.TupleIter
import PyProof.WalksMore
import PyProof.FactsAll.zip
import KE.KDictOf
import PyProof.Conv_int
import PyProof.Conv_int_bool
import PyProof.StrBlockL
import PyProof.MakeMany
import PyProof.MeetsStr2
import PyProof.CallRoads3
import PyProof.Rows.TupIn
import PyProof.CallType
import PyProof.EnumStmt
import PyProof.Draws
import KE.KRevIter
import PyProof.StationsW
import OpenK.KCls
import PyProof.InstStoreFacts
import PyProof.StrCalls
import PyProof.StrLawsTight
import PySem.Challenge.RW_hookmill_k43_bad_row
set_option Elab.async false
set_option maxRecDepth 100000
set_option maxHeartbeats 4000000
noncomputable section
set_option linter.all false
set_option autoImplicit false
set_option genSizeOfSpec false
set_option genInjectivity true
abbrev nDb (x:PySem.Str):Prop := (x==("__debug__" : PySem.Str))=false
abbrev nCd (x:PySem.Str):Prop := (x==("__classdict__" : PySem.Str))=false
namespace L2
open PySem PySem.Spec PyProof.Rows
noncomputable abbrev Key:=Sum Int Str
noncomputable def HH:Key->Value->Bool
 | .inl k,v=>Value.isInt k v
 | .inr x,v=>Value.isStrOf x v
noncomputable def aG7 (w:World):Key->Int
 | .inl k=>hashInt k
 | .inr x=>hashStr w x
theorem cV:∀{k:Key} {v:Value},HH k v=true->(∃i t,k=Sum.inl i/\v=Value.int i t)\/(∃x t,k=Sum.inr x/\v=Value.str x t)
 | .inl i,v,h=>by
  obtain ⟨t,e⟩:=Value.isInt_shape (k:=i) (v:=v) h;exact .inl ⟨i,t,rfl,e⟩
 | .inr x,v,h=>by
  obtain ⟨t,e⟩:=Value.isStrOf_shape (x:=x) (v:=v) h;exact .inr ⟨x,t,rfl,e⟩
theorem J8 (i:Int) (t:Tok):HH (.inl i) (.int i t)=true:=by simp [HH,Value.isInt]
theorem J9 (x:Str) (t:Tok):HH (.inr x) (.str x t)=true:=by simp [HH,Value.isStrOf]
theorem aBg (a b:Int):decide ((Sum.inl a:Key)=Sum.inl b)=(a==b):=by
 by_cases e:a=b
 ·subst e;simp
 ·have h:¬(Sum.inl a:Key)=Sum.inl b:=fun q=>e (Sum.inl.inj q)
  rw [decide_eq_false h];exact (beq_eq_false_iff_ne.mpr e).symm
theorem aBh (a b:Str):decide ((Sum.inr a:Key)=Sum.inr b)=decide (a=b):=by
 by_cases e:a=b
 ·subst e;simp
 ·have h:¬(Sum.inr a:Key)=Sum.inr b:=fun q=>e (Sum.inr.inj q)
  rw [decide_eq_false h,decide_eq_false e]
theorem aBi (a:Int) (b:Str):decide ((Sum.inl a:Key)=Sum.inr b)=false:=decide_eq_false (fun q=>nomatch q)
theorem aBj (a:Str) (b:Int):decide ((Sum.inr a:Key)=Sum.inl b)=false:=decide_eq_false (fun q=>nomatch q)
def dO (prog:Program) (w:World):PySem.KeyKind prog w Key where
 is:=HH
 hash:=aG7 w
 inj:=fun v a b ha hb=>by
  rcases cV ha with ⟨i,t,rfl,rfl⟩|⟨x,t,rfl,rfl⟩
  ·rcases cV hb with ⟨j,u,rfl,e⟩|⟨y,u,rfl,e⟩
   ·injection e with e1 _;rw [e1]
   ·exact nomatch e
  ·rcases cV hb with ⟨j,u,rfl,e⟩|⟨y,u,rfl,e⟩
   ·exact nomatch e
   ·injection e with e1 _;rw [e1]
 byValue:=fun k v h=>by
  rcases cV h with ⟨i,t,rfl,rfl⟩|⟨x,t,rfl,rfl⟩ <;> rfl
 pyHash:=fun hv h=>by
  rcases cV hv with ⟨i,t,rfl,rfl⟩|⟨x,t,rfl,rfl⟩
  ·exact wpAny_pyHash_int h
  ·exact wpAny_pyHash_str h
 eqBool:=fun hu hv h=>by
  rcases cV hu with ⟨i,t,rfl,rfl⟩|⟨x,t,rfl,rfl⟩
  ·rcases cV hv with ⟨j,u,rfl,rfl⟩|⟨y,u,rfl,rfl⟩
   ·rw [aBg] at h;exact wpAny_eqBool_int h
   ·rw [aBi] at h;exact SeqAt.EqAt.int_str i t y u _ _ _ _ h
  ·rcases cV hv with ⟨j,u,rfl,rfl⟩|⟨y,u,rfl,rfl⟩
   ·rw [aBj] at h;exact SeqAt.EqAt.str_int x t j u _ _ _ _ h
   ·rw [aBh] at h;exact wpAny_eqBool_str h
 «strs»:=fun k x t v h=>by
  rcases cV h with ⟨i,u,rfl,e⟩|⟨y,u,rfl,e⟩
  ·exact nomatch e
  ·injection e with e1 _
   subst e1;cases v <;> rfl
theorem y_ (prog:Program) (w:World) (i:Int) (t:Tok):(dO prog w).is (.inl i) (.int i t)=true:=J8 i t
theorem zA (prog:Program) (w:World) (x:Str) (t:Tok):(dO prog w).is (.inr x) (.str x t)=true:=J9 x t
inductive V where
 | non|bl (b:Bool)|int (i:Int)|str (x:Str)|byt (b:Array UInt8)|flt (b:UInt64)|ref (a:Addr)|ty (n:String)
 deriving DecidableEq
def RelV:V->Value->Prop
 | .non,u=>u=Value.none
 | .bl b,u=>u=Value.bool b
 | .int i,u=>∃t,u=Value.int i t
 | .str x,u=>∃t,u=Value.str x t
 | .byt b,u=>∃t,u=Value.bytes b t
 | .flt b,u=>∃t,u=Value.float b t
 | .ref a,u=>u=Value.ref a
 | .ty n,u=>u=Value.type n
abbrev Vals:List V->List Value->Prop:=Paired RelV
theorem Vals.length {xs:List V} {us:List Value} (r:Vals xs us):xs.length=us.length:=Paired.length r
theorem Vals.get:∀{xs:List V} {us:List Value} {i:Nat} {x:V},Vals xs us->xs[i]?=some x->∃u,us[i]?=some u/\RelV x u
 | _,_,_,_,.nil,e=>by simp at e
 | _,_,0,_,.cons r _,e=>by simp at e;subst e;exact ⟨_,rfl,r⟩
 | _,_,i+1,x,.cons _ t,e=>by
  obtain ⟨u,h1,h2⟩:=Vals.get (i:=i) (x:=x) t (by simpa using e);exact ⟨u,by simpa using h1,h2⟩
theorem Vals.set {x:V} {u:Value} (r:RelV x u):∀{xs:List V} {us:List Value} (i:Nat),Vals xs us->Vals (xs.set i x) (us.set i u)
 | _,_,_,.nil=>.nil
 | _,_,0,.cons _ t=>.cons r t
 | _,_,i+1,.cons q t=>.cons q (Vals.set r i t)
theorem Vals.append:∀{xs ys:List V} {us ws:List Value},Vals xs us->Vals ys ws->Vals (xs++ys) (us++ws)
 | _,_,_,_,.nil,s=>s
 | _,_,_,_,.cons r t,s=>.cons r (Vals.append t s)
theorem Vals.take:∀{xs:List V} {us:List Value} (n:Nat),Vals xs us->Vals (xs.take n) (us.take n)
 | _,_,0,_=>.nil
 | _,_,_+1,.nil=>.nil
 | _,_,n+1,.cons r t=>.cons r (Vals.take n t)
theorem Vals.drop:∀{xs:List V} {us:List Value} (n:Nat),Vals xs us->Vals (xs.drop n) (us.drop n)
 | _,_,0,r=>r
 | _,_,_+1,.nil=>.nil
 | _,_,n+1,.cons _ t=>Vals.drop n t
def RM:Option V->Option Value->Prop
 | some v,some u=>RelV v u
 | none,none=>True
 | _,_=>False
def KV {κ:Type}:List (κ×V)->List (κ×Value)->Prop:=Paired fun (p:κ×V) (q:κ×Value)=>p.1=q.1/\RelV p.2 q.2
noncomputable def kV:Key->V
 | .inl i=>.int i
 | .inr x=>.str x
inductive HO where
 | lst (xs:List V)
 | tup (xs:List V)
 | dK (kvs:List (Key×V))|dT (kvs:List (List Key×V))
 | set (S:Int->Bool) (n:Nat)
 | ins (C dx:Addr) (fs:List (Str×V))
 | own (x:Addr)
 | xd (fs:List (Str×V))
 | met (f x:Addr)
 | rng (lo hi:Int)
 | frz (o:Obj) (u:HO)
 | tbl (ps:Array Value)
 | ext (φ:Heap->Prop)
noncomputable abbrev Hp:=Addr->Option HO
noncomputable def upd (H:Hp) (a:Addr) (o:HO):Hp:=fun b=>if b=a then some o else H b
theorem aH {H:Hp} {a:Addr} {o:HO}:upd H a o a=some o:=by unfold upd;rw [if_pos rfl]
theorem aR {H:Hp} {a b:Addr} {o:HO} (h:b≠a):upd H a o b=H b:=by unfold upd;rw [if_neg h]
theorem X_ {H:Hp} {a:Addr} {o u:HO}:upd (upd H a o) a u=upd H a u:=by
 funext b;unfold upd;split <;> rfl
theorem aEe {H:Hp} {a b:Addr} {o u:HO} (h:H a=some o) (h':H b=some u) (d:o≠u):a≠b:=by
 intro e;subst e;rw [h] at h';exact d (Option.some.inj h')
theorem bQ {H:Hp} {a b:Addr} {o:HO} (h:H a=some o) (h':H b=none):a≠b:=by
 intro e;subst e;rw [h] at h';cases h'
def iK (h:Heap) (a:Addr) (its:Array Value):Prop:=∃o,h.get? a=some o/\o.cls=.type "tuple"/\∃n,(o.data,o.dict)=(Data.seq its n,none)
theorem iK.tup {h:Heap} {a:Addr} {its:Array Value} (t:iK h a its):IsTup h a its:=let ⟨o,e,c,n,d⟩:=t;⟨o,e,c,n,congrArg (·.1) d⟩
theorem iK.bare {h:Heap} {a:Addr} {its:Array Value} (t:iK h a its):∃o,h.get? a=some o/\o.dict=none:=let ⟨o,e,_,_,d⟩:=t;⟨o,e,congrArg (·.2) d⟩
theorem iK.new (h:Heap) (items:Array Value):iK (h.push {cls:=.type "tuple",data:=.seq items}) h.objs.size items:=⟨_,Heap.get?_push_size _ rfl,rfl,_,rfl⟩
section
variable (P:Program) (w:World)
def fB (H:Hp) (h:Heap) (a:Addr):HO->Prop
 | .lst xs=>xs.length<=sizeLine/\∃(its:List Value) (n:Nat),Vals xs its/\h.get? a=some {cls:=.type "list",data:=.seq its.toArray n}
 | .tup xs=>xs.length<=sizeLine/\∃its:List Value,Vals xs its/\iK h a its.toArray
 | .dK kvs=>kvs.length<=sizeLine/\(a==sysModules)=false/\∃vs,KV kvs vs/\h.DictOf (dO P w) a vs
 | .dT kvs=>kvs.length<=sizeLine/\(a==sysModules)=false/\∃xs:List (List Key×Addr×Value),
   Paired (fun (p:List Key×V) (q:List Key×Addr×Value)=>p.1=q.1/\H q.2.1=some (.tup (p.1.map kV))/\RelV p.2 q.2.2) kvs xs/\
   ∃o es ep,h.get? a=some o/\o.ExactDict/\o.data=.dict es ep/\es.toList=xs.map (entryOfKey (tupleKind (dO P w)))/\(xs.map (·.1)).Nodup
 | .set S n=>h.SetOf (intKind P w) a S n
 | .ins C dx fs=>H dx=some (.own a)/\fs.length<=1000/\dx≠a/\h.get? a=some (PySem.W.instObj C dx)/\
   ∃mA,h.Ns1 dx mA/\(∀f,RM (fs.lookup f) (mA f))/\PySem.Within mA (fs.map (·.1))
 | .own _=>∃o,h.get? a=some o
 | .xd fs=>∃mA,h.Ns1 a mA/\∀f,RM (fs.lookup f) (mA f)
 | .rng lo hi=>∃t u v,h.get? a=some {cls:=.type "range",data:=.fields #[.int lo t,.int hi u,.int 1 v]}
 | .frz o u=>h.get? a=some o/\fB H h a u
 | .tbl ps=>h.get? a=some {cls:=.none,data:=.fields ps}
 | .met f x=>h.get? a=some (PySem.W.methodObj (.ref f) (.ref x))
 | .ext φ=>φ h/\(∃o,h.get? a=some o)/\∀h1 h2:Heap,φ h1->(∀o,h1.get? a=some o->h2.get? a=some o)->φ h2
def HOk (H:Hp) (h:Heap):Prop:=∀a o,H a=some o->fB P w H h a o
end
section
variable {P:Program} {w:World} {H H':Hp} {h h':Heap} {a:Addr} {o:HO}
theorem fB.lt (x:fB P w H h a o):a<h.objs.size:=by
 cases o with
 | lst xs=>obtain ⟨_,_,_,_,e⟩:=x;exact Heap.lt_size e
 | tup xs=>obtain ⟨_,_,_,p⟩:=x;exact p.tup.lt
 | dK kvs=>obtain ⟨_,_,_,_,o,_,_,e,_⟩:=x;exact Heap.lt_size e
 | dT kvs=>obtain ⟨_,_,_,_,o,_,_,e,_⟩:=x;exact Heap.lt_size e
 | set S n=>obtain ⟨o,_,_,_,e,_⟩:=x;exact Heap.lt_size e
 | ins C dx fs=>obtain ⟨_,_,_,e,_⟩:=x;exact Heap.lt_size e
 | own y=>obtain ⟨_,e⟩:=x;exact Heap.lt_size e
 | xd fs=>obtain ⟨_,⟨_,_,_,e,_⟩,_⟩:=x;exact Heap.lt_size e
 | rng lo hi=>obtain ⟨_,_,_,e⟩:=x;exact Heap.lt_size e
 | frz ob u=>obtain ⟨e,_⟩:=x;exact Heap.lt_size e
 | tbl ps=>exact Heap.lt_size (show h.get? a=some _ from x)
 | met f y=>exact Heap.lt_size (show h.get? a=some _ from x)
 | ext φ=>obtain ⟨_,⟨_,e⟩,_⟩:=x;exact Heap.lt_size e
theorem Paired.aFr {α β:Type} {F G:α->β->Prop}:∀{l₁:List α} {l₂:List β},Paired F l₁ l₂->(∀a b,F a b->G a b)->Paired G l₁ l₂
 | _,_,.nil,_=>.nil
 | _,_,.cons r t,f=>.cons (f _ _ r) (Paired.aFr t f)
theorem fB.stay (x:fB P w H h a o) (k:∀b u,(b=a\/H b=some (.own a))->h.get? b=some u->h'.get? b=some u)
  (ho:∀b,H b=some (.own a)->H' b=some (.own a)) (ht:∀b xs,H b=some (.tup xs)->H' b=some (.tup xs)):fB P w H' h' a o:=by
 induction o with
 | lst xs=>obtain ⟨z,its,n,r,e⟩:=x;exact ⟨z,its,n,r,k _ _ (.inl rfl) e⟩
 | tup xs=>obtain ⟨z,its,r,ob,e,c⟩:=x;exact ⟨z,its,r,ob,k _ _ (.inl rfl) e,c⟩
 | dK kvs=>obtain ⟨z,y,vs,r,ob,es,ep,e,c⟩:=x;exact ⟨z,y,vs,r,ob,es,ep,k _ _ (.inl rfl) e,c⟩
 | dT kvs=>
  obtain ⟨z,y,xs,r,ob,es,ep,e,c⟩:=x;exact ⟨z,y,xs,Paired.aFr r fun p q z=>⟨z.1,ht _ _ z.2.1,z.2.2⟩,ob,es,ep,k _ _ (.inl rfl) e,c⟩
 | set S n=>obtain ⟨ob,es,ep,t,e,c⟩:=x;exact ⟨ob,es,ep,t,k _ _ (.inl rfl) e,c⟩
 | ins C dx fs=>
  obtain ⟨d,z,ne,e,mA,⟨od,es,ep,e2,c⟩,r⟩:=x;exact ⟨ho _ d,z,ne,k _ _ (.inl rfl) e,mA,⟨od,es,ep,k _ _ (.inr d) e2,c⟩,r⟩
 | own y=>obtain ⟨ob,e⟩:=x;exact ⟨ob,k _ _ (.inl rfl) e⟩
 | xd fs=>obtain ⟨mA,⟨od,es,ep,e,c⟩,r⟩:=x;exact ⟨mA,⟨od,es,ep,k _ _ (.inl rfl) e,c⟩,r⟩
 | rng lo hi=>obtain ⟨t,u,v,e⟩:=x;exact ⟨t,u,v,k _ _ (.inl rfl) e⟩
 | frz ob u ih=>obtain ⟨e,q⟩:=x;exact ⟨k _ _ (.inl rfl) e,ih q⟩
 | tbl ps=>
  have e:h.get? a=some {cls:=.none,data:=.fields ps}:=x;show h'.get? a=some {cls:=.none,data:=.fields ps};exact k a _ (.inl rfl) e
 | met f y=>
  have e:h.get? a=some (PySem.W.methodObj (.ref f) (.ref y)):=x;show h'.get? a=some (PySem.W.methodObj (.ref f) (.ref y));exact k a _ (.inl rfl) e
 | ext φ=>obtain ⟨p,⟨o,e⟩,st⟩:=x;exact ⟨st _ _ p fun o q=>k _ _ (.inl rfl) q,⟨o,k _ _ (.inl rfl) e⟩,st⟩
theorem HOk.lt (x:HOk P w H h) (e:H a=some o):a<h.objs.size:=(x a o e).lt
theorem HOk.fresh (x:HOk P w H h) (e:h.objs.size<=a):H a=none:=by
 cases q:H a with
 | none=>rfl
 | some u=>exact absurd (Nat.lt_of_lt_of_le (x.lt q) e) (Nat.lt_irrefl _)
theorem HOk.kept (x:HOk P w H h) (k:∀b u,h.get? b=some u->h'.get? b=some u):HOk P w H h':=fun a o e=>
 (x a o e).stay (fun b u _ q=>k b u q) (fun _ q=>q) fun _ _ q=>q
theorem HOk.laid (x:HOk P w H h) (k:∀b u,h.get? b=some u->h'.get? b=some u) (hp:h.objs.size<=a) (new:fB P w (upd H a o) h' a o):HOk P w (upd H a o) h':=fun b u e=>by
 have hn:=x.fresh hp;by_cases hb:b=a
 ·subst hb;rw [aH] at e;cases e;exact new
 ·rw [aR hb] at e;exact (x b u e).stay (fun c v _ q=>k c v q) (fun c q=>by rw [aR (bQ q hn)];exact q) fun c xs q=>by rw [aR (bQ q hn)];exact q
end
def Rd (H:Hp) (a:Addr) (u:HO):Prop:=H a=some u\/∃o,H a=some (.frz o u)
theorem Rd.ok {P:Program} {w:World} {H:Hp} {h:Heap} {a:Addr} {u:HO} (r:Rd H a u) (x:HOk P w H h):fB P w H h a u:=by
 rcases r with r|⟨o,r⟩
 ·exact x a u r
 ·obtain ⟨_,q⟩:=x a _ r;exact q
def Mut:Option HO->Prop
 | some (.lst _)=>True
 | some (.dK _)=>True
 | some (.dT _)=>True
 | some (.set _ _)=>True
 | some (.ins _ _ _)=>True
 | some (.ext _)=>True
 | _=>False
section
variable {P:Program} {w:World} {H:Hp} {h h':Heap} {x e:Addr} {o':HO}
theorem HOk.write (ok:HOk P w H h) (mu:Mut (H x)) (he:e=x\/H e=some (.own x)) (k:∀b u,b≠e->h.get? b=some u->h'.get? b=some u) (heo:∃u,h'.get? e=some u)
  (new:fB P w (upd H x o') h' x o'):HOk P w (upd H x o') h':=fun b u q=>by
 have nown:∀c y,H c=some (.own y)->c≠x:=fun c y r z=>by subst z;rw [r] at mu;exact mu
 have ntup:∀c xs,H c=some (.tup xs)->c≠x:=fun c xs r z=>by subst z;rw [r] at mu;exact mu
 by_cases hb:b=x
 ·subst hb;rw [aH] at q;cases q;exact new
 ·rw [aR hb] at q;by_cases hbe:b=e
  ·have q':H b=some (.own x):=by
    rcases he with z|z
    ·exact absurd (hbe.trans z) hb
    ·rw [hbe];exact z
   rw [q] at q';cases q';obtain ⟨v,hv⟩:=heo;exact ⟨v,by rw [hbe];exact hv⟩
  ·refine (ok b u q).stay (fun c v hc r=>k c v ?_ r) (fun c r=>by rw [aR (nown c b r)];exact r) fun c xs r=>by rw [aR (ntup c xs r)];exact r
   rcases hc with rfl|hc
   ·exact hbe
   ·rintro rfl;rcases he with z|z
    ·exact nown c b hc z
    ·rw [hc] at z;cases z;exact hb rfl
end
structure Un (fs ex:List Addr) (H H':Hp) (h h':Heap):Prop where
 keep:∀b o,h.get? b=some o->H b=none->b∉fs->b∉ex->h'.get? b=some o
 slot:∀b o,h.get? b=some o->H b=none->b∈fs->b∉ex->∃sl,h'.get? b=some {o with slots:=sl}
 free:∀b o,h.get? b=some o->H b=none->b∉ex->H' b=none
 there:∀b o,h.get? b=some o->b∉ex->∃o',h'.get? b=some o'
 tups:∀b xs,H b=some (.tup xs)->H' b=some (.tup xs)
 frzs:∀b o u,H b=some (.frz o u)->H' b=some (.frz o u)
 tbls:∀b ps,H b=some (.tbl ps)->∃more,H' b=some (.tbl (ps++more))
section
variable {fs ex:List Addr} {H H1:Hp} {h h1 h':Heap} {a x e:Addr} {o:HO}
theorem Un.any (u:Un fs ex H H1 h h1) {b:Addr} {ob:Obj} (q:h.get? b=some ob) (n:H b=none) (hx:b∉ex):∃sl,h1.get? b=some {ob with slots:=sl}:=by
 by_cases hb:b∈fs
 ·exact u.slot b ob q n hb hx
 ·exact ⟨ob.slots,u.keep b ob q n hb hx⟩
theorem Un.kept (k:∀b u,h.get? b=some u->h'.get? b=some u):Un fs ex H H h h':=
 ⟨fun b ob q _ _ _=>k b ob q,fun b ob q _ _ _=>⟨ob.slots,k b ob q⟩,fun _ _ _ n _=>n,fun b ob q _=>⟨ob,k b ob q⟩,fun _ _ q=>q,fun _ _ _ q=>q,fun _ ps q=>⟨#[],by rw [q];simp⟩⟩
theorem Un.refl:Un fs ex H H h h:=Un.kept fun _ _ q=>q
theorem Un.laid (k:∀b u,h.get? b=some u->h'.get? b=some u) (hp:h.objs.size<=a) (hn:H a=none):Un fs ex H (upd H a o) h h' where
 keep:=fun b u q _ _ _=>k b u q
 slot:=fun b u q _ _ _=>⟨u.slots,k b u q⟩
 free:=fun b u q n _=>by rw [aR (Nat.ne_of_lt (Nat.lt_of_lt_of_le (Heap.lt_size q) hp))];exact n
 there:=fun b u q _=>⟨u,k b u q⟩
 tups:=fun b xs q=>by rw [aR (bQ q hn)];exact q
 frzs:=fun b u xs q=>by rw [aR (bQ q hn)];exact q
 tbls:=fun b ps q=>⟨#[],by rw [aR (bQ q hn),q];simp⟩
theorem Un.write (mu:Mut (H x)) (he:e=x\/H e=some (.own x)) (k:∀b u,b≠e->h.get? b=some u->h'.get? b=some u) (heo:∃u,h'.get? e=some u):Un fs ex H (upd H x o) h h':=by
 have hx:∀b,H b=none->b≠x:=fun b n z=>by subst z;rw [n] at mu;exact mu
 have hb:∀b,H b=none->b≠e:=fun b n z=>by
  subst z;rcases he with r|r
  ·exact hx b n r
  ·rw [n] at r;cases r
 have hm:∀b u,H b=some u->¬Mut (some u)->b≠x:=fun b u q nm z=>by subst z;rw [q] at mu;exact nm mu
 refine ⟨fun b u q n _ _=>k b u (hb b n) q,fun b u q n _ _=>⟨u.slots,k b u (hb b n) q⟩,fun b u q n _=>by rw [aR (hx b n)];exact n,fun b u q _=>?_,
  fun b xs q=>by rw [aR (hm b _ q fun z=>z)];exact q,fun b u xs q=>by rw [aR (hm b _ q fun z=>z)];exact q,fun b ps q=>⟨#[],by rw [aR (hm b _ q fun z=>z),q];simp⟩⟩
 by_cases hbe:b=e
 ·subst hbe;exact heo
 ·exact ⟨u,k b u hbe q⟩
end
noncomputable def trk (h:Heap) (H:Hp):List Addr:=(List.range h.objs.size).filter fun a=>(H a).isSome
def RP (h:Heap) (H:Hp):Heap:=PySem.W.hideAll h (trk h H)
theorem J_ (h:Heap) (H:Hp):(RP h H).objs.size=h.objs.size:=PySem.W.hideAll_size _ _
theorem RQ {h:Heap} {H:Hp} {b:Addr} {o:Obj} (e:h.get? b=some o) (n:H b=none):(RP h H).get? b=some o:=
 PySem.W.hideAll_get _ e fun hm=>by
  have q:(H b).isSome=true:=(List.mem_filter.mp hm).2;rw [n] at q;simp at q
theorem YB {h:Heap} {H:Hp} {b:Addr} {o:Obj} (e:(RP h H).get? b=some o):h.get? b=some o/\H b=none:=by
 have e':h.get? b=some o:=PySem.W.of_hideAll (trk h H) e;refine ⟨e',?_⟩;cases q:H b with
 | none=>rfl
 | some x=>
  have hm:b∈trk h H:=List.mem_filter.mpr ⟨List.mem_range.mpr (Heap.lt_size e'),by simp [q]⟩;have z:(RP h H).get? b=none:=PySem.W.hideAll_none (trk h H) hm;rw [z] at e;cases e
structure Mod (K:PySem.W.Frag) (mg:Str->Option Value) (base:Heap):Prop where
 kin:K.In base
 glob:base.Ns mainGlobals mg
 blt:∃mb,base.Ns builtinsNs mb/\∀x:Str,x ≠ "__name__"->mb x=bootBuiltins x
 nolimit:base.NoLimit
/-- the context: a def's body (or a comprehension's block) running. base: fixed through the whole law; s₀, H₀: the entry; outer: the frames whose slots others may change (a def's callers); stack: all frames that run;
   ex: iterators that were made ahead of the entry and are walked here (a comprehension's); fn: the names whose cells were made at the entry (a def: all; a comprehension's block: its own); calm: not within an except suite; pn: pins that every state bears; xe: what is wanted of an exception that leaves the code -/
structure Cx where
 prog:Program
 w:World
 K:PySem.W.Frag
 mg:Str->Option Value
 base:Heap
 A:Around
 N:List Str
 s₀:Shared
 H₀:Hp
 env:Env
 outer:List Env
 stack:List Env
 ex:List Addr
 fn:Str->Bool
 calm:Bool
 pn:List (Addr×Obj)
 xe:Value->Shared->Prop
noncomputable def frs (l:List Env):List Addr:=l.filterMap (·.frame)
abbrev Cx.fs (X:Cx):List Addr:=frs X.outer
def Vis (sc:Scope) (x:Str):Prop:=sc.names.lookup x=some .local\/sc.names.lookup x=some .cell\/sc.names.lookup x=some .free
def Loc (sc:Scope) (x:Str):Prop:=sc.names.lookup x=some .local\/sc.names.lookup x=some .cell
def Look (env:Env) (h:Heap) (m:Str->Option Value) (x:Str) (u:Value):Prop:=
 (env.kindOf x=some .local/\m x=some u)\/((env.kindOf x=some .cell\/env.kindOf x=some .free)/\∃c,env.cells.lookup x=some c/\h.IsCell c (some u))
structure Cx.Ok (X:Cx):Prop where
 mod:Mod X.K X.mg X.base
 kind:X.env.scope.kind=.function
 glob:X.env.globals=mainGlobals
 blt:X.env.builtins=builtinsNs
 above:X.s₀.heap.objs.size<=X.env.locals
 inj:∀x y c,X.env.cells.lookup x=some c->X.env.cells.lookup y=some c->x=y
 has:∀x,(X.env.kindOf x=some .cell\/X.env.kindOf x=some .free)->∃c,X.env.cells.lookup x=some c
 cab:∀x c,X.fn x=true->X.env.cells.lookup x=some c->X.s₀.heap.objs.size<=c
 hd:X.calm=true->X.A.handled=none
 frames:X.A.frames=some X.stack
 stk:X.stack=X.outer\/(X.stack=X.env::X.outer/\X.env.frame=some X.env.locals)
 exf:∀b∈X.ex,b≠X.env.locals/\∀x c,X.env.cells.lookup x=some c->c≠b
 bs:∀b o,X.base.get? b=some o->X.s₀.heap.get? b=some o/\X.H₀ b=none
 bsz:X.base.objs.size<=X.s₀.heap.objs.size
 noex:∀b o,X.base.get? b=some o->b∉X.ex
 exfs:∀b∈X.ex,b∉X.fs
 HJ:X.s₀.heap.FunFrames X.base X.outer
 frf:∀b∈X.fs,X.H₀ b=none
structure Inv (X:Cx) (pins:List (Addr×Obj)) (σ:List (Option V)) (H:Hp) (s:Shared):Prop where
 ok:X.Ok
 os:s.os=X.s₀.os
 bare:AllBare s.gens
 base:Un X.fs X.ex X.H₀ H X.s₀.heap s.heap
 loc:∃m,s.heap.Ns X.env.locals m/\∀(i:Nat) (x:Str) (v:V),X.N[i]?=some x->σ[i]?=some (some v)->Vis X.env.scope x->∃u,RelV v u/\Look X.env s.heap m x u
 cell:∀x c,X.env.cells.lookup x=some c->∃v,s.heap.IsCell c v
 free:H X.env.locals=none
 freeC:∀x c,X.env.cells.lookup x=some c->H c=none
 pin:∀p∈X.pn++pins,s.heap.get? p.1=some p.2/\H p.1=none/\p.1≠X.env.locals/\p.1∉X.fs/\∀v,p.2.data≠.cell v
 hok:HOk X.prog X.w H s.heap
 len:σ.length=X.N.length
section
variable {X:Cx} {pins:List (Addr×Obj)} {σ:List (Option V)} {H H':Hp} {s:Shared} {h':Heap}
theorem Cx.Ok.aG8 (ok:X.Ok) {b:Addr} {o:Obj} (e:X.base.get? b=some o):b∉X.fs:=fun hb=>by
 have:=(ok.HJ.mem hb).1;rw [e] at this;cases this
theorem Inv.bs (I:Inv X pins σ H s):∀b o,X.base.get? b=some o->s.heap.get? b=some o/\H b=none:=fun b o e=>
 ⟨I.base.keep b o (I.ok.bs b o e).1 (I.ok.bs b o e).2 (I.ok.aG8 e) (I.ok.noex b o e),I.base.free b o (I.ok.bs b o e).1 (I.ok.bs b o e).2 (I.ok.noex b o e)⟩
theorem Inv.bk (I:Inv X pins σ H s):∀b o,X.base.get? b=some o->s.heap.get? b=some o:=fun b o e=>(I.bs b o e).1
theorem Inv.mod (I:Inv X pins σ H s):Mod X.K X.mg X.base:=I.ok.mod
theorem Inv.kIn (I:Inv X pins σ H s):X.K.In s.heap:=I.ok.mod.kin.keeps I.bk
theorem Inv.lt (I:Inv X pins σ H s):X.env.locals<s.heap.objs.size:=let ⟨_,hn,_⟩:=I.loc;hn.lt
theorem Inv.sz (I:Inv X pins σ H s):X.s₀.heap.objs.size<=s.heap.objs.size:=Nat.le_trans I.ok.above (Nat.le_of_lt I.lt)
theorem Inv.aFs (I:Inv X pins σ H s) {a:Addr} (h:s.heap.objs.size<=a):a∉X.fs:=fun hb=>by
 obtain ⟨_,o,ho,_⟩:=I.ok.HJ.mem hb;exact absurd (Nat.lt_of_lt_of_le (Heap.lt_size ho) (Nat.le_trans I.sz h)) (Nat.lt_irrefl _)
theorem Inv.cne (I:Inv X pins σ H s):∀x c,X.env.cells.lookup x=some c->c≠X.env.locals:=fun x c e z=>by
 obtain ⟨v,o,ho,hd⟩:=I.cell x c e;obtain ⟨m,⟨o',es,ep,ho',hd',_⟩,_⟩:=I.loc;rw [z,ho'] at ho;cases ho;rw [hd'] at hd;cases hd
theorem Inv.HJ (I:Inv X pins σ H s):s.heap.FunFrames X.base X.outer:=by
 have all:∀(l:List Env),(∀b∈frs l,b∈X.fs)->X.s₀.heap.FunFrames X.base l->s.heap.FunFrames X.base l:=by
  intro l;induction l with
  | nil=>intro _ _;trivial
  | cons env r ih=>
   intro hs hl;obtain ⟨hk,⟨L,o,hf,hn,ho,hd⟩,hr⟩:=hl;have hL:L∈X.fs:=hs L (by unfold frs;rw [List.filterMap_cons,hf];exact List.mem_cons_self);obtain ⟨sl,e⟩:=I.base.slot L o ho (I.ok.frf L hL) hL fun z=>I.ok.exfs L z hL
   exact ⟨hk,⟨L,_,hf,hn,e,hd⟩,ih (fun b hb=>hs b (by unfold frs;rw [List.filterMap_cons,hf];exact List.mem_cons_of_mem _ hb)) hr⟩
 exact all X.outer (fun _ hb=>hb) I.ok.HJ
theorem Inv.stack (I:Inv X pins σ H s):s.heap.FunFrames X.base X.stack:=by
 rcases I.ok.stk with e|⟨e,hf⟩
 ·rw [e];exact I.HJ
 ·rw [e];obtain ⟨m,hn,_⟩:=I.loc;refine .cons (by rw [I.ok.kind];decide) hf hn ?_ I.HJ;exact Heap.get?_none_of_le (Nat.le_trans I.ok.bsz I.ok.above)
theorem Inv.BW (I:Inv X pins σ H s):∀b∈frs X.stack,b∈X.env.locals::X.fs:=fun b hb=>by
 rcases I.ok.stk with e|⟨e,hf⟩
 ·rw [e] at hb;exact List.mem_cons_of_mem _ hb
 ·rw [e] at hb;unfold frs at hb;rw [List.filterMap_cons,hf] at hb;exact hb
theorem Inv.zB (I:Inv X pins σ H s):∀b∈frs X.stack,H b=none:=fun b hb=>by
 rcases List.mem_cons.mp (I.BW b hb) with e|hb
 ·rw [e];exact I.free
 ·obtain ⟨_,o,ho,_⟩:=I.ok.HJ.mem hb;exact I.base.free b o ho (I.ok.frf b hb) fun z=>I.ok.exfs b z hb
theorem Inv.step {g':Array GenState} {t':Nat} {d':Drawn} {ch:List Addr} (I:Inv X pins σ H s)
  (hch:∀b∈ch,(b∈X.ex\/X.s₀.heap.objs.size<=b)/\b≠X.env.locals/\(∀x c,X.env.cells.lookup x=some c->c≠b)/\∀p∈X.pn++pins,p.1≠b)
  (keep:∀b o,b≠X.env.locals->b∉X.fs->b∉ch->s.heap.get? b=some o->H b=none->h'.get? b=some o)
  (slot:∀b o,b≠X.env.locals->b∈X.fs->b∉ch->s.heap.get? b=some o->H b=none->∃sl,h'.get? b=some {o with slots:=sl}) (free:∀b o,b∉ch->s.heap.get? b=some o->H b=none->H' b=none)
  (there:∀b o,b∉ch->s.heap.get? b=some o->∃o',h'.get? b=some o')
  (tups:∀b xs,H b=some (.tup xs)->H' b=some (.tup xs)) (frzs:∀b o u,H b=some (.frz o u)->H' b=some (.frz o u)) (tbls:∀b ps,H b=some (.tbl ps)->∃more,H' b=some (.tbl (ps++more)))
  (ns:∀m,s.heap.Ns X.env.locals m->h'.Ns X.env.locals m) (hok:HOk X.prog X.w H' h') (hg:AllBare g') :
  Inv X pins σ H' {s with heap:=h',gens:=g',drawn:=d',toks:=t'}:=by
 have neL:∀b o,X.s₀.heap.get? b=some o->b≠X.env.locals:=fun b o e=>Nat.ne_of_lt (Nat.lt_of_lt_of_le (Heap.lt_size e) I.ok.above)
 have neC:∀b o,X.s₀.heap.get? b=some o->b∉X.ex->b∉ch:=fun b o e hx hb=>by
  rcases (hch b hb).1 with z|z
  ·exact hx z
  ·exact absurd (Nat.lt_of_lt_of_le (Heap.lt_size e) z) (Nat.lt_irrefl _)
 have cellK:∀x c,X.env.cells.lookup x=some c->∀v,s.heap.IsCell c v->h'.IsCell c v:=fun x c e v ⟨o,ho,hd⟩=>by
  have nch:c∉ch:=fun z=>(hch c z).2.2.1 x c e rfl
  by_cases hc:c∈X.fs
  ·obtain ⟨sl,q⟩:=slot c o (I.cne x c e) hc nch ho (I.freeC x c e);exact ⟨_,q,hd⟩
  ·exact ⟨o,keep c o (I.cne x c e) hc nch ho (I.freeC x c e),hd⟩
 refine ⟨I.ok,I.os,hg,⟨fun b o e n hb hx=>?_,fun b o e n hb hx=>?_,fun b o e n hx=>?_,fun b o e hx=>?_,fun b xs e=>tups b xs (I.base.tups b xs e),fun b o xs e=>frzs b o xs (I.base.frzs b o xs e),fun b ps e=>?_⟩,?_,fun x c e=>?_,?_,fun x c e=>?_,fun p hp=>?_,hok,I.len⟩
 ·exact keep b o (neL b o e) hb (neC b o e hx) (I.base.keep b o e n hb hx) (I.base.free b o e n hx)
 ·obtain ⟨sl,e1⟩:=I.base.slot b o e n hb hx;obtain ⟨sl',e2⟩:=slot b _ (neL b o e) hb (neC b o e hx) e1 (I.base.free b o e n hx);exact ⟨sl',e2⟩
 ·obtain ⟨o',e1⟩:=I.base.there b o e hx;exact free b o' (neC b o e hx) e1 (I.base.free b o e n hx)
 ·obtain ⟨o',e1⟩:=I.base.there b o e hx;exact there b o' (neC b o e hx) e1
 ·obtain ⟨m1,e1⟩:=I.base.tbls b ps e;obtain ⟨m2,e2⟩:=tbls b _ e1;exact ⟨m1++m2,by rw [e2,Array.append_assoc]⟩
 ·obtain ⟨m,hn,hl⟩:=I.loc;refine ⟨m,ns m hn,fun i x v e1 e2 e3=>?_⟩;obtain ⟨u,r,l⟩:=hl i x v e1 e2 e3;refine ⟨u,r,?_⟩;rcases l with l|⟨k,c,e,z⟩
  ·exact .inl l
  ·exact .inr ⟨k,c,e,cellK x c e _ z⟩
 ·obtain ⟨v,z⟩:=I.cell x c e;exact ⟨v,cellK x c e v z⟩
 ·obtain ⟨m,⟨o,_,_,ho,_⟩,_⟩:=I.loc;exact free _ o (fun z=>(hch _ z).2.1 rfl) ho I.free
 ·obtain ⟨v,o,ho,hd⟩:=I.cell x c e;exact free c o (fun z=>(hch c z).2.2.1 x c e rfl) ho (I.freeC x c e)
 ·obtain ⟨e,n,ne,nf,d⟩:=I.pin p hp;have nch:p.1∉ch:=fun z=>(hch p.1 z).2.2.2 p hp rfl
  exact ⟨keep p.1 p.2 ne nf nch e n,free p.1 p.2 nch e n,ne,nf,d⟩
theorem Inv.un {t':Nat} (I:Inv X pins σ H s) (u:Un X.fs [] H H' s.heap h') (hok:HOk X.prog X.w H' h'):Inv X pins σ H' {s with heap:=h',toks:=t'}:=by
 obtain ⟨m,⟨o,es,ep,ho,r⟩,_⟩:=id I.loc;obtain ⟨sl,hL⟩:=u.any ho I.free (by simp);exact I.step (g':=s.gens) (d':=s.drawn) (ch:=[]) (fun _ z=>nomatch z) (fun b o _ hb _ e n=>u.keep b o e n hb (by simp)) (fun b o _ hb _ e n=>u.slot b o e n hb (by simp)) (fun b o _ e n=>u.free b o e n (by simp)) (fun b o _ e=>u.there b o e (by simp)) u.tups u.frzs u.tbls (fun m' hm=>by
  obtain ⟨o',es',ep',ho',r'⟩:=hm;rw [ho] at ho';cases ho';exact ⟨_,es',ep',hL,r'⟩) hok I.bare
theorem Inv.call {g':Array GenState} {t':Nat} {d':Drawn} {ch:List Addr} (I:Inv X pins σ H s) (u:Un (frs X.stack) ch H H' s.heap h') (hok:HOk X.prog X.w H' h') (hg:AllBare g')
  (hch:∀b∈ch,(b∈X.ex\/X.s₀.heap.objs.size<=b)/\b≠X.env.locals/\(∀x c,X.env.cells.lookup x=some c->c≠b)/\∀p∈X.pn++pins,p.1≠b) :
  Inv X pins σ H' {s with heap:=h',gens:=g',drawn:=d',toks:=t'}:=by
 obtain ⟨m,⟨o,es,ep,ho,r⟩,_⟩:=id I.loc;obtain ⟨sl,hL⟩:=u.any ho I.free fun z=>(hch _ z).2.1 rfl
 exact I.step (ch:=ch) hch (fun b o hL hb hc e n=>u.keep b o e n (fun z=>(List.mem_cons.mp (I.BW b z)).elim hL hb) hc) (fun b o _ _ hc e n=>u.any e n hc) (fun b o hc e n=>u.free b o e n hc) (fun b o hc e=>u.there b o e hc) u.tups u.frzs u.tbls (fun m' hm=>by
  obtain ⟨o',es',ep',ho',r'⟩:=hm;rw [ho] at ho';cases ho';exact ⟨_,es',ep',hL,r'⟩) hok hg
theorem Inv.turned {t':Nat} {it:Addr} (I:Inv X pins σ H s) (k:∀b o,b≠it->s.heap.get? b=some o->h'.get? b=some o) (hn:H it=none) (hL:it≠X.env.locals)
  (h1:it∈X.ex\/X.s₀.heap.objs.size<=it) (h2:∀x c,X.env.cells.lookup x=some c->c≠it) (h3:∀p∈X.pn++pins,p.1≠it):Inv X pins σ H {s with heap:=h',toks:=t'}:=by
 have nit:∀b u,H b=some u->b≠it:=fun b u e z=>by rw [z,hn] at e;cases e
 refine I.step (g':=s.gens) (d':=s.drawn) (ch:=[it]) (fun b hb=>?_) (fun b o _ _ hc e _=>k b o (fun z=>hc (by simp [z])) e) (fun b o _ _ hc e _=>⟨o.slots,k b o (fun z=>hc (by simp [z])) e⟩) (fun _ _ _ _ n=>n)
  (fun b o hc e=>⟨o,k b o (fun z=>hc (by simp [z])) e⟩) (fun _ _ e=>e) (fun _ _ _ e=>e) (fun b ps e=>⟨#[],by rw [e];simp⟩) (fun m hm=>?_) (fun b u e=>?_) I.bare
 ·have e:b=it:=by simpa using hb
  subst e;exact ⟨h1,hL,h2,h3⟩
 ·obtain ⟨o,es,ep,ho,r⟩:=hm;exact ⟨o,es,ep,k _ o (Ne.symm hL) ho,r⟩
 ·refine (I.hok b u e).stay (fun c v hc q=>k c v ?_ q) (fun _ q=>q) fun _ _ q=>q
  rcases hc with z|z
  ·rw [z];exact nit b u e
  ·exact nit c _ z
theorem Inv.tok (I:Inv X pins σ H s) (t:Nat):Inv X pins σ H {s with toks:=t}:=I.un (h':=s.heap) (t':=t) Un.refl I.hok
theorem Inv.kept {t':Nat} (I:Inv X pins σ H s) (k:∀b u,s.heap.get? b=some u->h'.get? b=some u):Inv X pins σ H {s with heap:=h',toks:=t'}:=I.un (Un.kept k) (I.hok.kept k)
theorem Inv.laid {a:Addr} {o:HO} {t':Nat} (I:Inv X pins σ H s) (k:∀b u,s.heap.get? b=some u->h'.get? b=some u) (hp:s.heap.objs.size<=a) (new:fB X.prog X.w (upd H a o) h' a o) :
  Inv X pins σ (upd H a o) {s with heap:=h',toks:=t'}:=I.un (Un.laid k hp (I.hok.fresh hp)) (I.hok.laid k hp new)
theorem Inv.write {x e:Addr} {o:HO} {t':Nat} (I:Inv X pins σ H s) (mu:Mut (H x)) (he:e=x\/H e=some (.own x)) (k:∀b u,b≠e->s.heap.get? b=some u->h'.get? b=some u) (heo:∃u,h'.get? e=some u)
  (new:fB X.prog X.w (upd H x o) h' x o):Inv X pins σ (upd H x o) {s with heap:=h',toks:=t'}:=I.un (Un.write mu he k heo) (I.hok.write mu he k heo new)
theorem Inv.weak {σ':List (Option V)} (I:Inv X pins σ H s) (hl:σ'.length=σ.length) (w:∀(i:Nat) v,σ'[i]?=some (some v)->σ[i]?=some (some v)):Inv X pins σ' H s:=
 ⟨I.ok,I.os,I.bare,I.base,let ⟨m,hn,hl'⟩:=I.loc;⟨m,hn,fun i x v e1 e2 e3=>hl' i x v e1 (w i v e2) e3⟩,I.cell,I.free,I.freeC,I.pin,I.hok,hl.trans I.len⟩
theorem Inv.KD {pins':List (Addr×Obj)} (I:Inv X pins σ H s) (h:∀p∈pins',s.heap.get? p.1=some p.2/\H p.1=none/\p.1≠X.env.locals/\p.1∉X.fs/\∀v,p.2.data≠.cell v):Inv X pins' σ H s:=
 ⟨I.ok,I.os,I.bare,I.base,I.loc,I.cell,I.free,I.freeC,fun p hp=>(List.mem_append.mp hp).elim (fun z=>I.pin p (List.mem_append_left _ z)) (h p),I.hok,I.len⟩
theorem vI {N:List Str} (hN:N.Nodup) {i j:Nat} {x:Str} (a:N[i]?=some x) (b:N[j]?=some x):i=j:=by
 obtain ⟨h1,e1⟩:=List.getElem?_eq_some_iff.mp a;obtain ⟨h2,e2⟩:=List.getElem?_eq_some_iff.mp b;exact (List.getElem_inj hN).mp (e1.trans e2.symm)
theorem wR {M:Model} {A:Around} {E:Value->Shared->Prop} {i:Nat} {x:Str} {v:V} {u:Value} {Q:Unit->Shared->Prop} (I:Inv X pins σ H s) (hN:X.N.Nodup) (hi:X.N[i]?=some x) (hx:Loc X.env.scope x) (r:RelV v u)
  (h:∀s',Inv X pins (σ.set i (some v)) H s'->(∃a,Heap.SameBut a s.heap s'.heap/\(a=X.env.locals\/X.env.cells.lookup x=some a))->Q () s') (hf:X.fn x=true\/X.env.scope.names.lookup x=some .local:=by first|exact .inl rfl|exact .inr rfl|assumption):wpAny M A (storeName X.env x u) Q E s:=by
 obtain ⟨m,hn,hl⟩:=id I.loc;have hcls:(X.env.scope.kind==.class||(X.env.scope.kind==.module&&X.env.locals != X.env.globals))=false:=by rw [I.ok.kind];rfl
 have hiσ:i<σ.length:=by rw [I.len];exact (List.getElem?_eq_some_iff.mp hi).1
 have cne:=I.cne;have tracked:∀{a:Addr} {h':Heap},(∃o,s.heap.get? a=some o/\H a=none)->Heap.SameBut a s.heap h'->HOk X.prog X.w H h':=fun {a h'} ha hs b ob e=>by
  obtain ⟨_,_,hfree⟩:=ha;refine (I.hok b ob e).stay (fun c w' hc q=>(hs.2 c ?_).trans q) (fun _ q=>q) fun _ _ q=>q
  rintro rfl;rcases hc with rfl|hc
  ·rw [hfree] at e;cases e
  ·rw [hfree] at hc;cases hc
 rcases hx with hk|hk
 ·refine wpAny_storeName_local hk hn (fun h' hn' hs=>?_) hcls;obtain ⟨oL,_,_,hoL,_⟩:=id hn;refine h _ ⟨I.ok,I.os,I.bare,⟨fun b o e n hb hx=>?_,fun b o e n hb hx=>?_,I.base.free,fun b o e hx=>?_,I.base.tups,I.base.frzs,I.base.tbls⟩,⟨_,hn',fun j y v' e1 e2 e3=>?_⟩,fun y c e=>?_,I.free,I.freeC,fun p hp=>?_,tracked ⟨oL,hoL,I.free⟩ hs,by simpa using I.len⟩ ⟨_,hs,.inl rfl⟩
  ·exact (hs.2 b (Nat.ne_of_lt (Nat.lt_of_lt_of_le (Heap.lt_size e) I.ok.above))).trans (I.base.keep b o e n hb hx)
  ·obtain ⟨sl,e1⟩:=I.base.slot b o e n hb hx;exact ⟨sl,(hs.2 b (Nat.ne_of_lt (Nat.lt_of_lt_of_le (Heap.lt_size e) I.ok.above))).trans e1⟩
  ·obtain ⟨o',e1⟩:=I.base.there b o e hx;exact ⟨o',(hs.2 b (Nat.ne_of_lt (Nat.lt_of_lt_of_le (Heap.lt_size e) I.ok.above))).trans e1⟩
  ·by_cases hj:j=i
   ·subst hj;rw [hi] at e1;cases e1;rw [List.getElem?_set_self hiσ] at e2;cases e2;exact ⟨u,r,.inl ⟨hk,by simp⟩⟩
   ·rw [List.getElem?_set_ne (Ne.symm hj)] at e2;obtain ⟨u',r',q⟩:=hl j y v' e1 e2 e3;refine ⟨u',r',?_⟩;rcases q with ⟨k,e⟩|⟨k,c,e,z⟩
    ·refine .inl ⟨k,?_⟩;have:y≠x:=fun e=>hj (vI hN e1 (e▸hi))
     simp [this,e]
    ·exact .inr ⟨k,c,e,z.sameBut hs (cne y c e)⟩
  ·obtain ⟨w',z⟩:=I.cell y c e;exact ⟨w',z.sameBut hs (cne y c e)⟩
  ·obtain ⟨e,n,ne,nf,d⟩:=I.pin p hp;exact ⟨(hs.2 p.1 ne).trans e,n,ne,nf,d⟩
 ·have hfn:X.fn x=true:=by
   rcases hf with z|z
   ·exact z
   ·rw [z] at hk;cases hk
  obtain ⟨c,hc⟩:=I.ok.has x (.inl hk);obtain ⟨w',z⟩:=I.cell x c hc;refine wpAny_storeName_cell I.ok.kind hk hc z (fun h' hc' hs=>?_);obtain ⟨oc,hoc,hocd⟩:=id z;refine h {s with heap:=h'} ⟨I.ok,I.os,I.bare,⟨fun b o e n hb hx=>?_,fun b o e n hb hx=>?_,I.base.free,fun b o e hx=>?_,I.base.tups,I.base.frzs,I.base.tbls⟩,⟨m,hn.sameBut hs (Ne.symm (cne x c hc)),fun j y v' e1 e2 e3=>?_⟩,fun y c' e=>?_,I.free,I.freeC,fun p hp=>?_,tracked ⟨oc,hoc,I.freeC x c hc⟩ hs,by simpa using I.len⟩ ⟨c,hs,.inr hc⟩
  ·exact (hs.2 b (Nat.ne_of_lt (Nat.lt_of_lt_of_le (Heap.lt_size e) (I.ok.cab x c hfn hc)))).trans (I.base.keep b o e n hb hx)
  ·obtain ⟨sl,e1⟩:=I.base.slot b o e n hb hx;exact ⟨sl,(hs.2 b (Nat.ne_of_lt (Nat.lt_of_lt_of_le (Heap.lt_size e) (I.ok.cab x c hfn hc)))).trans e1⟩
  ·obtain ⟨o',e1⟩:=I.base.there b o e hx;exact ⟨o',(hs.2 b (Nat.ne_of_lt (Nat.lt_of_lt_of_le (Heap.lt_size e) (I.ok.cab x c hfn hc)))).trans e1⟩
  ·by_cases hj:j=i
   ·subst hj;rw [hi] at e1;cases e1;rw [List.getElem?_set_self hiσ] at e2;cases e2;exact ⟨u,r,.inr ⟨.inl hk,c,hc,hc'⟩⟩
   ·rw [List.getElem?_set_ne (Ne.symm hj)] at e2;obtain ⟨u',r',q⟩:=hl j y v' e1 e2 e3;refine ⟨u',r',?_⟩;rcases q with q|⟨k,c',e,z'⟩
    ·exact .inl q
    ·refine .inr ⟨k,c',e,z'.sameBut hs ?_⟩;rintro rfl;exact hj (vI hN e1 (I.ok.inj _ _ _ e hc▸hi))
  ·by_cases hcc:c'=c
   ·subst hcc;exact ⟨_,hc'⟩
   ·obtain ⟨w2,z2⟩:=I.cell y c' e;exact ⟨w2,z2.sameBut hs hcc⟩
  ·obtain ⟨e,n,ne,nf,d⟩:=I.pin p hp;refine ⟨(hs.2 p.1 ?_).trans e,n,ne,nf,d⟩;intro q;rw [q,hoc] at e;have q':oc=p.2:=Option.some.inj e;exact d w' (by rw [<-q'];exact hocd)
theorem BX {M:Model} {A:Around} {E:Value->Shared->Prop} {i:Nat} {x:Str} {v:V} {u:Value} {Q:Unit->Shared->Prop} (I:Inv X pins σ H s) (hN:X.N.Nodup) (hi:X.N[i]?=some x) (hx:Loc X.env.scope x) (r:RelV v u)
  (h:∀s',Inv X pins (σ.set i (some v)) H s'->Q () s') (hf:X.fn x=true\/X.env.scope.names.lookup x=some .local:=by first|exact .inl rfl|exact .inr rfl|assumption):wpAny M A (storeName X.env x u) Q E s:=
 wR I hN hi hx r (fun s' I' _=>h s' I') hf
theorem Inv.call' {s':Shared} {ch:List Addr} (I:Inv X pins σ H s) (ho:s'.os=s.os) (u:Un (frs X.stack) ch H H' s.heap s'.heap) (hok:HOk X.prog X.w H' s'.heap) (hg:AllBare s'.gens)
  (hch:∀b∈ch,(b∈X.ex\/X.s₀.heap.objs.size<=b)/\b≠X.env.locals/\(∀x c,X.env.cells.lookup x=some c->c≠b)/\∀p∈X.pn++pins,p.1≠b):Inv X pins σ H' s':=by
 obtain ⟨h',g',d',t',o'⟩:=s';have e:o'=s.os:=ho;subst e;exact I.call (g':=g') (t':=t') (d':=d') u hok hg hch
end
abbrev XK:=Value->Option Addr->Hp->Prop
noncomputable abbrev St:=List (Option V)
abbrev VK:=V->Hp->Prop
abbrev TE:=St->Hp->VK->Prop
abbrev TT:=St->Hp->(Bool->Hp->Prop)->Prop
abbrev TA:=St->Hp->(List V->Hp->Prop)->Prop
structure Ends where
 nx:St->Hp->Prop
 rt:VK
 bk:St->Hp->Prop:=fun _ _=>False
 ct:St->Hp->Prop:=fun _ _=>False
abbrev TS:=Ends->St->Hp->Prop
def EP (X:Cx) (pins:List (Addr×Obj)) (σ:St) (Q:VK) (u:Value) (s':Shared):Prop:=∃v H',Inv X pins σ H' s'/\RelV v u/\Q v H'
def TP (X:Cx) (pins:List (Addr×Obj)) (σ:St) (Q:Bool->Hp->Prop) (b:Bool) (s':Shared):Prop:=∃H',Inv X pins σ H' s'/\Q b H'
def AP (X:Cx) (pins:List (Addr×Obj)) (σ:St) (Q:List V->Hp->Prop) (us:List Value) (s':Shared):Prop:=∃vs H',Inv X pins σ H' s'/\Vals vs us/\Q vs H'
def SP (X:Cx) (pins:List (Addr×Obj)) (D:Ends) (f:Flow) (s':Shared):Prop:=
 match f with
 | .next=>∃σ' H',Inv X pins σ' H' s'/\D.nx σ' H'
 | .brk=>∃σ' H',Inv X pins σ' H' s'/\D.bk σ' H'
 | .cont=>∃σ' H',Inv X pins σ' H' s'/\D.ct σ' H'
 | .ret u=>∃v σ' H',Inv X pins σ' H' s'/\RelV v u/\D.rt v H'
def PE (X:Cx) (e:Expr) (t:TE):Prop:=
 ∀(pins:List (Addr×Obj)) (s:Shared) (σ:St) (H:Hp) (Q:VK),Inv X pins σ H s->t σ H Q->wpAny (model X.prog X.w) X.A (eval e X.env) (EP X pins σ Q) X.xe s
def PT (X:Cx) (e:Expr) (t:TT):Prop:=
 ∀(pins:List (Addr×Obj)) (s:Shared) (σ:St) (H:Hp) (Q:Bool->Hp->Prop),Inv X pins σ H s->t σ H Q->wpAny (model X.prog X.w) X.A (isTrue e X.env (eval e X.env)) (TP X pins σ Q) X.xe s
def PW (X:Cx) (e:Expr) (t:TT):Prop:=
 ∀(whole:Sem Value) (pins:List (Addr×Obj)) (s:Shared) (σ:St) (H:Hp) (Q:Bool->Hp->Prop),Inv X pins σ H s->t σ H Q->wpAny (model X.prog X.w) X.A (isTrue e X.env whole) (TP X pins σ Q) X.xe s
theorem PW.pt {X:Cx} {e:Expr} {t:TT} (h:PW X e t):PT X e t:=h _
def PA (X:Cx) (es:List Expr) (t:TA):Prop:=
 ∀(pos:Pos) (pins:List (Addr×Obj)) (s:Shared) (σ:St) (H:Hp) (Q:List V->Hp->Prop),Inv X pins σ H s->t σ H Q->wpAny (model X.prog X.w) X.A (spliced (backTo pos (starEach es X.env))) (AP X pins σ Q) X.xe s
def PS (X:Cx) (st:Stmt) (t:TS):Prop:=
 ∀(pins:List (Addr×Obj)) (s:Shared) (σ:St) (H:Hp) (D:Ends),Inv X pins σ H s->t D σ H->wpAny (model X.prog X.w) X.A (exec st X.env) (SP X pins D) X.xe s
def PSs (X:Cx) (st:List Stmt) (t:TS):Prop:=
 ∀(pins:List (Addr×Obj)) (s:Shared) (σ:St) (H:Hp) (D:Ends),Inv X pins σ H s->t D σ H->wpAny (model X.prog X.w) X.A (execs st X.env) (SP X pins D) X.xe s
theorem thn {α:Type} {t:Sem α} {Q Q':α->Shared->Prop} {M:Model} {A:Around} {E:Value->Shared->Prop} {s:Shared} (h:wpAny M A t Q E s) (hQ:∀a s,Q a s->Q' a s):wpAny M A t Q' E s:=wpAny_mono h hQ fun _ _ x=>x
section
variable {X:Cx}
noncomputable def aBk (i:Nat):TE:=fun σ H Q=>∃v,σ[i]?=some (some v)/\Q v H
noncomputable def tC (v:V):TE:=fun _ H Q=>Q v H
theorem fV {i:Nat} {x:Str} {pos:Pos} (hN:X.N[i]?=some x) (hv:Vis X.env.scope x) (hd:nDb x:=by decide) (hcd:nCd x:=by decide):PE X (.Name x pos) (aBk i):=by
 intro pins s σ H Q I h;obtain ⟨v,e,h⟩:=h;obtain ⟨m,hn,hl⟩:=I.loc;obtain ⟨u,r,l⟩:=hl i x v hN e hv;have fin:EP X pins σ Q u s:=⟨v,H,I,r,h⟩
 rcases l with ⟨hk,hm⟩|⟨hk,c,hc,hcell⟩
 ·exact wpAny_Name (wpAny_loadName_local I.ok.kind hk hn hm fin) hd
 ·rcases hk with hk|hk
  ·exact wpAny_Name (wpAny_loadName_cell I.ok.kind hk hc hcell fin) hd
  ·exact wpAny_Name (wpAny_loadName_free I.ok.kind hk hc hcell fin hcd) hd
theorem aBl {i j pos}:PE X (.Constant (.int i) j pos) (tC (.int i)):=fun _ _ _ H _ I h=>wpAny_Constant_int ⟨.int i,H,I.tok _,⟨_,rfl⟩,h⟩
theorem aEf {b j pos}:PE X (.Constant (.bool b) j pos) (tC (.bl b)):=fun _ _ _ H _ I h=>Constant_bool ⟨.bl b,H,I,rfl,h⟩
theorem aBm {j pos}:PE X (.Constant .none j pos) (tC .non):=fun _ _ _ H _ I h=>Constant_none ⟨.non,H,I,rfl,h⟩
theorem wU {x j pos}:PE X (.Constant (.str x) j pos) (tC (.str x)):=fun _ _ _ H _ I h=>Calls.Constant_str ⟨.str x,H,I.tok _,⟨_,rfl⟩,h⟩
def Gl (X:Cx) (x:Str):Prop:=X.env.kindOf x=some .globalImplicit
theorem lJ {E:Value->Shared->Prop} {pins:List (Addr×Obj)} {s:Shared} {σ:St} {H:Hp} {x:Str} {u:Value} {pos:Pos} {Q:Value->Shared->Prop} (I:Inv X pins σ H s) (hg:Gl X x) (hm:X.mg x=some u) (h:Q u s)
  (hd:nDb x:=by decide):wpAny (model X.prog X.w) X.A (eval (.Name x pos) X.env) Q E s:=
 Calls.Name_function_global I.ok.kind hg (Calls.loadGlobal_global (by rw [I.ok.glob];exact I.mod.glob.keeps I.bk) hm h) hd
theorem uR {E:Value->Shared->Prop} {pins:List (Addr×Obj)} {s:Shared} {σ:St} {H:Hp} {x:Str} {u:Value} {pos:Pos} {Q:Value->Shared->Prop} (I:Inv X pins σ H s) (hg:Gl X x) (hm:X.mg x=none) (hv:bootBuiltins x=some u) (h:Q u s)
  (hn:x ≠ "__name__":=by decide) (hd:nDb x:=by decide):wpAny (model X.prog X.w) X.A (eval (.Name x pos) X.env) Q E s:=by
 obtain ⟨mb,h1,h2⟩:=I.mod.blt;exact Calls.Name_function_global I.ok.kind hg (Calls.loadGlobal_builtin (by rw [I.ok.glob];exact I.mod.glob.keeps I.bk) hm (by rw [I.ok.blt];exact h1.keeps I.bk) ((h2 x hn).trans hv) h) hd
theorem d7 {x:Str} {v:V} {u:Value} {pos:Pos} (hg:Gl X x) (hm:X.mg x=some u) (r:RelV v u) (hd:nDb x:=by decide):PE X (.Name x pos) (tC v):=
 fun _ _ _ H _ I h=>lJ I hg hm ⟨v,H,I,r,h⟩ hd
theorem KH {x:Str} {v:V} {u:Value} {pos:Pos} (hg:Gl X x) (hm:X.mg x=none) (hv:bootBuiltins x=some u) (r:RelV v u) (hn:x ≠ "__name__":=by decide) (hd:nDb x:=by decide):PE X (.Name x pos) (tC v):=
 fun _ _ _ H _ I h=>uR I hg hm hv ⟨v,H,I,r,h⟩ hn hd
variable {a b:Expr} {ta tb:TE} {pos:Pos}
variable {tA tB':TT} {rest:List Expr}
noncomputable def aG9 (t u:TT):TT:=fun σ H Q=>t σ H fun c H1=>if c=true then u σ H1 Q else Q false H1
noncomputable def tOr (t u:TT):TT:=fun σ H Q=>t σ H fun c H1=>if c=true then Q true H1 else u σ H1 Q
noncomputable def aGa (t:TT):TT:=fun σ H Q=>t σ H fun c H1=>Q (!c) H1
theorem YC (ha:PT X a tA):PW X (.BoolOp .And [a] pos) tA:=by
 intro wh pins s σ H Q I h;refine isTrue_and (thn (ha pins s σ H Q I h) fun c s1 e=>?_);cases c with
 | true=>exact isTrue_and_nil e
 | false=>exact e
theorem aBn (ha:PT X a tA):PW X (.BoolOp .Or [a] pos) tA:=by
 intro wh pins s σ H Q I h;refine isTrue_or (thn (ha pins s σ H Q I h) fun c s1 e=>?_);cases c with
 | false=>exact isTrue_or_nil e
 | true=>exact e
theorem aBo (ha:PT X a tA) (hb:PW X (.BoolOp .And (b::rest) pos) tB'):PW X (.BoolOp .And (a::b::rest) pos) (aG9 tA tB'):=by
 intro wh pins s σ H Q I h;refine isTrue_and (thn (ha pins s σ H _ I h) fun c s1 ⟨H1,I1,q1⟩=>?_);cases c with
 | true=>exact hb wh pins s1 σ H1 Q I1 q1
 | false=>exact ⟨H1,I1,q1⟩
theorem aEg (ha:PT X a tA) (hb:PW X (.BoolOp .Or (b::rest) pos) tB'):PW X (.BoolOp .Or (a::b::rest) pos) (tOr tA tB'):=by
 intro wh pins s σ H Q I h;refine isTrue_or (thn (ha pins s σ H _ I h) fun c s1 ⟨H1,I1,q1⟩=>?_);cases c with
 | true=>exact ⟨H1,I1,q1⟩
 | false=>exact hb wh pins s1 σ H1 Q I1 q1
theorem aBp (ha:PT X a tA):PT X (.UnaryOp .Not a pos) (aGa tA):=by
 intro pins s σ H Q I h;exact isTrue_not (ha pins s σ H (fun c H1=>Q (!c) H1) I h)
noncomputable def aEh (ta tb:TE):TE:=fun σ H Q=>ta σ H fun x H1=>∃c,x=.bl c/\if c=true then tb σ H1 Q else Q (.bl false) H1
noncomputable def aEi (ta:TE):TE:=fun σ H Q=>ta σ H fun x H1=>∃c,x=.bl c/\Q (.bl (!c)) H1
theorem aBq {op} {t:TE} (h:PE X a t):PE X (.BoolOp op [a] pos) t:=fun pins s σ H Q I hw=>BoolOp_one (h pins s σ H Q I hw)
theorem aBr (ha:PE X a ta) (hb:PE X (.BoolOp .And (b::rest) pos) tb):PE X (.BoolOp .And (a::b::rest) pos) (aEh ta tb):=by
 intro pins s σ H Q I h;refine BoolOp_and (thn (ha pins s σ H _ I h) fun v s1 ⟨x,H1,I1,r1,q1⟩=>?_);obtain ⟨c,rfl,q1⟩:=q1;cases r1;refine wpAny_truthy_bool ?_;cases c with
 | true=>exact hb pins s1 σ H1 Q I1 q1
 | false=>exact ⟨.bl false,H1,I1,rfl,q1⟩
theorem aBs (ha:PE X a ta):PE X (.UnaryOp .Not a pos) (aEi ta):=by
 intro pins s σ H Q I h;refine UnaryOp_ (thn (ha pins s σ H _ I h) fun v s1 ⟨x,H1,I1,r1,q1⟩=>?_);obtain ⟨c,rfl,q1⟩:=q1;cases r1;exact not_of (wpAny_truthy_bool ⟨.bl (!c),H1,I1,rfl,q1⟩)
end
def SqL (K:PySem.W.Frag) (H:Hp) (a:Addr) (xs:List V):Prop:=
 Rd H a (.lst xs)\/
  ∃(o:Obj) (its:Array Value) (n:Nat),K.lookup a=some o/\o.cls=.type "list"/\o.dict=none/\o.data=.seq its n/\its.size<=sizeLine/\Vals xs its.toList
def SqT (K:PySem.W.Frag) (H:Hp) (a:Addr) (xs:List V):Prop:=
 Rd H a (.tup xs)\/
  ∃(o:Obj) (its:Array Value) (n:Nat),K.lookup a=some o/\o.cls=.type "tuple"/\o.data=.seq its n/\its.size<=sizeLine/\Vals xs its.toList
noncomputable def aGb:Value->Option V
 | .none=>some .non
 | .bool b=>some (.bl b)
 | .int i _=>some (.int i)
 | .str x _=>some (.str x)
 | .bytes b _=>some (.byt b)
 | .float b _=>some (.flt b)
 | .ref a=>some (.ref a)
 | .type n=>some (.ty n)
 | _=>none
theorem RelV.abs {x:V} {u:Value} (r:RelV x u):aGb u=some x:=by
 cases x with
 | non=>cases r;rfl
 | bl _=>cases r;rfl
 | int _=>obtain ⟨t,rfl⟩:=r;rfl
 | str _=>obtain ⟨t,rfl⟩:=r;rfl
 | byt _=>obtain ⟨t,rfl⟩:=r;rfl
 | flt _=>obtain ⟨t,rfl⟩:=r;rfl
 | ref _=>cases r;rfl
 | ty _=>cases r;rfl
theorem RelV.inj {x y:V} {u:Value} (r:RelV x u) (q:RelV y u):x=y:=Option.some.inj (r.abs.symm.trans q.abs)
theorem Vals.inj:∀{xs ys:List V} {us:List Value},Vals xs us->Vals ys us->xs=ys
 | _,_,_,.nil,.nil=>rfl
 | _,_,_,.cons r t,.cons r' t'=>by rw [r.inj r',Vals.inj t t']
section
variable {X:Cx} {pins:List (Addr×Obj)} {σ:St} {H:Hp} {s:Shared} {a:Addr} {xs ys:List V}
theorem SqL.of {K:PySem.W.Frag} (h:H a=some (.lst xs)):SqL K H a xs:=.inl (.inl h)
theorem SqT.of {K:PySem.W.Frag} (h:H a=some (.tup xs)):SqT K H a xs:=.inl (.inl h)
theorem Inv.list (I:Inv X pins σ H s) (h:SqL X.K H a xs):∃its:List Value,Vals xs its/\PlainL s.heap a its.toArray/\xs.length<=sizeLine:=by
 rcases h with h|⟨o,its,n,hk,hc,hd,hs,hz,r⟩
 ·obtain ⟨z,its,n,r,e⟩:=h.ok I.hok;exact ⟨its,r,⟨_,n,e,rfl,rfl,rfl⟩,z⟩
 ·refine ⟨its.toList,r,⟨o,n,I.kIn a o hk,hc,hd,by simpa using hs⟩,?_⟩;have e:=r.length;simp only [Array.length_toList] at e;lia
theorem Inv.tuple (I:Inv X pins σ H s) (h:SqT X.K H a xs):∃its:List Value,Vals xs its/\IsTup s.heap a its.toArray/\xs.length<=sizeLine:=by
 rcases h with h|⟨o,its,n,hk,hc,hs,hz,r⟩
 ·obtain ⟨z,its,r,p⟩:=h.ok I.hok;exact ⟨its,r,p.tup,z⟩
 ·refine ⟨its.toList,r,⟨o,I.kIn a o hk,hc,n,by simpa using hs⟩,?_⟩;have e:=r.length;simp only [Array.length_toList] at e;lia
theorem Inv.vJ (I:Inv X pins σ H s) (h:SqL X.K H a xs) (h':SqL X.K H a ys):xs=ys:=by
 obtain ⟨its,r,⟨o,n,e,_,_,d⟩,_⟩:=I.list h;obtain ⟨its',r',⟨o',n',e',_,_,d'⟩,_⟩:=I.list h';rw [e] at e';cases e';rw [d] at d';injection d' with d1 _
 have:its=its':=by simpa using congrArg Array.toList d1
 subst this;exact r.inj r'
theorem Inv.KJ (I:Inv X pins σ H s) (h:SqT X.K H a xs) (h':SqT X.K H a ys):xs=ys:=by
 obtain ⟨its,r,⟨o,e,_,n,d⟩,_⟩:=I.tuple h;obtain ⟨its',r',⟨o',e',_,n',d'⟩,_⟩:=I.tuple h';rw [e] at e';cases e';rw [d] at d';injection d' with d1 _
 have:its=its':=by simpa using congrArg Array.toList d1
 subst this;exact r.inj r'
end
noncomputable abbrev Cx.wish (X:Cx) (E:Value->Shared->Prop):Cx:={X with xe:=E}
noncomputable abbrev Cx.nox (X:Cx):Cx:=X.wish fun _ _=>False
theorem Cx.Ok.wish {X:Cx} (ok:X.Ok) (E:Value->Shared->Prop):(X.wish E).Ok:=
 ⟨ok.mod,ok.kind,ok.glob,ok.blt,ok.above,ok.inj,ok.has,ok.cab,ok.hd,ok.frames,ok.stk,ok.exf,ok.bs,ok.bsz,ok.noex,ok.exfs,ok.HJ,ok.frf⟩
theorem Cx.Ok.i_ {X:Cx} {E:Value->Shared->Prop} (ok:(X.wish E).Ok):X.Ok:=
 ⟨ok.mod,ok.kind,ok.glob,ok.blt,ok.above,ok.inj,ok.has,ok.cab,ok.hd,ok.frames,ok.stk,ok.exf,ok.bs,ok.bsz,ok.noex,ok.exfs,ok.HJ,ok.frf⟩
section
variable {X:Cx} {pins:List (Addr×Obj)} {σ:St} {H:Hp} {s:Shared} {E:Value->Shared->Prop}
theorem Inv.wish (I:Inv X pins σ H s) (E:Value->Shared->Prop):Inv (X.wish E) pins σ H s:=⟨I.ok.wish E,I.os,I.bare,I.base,I.loc,I.cell,I.free,I.freeC,I.pin,I.hok,I.len⟩
theorem Inv.i_ (I:Inv (X.wish E) pins σ H s):Inv X pins σ H s:=⟨I.ok.i_,I.os,I.bare,I.base,I.loc,I.cell,I.free,I.freeC,I.pin,I.hok,I.len⟩
theorem SP.i_ {D:Ends} {f:Flow} {s':Shared} (h:SP (X.wish E) pins D f s'):SP X pins D f s':=by
 cases f with
 | next=>obtain ⟨σ',H',I,q⟩:=h;exact ⟨σ',H',I.i_,q⟩
 | brk=>obtain ⟨σ',H',I,q⟩:=h;exact ⟨σ',H',I.i_,q⟩
 | cont=>obtain ⟨σ',H',I,q⟩:=h;exact ⟨σ',H',I.i_,q⟩
 | ret u=>obtain ⟨v,σ',H',I,r,q⟩:=h;exact ⟨v,σ',H',I.i_,r,q⟩
theorem PSs.nox {st:List Stmt} {t:TS} (h:PSs X.nox st t):PSs X st t:=fun pins s σ H D I hw=>
 wpAny_mono (h pins s σ H D (I.wish _) hw) (fun _ _ q=>q.i_) fun _ _ z=>False.elim z
end
section
variable {X:Cx} {st:Stmt} {rest:List Stmt} {t u:TS} {e:Expr} {te:TE} {pos:Pos}
noncomputable def aEj:TS:=fun D σ H=>D.nx σ H
noncomputable def aE2 (t u:TS):TS:=fun D σ H=>t {D with nx:=u D} σ H
theorem KN:PSs X [] aEj:=fun _ _ σ H _ I h=>wpAny_execs_nil ⟨σ,H,I,h⟩
theorem vK (h1:PS X st t) (h2:PSs X rest u):PSs X (st::rest) (aE2 t u):=by
 intro pins s σ H D I h;refine wpAny_execs_cons (thn (h1 pins s σ H {D with nx:=u D} I h) fun f s1 q=>?_);cases f with
 | next=>
  obtain ⟨σ',H',I',q⟩:=q;exact h2 pins s1 σ' H' D I' q
 | ret v=>exact q
 | brk=>exact q
 | cont=>exact q
theorem vL (h1:PS X st t):PSs X [st] t:=by
 intro pins s σ H D I h;refine wpAny_execs_cons (thn (h1 pins s σ H D I h) fun f s1 q=>?_);cases f with
 | next=>exact wpAny_execs_nil q
 | ret v=>exact q
 | brk=>exact q
 | cont=>exact q
theorem Inv.quiet {pins:List (Addr×Obj)} {σ:St} {H:Hp} {s:Shared} (I:Inv X pins σ H s):interactive X.env=false:=by simp [interactive,I.ok.kind]
noncomputable def aBt (te:TE):TS:=fun D σ H=>te σ H fun _ H1=>D.nx σ H1
theorem vM (he:PE X e te) (hs:swapsWith e none pos.line X.env=pure false:=by rfl):PS X (.Expr e pos) (aBt te):=by
 intro pins s σ H D I h;exact wpAny_Expr_any (thn (he pins s σ H _ I h) fun v s1 ⟨x,H1,I1,r1,q1⟩=>⟨σ,H1,I1,q1⟩) I.quiet hs
noncomputable def aGc (te:TE):TS:=fun D σ H=>te σ H D.rt
theorem KQ (he:PE X e te):PS X (.Return (some e) pos) (aGc te):=by
 intro pins s σ H D I h;exact wpAny_Return_some (thn (he pins s σ H _ I h) fun v s1 ⟨x,H1,I1,r1,q1⟩=>⟨x,σ,H1,I1,r1,q1⟩)
noncomputable def aGd (c:TT) (t u:TS):TS:=fun D σ H=>c σ H fun b H1=>if b=true then t D σ H1 else u D σ H1
theorem aBu {c:Expr} {a b:List Stmt} {tc:TT} (hc:PT X c tc) (ha:PSs X a t) (hb:PSs X b u):PS X (.If c a b pos) (aGd tc t u):=by
 intro pins s σ H D I h;refine wpAny_If (thn (hc pins s σ H _ I h) fun d s1 ⟨H1,I1,q1⟩=>?_);cases d with
 | true=>exact ha pins s1 σ H1 D I1 q1
 | false=>exact hb pins s1 σ H1 D I1 q1
end
abbrev TG:=V->St->Hp->(St->Hp->Prop)->Prop
abbrev TGs:=List V->St->Hp->(St->Hp->Prop)->Prop
def PG (X:Cx) (target:Expr) (t:TG):Prop:=
 ∀(pins:List (Addr×Obj)) (s:Shared) (σ:St) (H:Hp) (v:V) (u:Value) (Q:St->Hp->Prop),Inv X pins σ H s->RelV v u->t v σ H Q->
  wpAny (model X.prog X.w) X.A (assign target X.env u) (fun _ s'=>∃σ' H',Inv X pins σ' H' s'/\Q σ' H') X.xe s
def PGs (X:Cx) (ts:List Expr) (t:TGs):Prop:=
 ∀(pins:List (Addr×Obj)) (s:Shared) (σ:St) (H:Hp) (vs:List V) (us:List Value) (Q:St->Hp->Prop),Inv X pins σ H s->Vals vs us->t vs σ H Q->
  wpAny (model X.prog X.w) X.A (assignInOrder ((assignEach ts X.env).map (·.2)) us) (fun _ s'=>∃σ' H',Inv X pins σ' H' s'/\Q σ' H') X.xe s
abbrev aGe:=V->V->V->Hp->(Hp->Prop)->Prop
def aGf (X:Cx) (t:aGe):Prop:=
 ∀(pins:List (Addr×Obj)) (s:Shared) (σ:St) (H:Hp) (o i v:V) (ov iv u:Value) (Q:Hp->Prop),Inv X pins σ H s->RelV o ov->RelV i iv->RelV v u->t o i v H Q->
  wpAny (model X.prog X.w) X.A (setItem ov iv u) (fun _ s'=>∃H',Inv X pins σ H' s'/\Q H') X.xe s
section
variable {X:Cx} {pos:Pos}
noncomputable def KR (i:Nat):TG:=fun v σ H Q=>Q (σ.set i (some v)) H
theorem jA {i:Nat} {x:Str} (hN:X.N.Nodup) (hi:X.N[i]?=some x) (hx:Loc X.env.scope x) (hf:X.fn x=true\/X.env.scope.names.lookup x=some .local:=by first|exact .inl rfl|exact .inr rfl|assumption):PG X (.Name x pos) (KR i):=by
 intro pins s σ H v u Q I r h;exact wpAny_assign_Name (BX I hN hi hx r (fun s' I'=>⟨_,H,I',h⟩) hf)
noncomputable def aFt:TGs:=fun vs σ H Q=>vs=[]/\Q σ H
noncomputable def aBv (t:TG) (u:TGs):TGs:=fun vs σ H Q=>∃v r,vs=v::r/\t v σ H fun σ' H'=>u r σ' H' Q
theorem KY:PGs X [] aFt:=by
 intro pins s σ H vs us Q I r h;obtain ⟨e,h⟩:=h;subst e;cases r;exact assignInOrder_nil ⟨σ,H,I,h⟩
theorem nM {e:Expr} {es:List Expr} {t:TG} {u:TGs} (h1:PG X e t) (h2:PGs X es u)
  (hs:(assignEach (e::es) X.env).map (·.2)=assign e X.env::(assignEach es X.env).map (·.2):=by rfl):PGs X (e::es) (aBv t u):=by
 intro pins s σ H vs us Q I r h;obtain ⟨v,vr,e1,h⟩:=h;subst e1;cases r with
 | cons r rr=>
  rw [hs];refine assignInOrder_cons (thn (h1 pins s σ H _ _ _ I r h) fun _ s1 ⟨σ1,H1,I1,q1⟩=>?_);exact h2 pins s1 σ1 H1 _ _ Q I1 rr q1
noncomputable def aEk (K:PySem.W.Frag) (n:Nat) (t:TGs):TG:=fun v σ H Q=>∃a xs,v=.ref a/\SqT K H a xs/\xs.length=n/\t xs σ H Q
theorem V5 {es:List Expr} {k:Nat} {t:TGs} {n:Nat} (hc:X.calm=true) (h:PGs X es t)
  (hn:(assignEach es X.env).length=n:=by rfl) (hst:(assignEach es X.env).findIdx? (·.1)=none:=by rfl):PG X (.Tuple es k pos) (aEk X.K n t):=by
 intro pins s σ H v u Q I r hw;obtain ⟨a,xs,e1,hq,hl,hw⟩:=hw;subst e1;cases r;obtain ⟨its,rv,ht,hz⟩:=I.tuple hq;refine assign_Tuple_tuple (I.ok.hd hc) ht (by simp [hn,<-hl,rv.length]) hst fun h' hx=>?_
 have I1:Inv X pins σ H {s with heap:=h'}:=I.kept (t':=s.toks) fun b o e=>hx b o (Nat.ne_of_lt (Heap.lt_size e)) e
 exact h pins _ σ H xs _ Q I1 (by simpa using rv) hw
noncomputable def aFu (te:TE) (g:TG):TS:=fun D σ H=>te σ H fun x H1=>g x σ H1 D.nx
theorem BZ {i:Nat} {x:Str} {e:Expr} {te:TE} {pos':Pos} (hN:X.N.Nodup) (hi:X.N[i]?=some x) (hx:Loc X.env.scope x) (he:PE X e te) (hs:swapsWith e (some (.Name x pos')) pos.line X.env=pure false:=by rfl) (hf:X.fn x=true\/X.env.scope.names.lookup x=some .local:=by first|exact .inl rfl|exact .inr rfl|assumption) :
  PS X (.Assign [.Name x pos'] e pos) (aFu te (KR i)):=by
 intro pins s σ H D I h;refine wpAny_Assign_Name (thn (he pins s σ H _ I h) fun v s1 ⟨y,H1,I1,r1,q1⟩=>?_) hs;exact BX I1 hN hi hx r1 (fun s2 I2=>⟨_,H1,I2,q1⟩) hf
end
structure It where
 go:Nat->Hp->Prop
 yld:Nat->Hp->V->Hp->Prop
 stop:Nat->Hp->Prop
def KZ (X:Cx) (pins:List (Addr×Obj)) (H:Hp) (b:Addr):Prop:=
 H b=none/\b≠X.env.locals/\b∉X.fs/\(b∈X.ex\/X.s₀.heap.objs.size<=b)/\(∀x c,X.env.cells.lookup x=some c->c≠b)/\∀p∈X.pn++pins,p.1≠b
theorem Inv.V6 {X:Cx} {pins:List (Addr×Obj)} {σ:St} {H H':Hp} {s:Shared} {b:Addr} (I:Inv X pins σ H s) (hb:s.heap.objs.size<=b) (hn:H' b=none):KZ X pins H' b:=by
 refine ⟨hn,Nat.ne_of_gt (Nat.lt_of_lt_of_le I.lt hb),I.aFs hb,.inr (Nat.le_trans I.sz hb),fun x c e z=>?_,fun p hp z=>?_⟩
 ·obtain ⟨v,q⟩:=I.cell x c e;exact absurd (Nat.lt_of_lt_of_le q.lt (by rw [z];exact hb)) (Nat.lt_irrefl _)
 ·exact absurd (Nat.lt_of_lt_of_le (Heap.lt_size (I.pin p hp).1) (by rw [z];exact hb)) (Nat.lt_irrefl _)
structure Turn (P:Program) (w:World) (K:PySem.W.Frag) (tg:Expr) (J:It) (fp:List Addr) (it:Addr) (tn:Nat->Heap->Prop):Prop where
 mem:it∈fp
 obj:∀i h,tn i h->∀b∈fp,∃o,h.get? b=some o/\∀v,o.data≠.cell v
 keep:∀i h h',tn i h->(∀b∈fp,∀o,h.get? b=some o->h'.get? b=some o)->tn i h'
 item:∀(X:Cx),X.prog=P->X.w=w->X.K=K->X.calm=true->∀(i:Nat) (pins:List (Addr×Obj)) (s:Shared) (σ:St) (H:Hp) (E:Value->Shared->Prop),Inv X pins σ H s->(∀b∈fp,KZ X pins H b)->tn i s.heap->J.go i H->
  wpAny (model P w) X.A (pyNext (.ref it)) (fun r s1=>∃u,r=some u/\
   wpAny (model P w) X.A (letOwnedTupleGo tg (.ref it) u) (fun _ s2=>∃x H',Inv X pins σ H' s2/\RelV x u/\J.yld i H x H'/\tn (i+1) s2.heap/\∀b∈fp,H' b=none) E s1) E s
 done:∀(X:Cx),X.prog=P->X.w=w->X.K=K->X.calm=true->∀(i:Nat) (pins:List (Addr×Obj)) (s:Shared) (σ:St) (H:Hp) (E:Value->Shared->Prop),Inv X pins σ H s->(∀b∈fp,KZ X pins H b)->tn i s.heap->J.stop i H->
  wpAny (model P w) X.A (pyNext (.ref it)) (fun r s1=>r=none/\Inv X pins σ H s1) E s
 self:∀(A:Around) (i:Nat) (s:Shared) (Q:Value->Shared->Prop) (E:Value->Shared->Prop),tn i s.heap->Q (.ref it) s->wpAny (model P w) A (pyIter (.ref it)) Q E s
abbrev TI:=St->Hp->(It->Hp->Prop)->Prop
def PIE (X:Cx) (pins:List (Addr×Obj)) (σ:St) (tg:Expr) (R:It->Hp->Prop) (itv:Value) (s2:Shared):Prop:=
 ∃(it:Addr) (fp:List Addr) (tn:Nat->Heap->Prop) (J:It) (H':Hp),itv=.ref it/\Inv X pins σ H' s2/\Turn X.prog X.w X.K tg J fp it tn/\tn 0 s2.heap/\(∀b∈fp,KZ X pins H' b)/\R J H'
def PI (X:Cx) (tg iter:Expr) (wi:TI):Prop:=
 ∀(pins:List (Addr×Obj)) (s:Shared) (σ:St) (H:Hp) (R:It->Hp->Prop),Inv X pins σ H s->wi σ H R->
  wpAny (model X.prog X.w) X.A (eval iter X.env) (fun v s1=>wpAny (model X.prog X.w) X.A (pyIter v) (PIE X pins σ tg R) X.xe s1) X.xe s
theorem RT {M:Model} {A:Around} {E:Value -> Shared -> Prop} {s:Shared} {tg:Expr} {it:Addr} {u:Value} {o:Obj} {n:String} {vs:Array Value} {Q:Unit -> Shared -> Prop} (ho:s.heap.get? it=some o) (hc:o.cls=.type n) (hd:o.data=.fields vs)
    (hn:["enumerate", "zip", "dict_itemiterator", "dict_reverseitemiterator", "odict_iterator", "itertools.zip_longest", "itertools.pairwise"].contains n=false) (hQ:Q () s):wpAny M A (letOwnedTupleGo tg (.ref it) u) Q E s := by
  unfold letOwnedTupleGo;cases tg <;> first
    | exact wpAny_pure hQ
    | (cases u <;> first
        | exact wpAny_pure hQ
        | (refine wpAny_bind (wpAny_load ho ?_)
           rw [hc, hd];show wpAny M A (if (["enumerate", "zip", "dict_itemiterator", "dict_reverseitemiterator", "odict_iterator", "itertools.zip_longest", "itertools.pairwise"].contains n&&vs[0]?==some (rawInt _))=true then _ else _) Q E s;rw [if_neg (by intro h; rw [hn, Bool.false_and] at h; cases h)];exact wpAny_pure hQ))
noncomputable def Itl (K:PySem.W.Frag) (a:Addr):It:=
 ⟨fun i H=>∃xs x,SqL K H a xs/\xs[i]?=some x,fun i H x H'=>H'=H/\∀xs,SqL K H a xs->xs[i]?=some x,fun i H=>∃xs,SqL K H a xs/\xs.length<=i⟩
noncomputable def Itt (K:PySem.W.Frag) (a:Addr):It:=
 ⟨fun i H=>∃xs x,SqT K H a xs/\xs[i]?=some x,fun i H x H'=>H'=H/\∀xs,SqT K H a xs->xs[i]?=some x,fun i H=>∃xs,SqT K H a xs/\xs.length<=i⟩
noncomputable def Itr (lo:Int) (n:Nat):It:=⟨fun i _=>i<n,fun i H x H'=>H'=H/\x=.int (lo+i),fun i _=>n<=i⟩
theorem K1 {P:Program} {w:World} {K:PySem.W.Frag} {tg:Expr} (a it:Addr):Turn P w K tg (Itl K a) [it] it (fun i h=>h.IsListIter it a i) where
 mem:=by simp
 obj:=fun i h st b hb=>by
  have e:b=it:=by simpa using hb
  subst e;obtain ⟨o,e,c,d⟩:=st;exact ⟨o,e,fun v z=>by rw [d] at z;cases z⟩
 keep:=fun i h h' st k=>st.at fun o e=>k it (by simp) o e
 item:=by
  intro X hP hw hK hc i pins s σ H E I hf st hg;subst hP hw hK;obtain ⟨xs,x,hq,hx⟩:=hg;obtain ⟨its,rv,p,hz⟩:=I.list hq;obtain ⟨u,hu,ru⟩:=rv.get hx;obtain ⟨f0,f1,f2,f3,f4,f5⟩:=hf it (by simp);refine wpAny_pyNext_list_item st p.isList (x:=u) (by simpa using hu) fun h' st' sb=>?_
  have I1:Inv X pins σ H {s with heap:=h'}:=I.turned (t':=s.toks) (fun b o hb e=>(sb.2 b hb).trans e) f0 f1 f3 f4 f5;obtain ⟨o,e,c,d⟩:=id st';exact ⟨u,rfl,RT (s:={s with heap:=h'}) e c d (by decide) ⟨x,H,I1,ru,⟨rfl,fun ys hy=>by rw [I.vJ hy hq];exact hx⟩,st',fun b hb=>(hf b hb).1⟩⟩
 done:=by
  intro X hP hw hK hc i pins s σ H E I hf st hg;subst hP hw hK;obtain ⟨xs,hq,hx⟩:=hg;obtain ⟨its,rv,p,hz⟩:=I.list hq;obtain ⟨f0,f1,f2,f3,f4,f5⟩:=hf it (by simp);have hl:=rv.length;exact wpAny_pyNext_list_end (I.ok.hd hc) st p.isList (by simp;lia) fun h' eb=>⟨rfl,I.turned (t':=s.toks) (fun b o hb e=>eb b o hb e) f0 f1 f3 f4 f5⟩
 self:=fun _ _ _ _ _ st h=>wpAny_pyIter_listiter st h
theorem HN {P:Program} {w:World} {K:PySem.W.Frag} {tg:Expr} (a it:Addr):Turn P w K tg (Itt K a) [it] it (fun i h=>h.IsTupleIter it a i) where
 mem:=by simp
 obj:=fun i h st b hb=>by
  have e:b=it:=by simpa using hb
  subst e;obtain ⟨o,e,c,d⟩:=st;exact ⟨o,e,fun v z=>by rw [d] at z;cases z⟩
 keep:=fun i h h' st k=>st.at fun o e=>k it (by simp) o e
 item:=by
  intro X hP hw hK hc i pins s σ H E I hf st hg;subst hP hw hK;obtain ⟨xs,x,hq,hx⟩:=hg;obtain ⟨its,rv,p,hz⟩:=I.tuple hq;obtain ⟨u,hu,ru⟩:=rv.get hx;obtain ⟨f0,f1,f2,f3,f4,f5⟩:=hf it (by simp);refine wpAny_pyNext_tuple_item st (show s.heap.IsTuple a its.toArray from p) (x:=u) (by simpa using hu) fun h' st' sb=>?_
  have I1:Inv X pins σ H {s with heap:=h'}:=I.turned (t':=s.toks) (fun b o hb e=>(sb.2 b hb).trans e) f0 f1 f3 f4 f5;obtain ⟨o,e,c,d⟩:=id st';exact ⟨u,rfl,RT (s:={s with heap:=h'}) e c d (by decide) ⟨x,H,I1,ru,⟨rfl,fun ys hy=>by rw [I.KJ hy hq];exact hx⟩,st',fun b hb=>(hf b hb).1⟩⟩
 done:=by
  intro X hP hw hK hc i pins s σ H E I hf st hg;subst hP hw hK;obtain ⟨xs,hq,hx⟩:=hg;obtain ⟨its,rv,p,hz⟩:=I.tuple hq;obtain ⟨f0,f1,f2,f3,f4,f5⟩:=hf it (by simp);have hl:=rv.length;exact wpAny_pyNext_tuple_end (I.ok.hd hc) st (show s.heap.IsTuple a its.toArray from p) (by simp;lia) fun h' eb=>⟨rfl,I.turned (t':=s.toks) (fun b o hb e=>eb b o hb e) f0 f1 f3 f4 f5⟩
 self:=fun _ _ _ _ _ st h=>wpAny_pyIter_tupleiter st h
theorem HQ {P:Program} {w:World} {K:PySem.W.Frag} {tg:Expr} (it:Addr) (lo:Int) (n:Nat):Turn P w K tg (Itr lo n) [it] it (fun i h=>IsRangeIter h it (lo+(i:Nat)*1) ((n:Int)-(i:Nat)) 1) where
 mem:=by simp
 obj:=fun i h st b hb=>by
  have e:b=it:=by simpa using hb
  subst e;exact ⟨_,st,fun v z=>by
   have z':Data.fields _=Data.cell v:=z;cases z'⟩
 keep:=fun i h h' st k=>k it (by simp) _ st
 item:=by
  intro X hP hw hK hc i pins s σ H E I hf st hg;subst hP hw hK;obtain ⟨f0,f1,f2,f3,f4,f5⟩:=hf it (by simp);have W:=Walks.range (prog:=X.prog) (w:=X.w) (I.ok.hd hc) it lo 1 n;refine W.item i s _ _ hg st fun v h' tk hv st' kk=>?_
  obtain ⟨t,rfl⟩:=hv;have I1:Inv X pins σ H {s with heap:=h',toks:=tk}:=I.turned (fun b o hb e=>kk b o (by simpa using hb) e) f0 f1 f3 f4 f5;refine ⟨_,rfl,RT (s:={s with heap:=h',toks:=tk}) (n := "range_iterator") st' rfl rfl (by decide) ⟨.int (lo+i),H,I1,⟨t,?_⟩,⟨rfl,rfl⟩,st',fun b hb=>(hf b hb).1⟩⟩;rw [Int.mul_one]
 done:=by
  intro X hP hw hK hc i pins s σ H E I hf st hg;subst hP hw hK;obtain ⟨f0,f1,f2,f3,f4,f5⟩:=hf it (by simp);exact wpAny_pyNext_range_end (I.ok.hd hc) st (by have:n<=i:=hg;lia) fun h' eb=>⟨rfl,I.turned (t':=s.toks) (fun b o hb e=>eb b o hb e) f0 f1 f3 f4 f5⟩
 self:=fun _ _ _ _ _ st h=>wpAny_pyIter_rangeiter st h
section
variable {X:Cx} {tg:Expr}
theorem RV {pins:List (Addr×Obj)} {σ:St} {H:Hp} {s:Shared} {R:It->Hp->Prop} {E:Value->Shared->Prop} {lo hi:Int} {t u v:Tok} {tk:Nat} (I:Inv X pins σ H s) (h1:-(2 ^ 62)<=lo) (h2:lo<2 ^ 62) (h3:-(2 ^ 62)<=hi) (h4:hi<2 ^ 62)
  (q:R (Itr lo (hi-lo).toNat) H):wpAny (model X.prog X.w) X.A (pyIter (.ref s.heap.objs.size)) (PIE X pins σ tg R) E {s with heap:=s.heap.push {cls:=.type "range",data:=.fields #[.int lo t,.int hi u,.int 1 v]},toks:=tk}:=by
 refine wpAny_pyIter_range (IsRange.new ..) (small_one h1 h2 h3 h4) ?_;have I1:Inv X pins σ H {s with heap:=s.heap.push {cls:=.type "range",data:=.fields #[.int lo t,.int hi u,.int 1 v]},toks:=tk}:=I.kept fun b o e=>Heap.get?_push_of_some _ e
 refine ⟨(s.heap.push {cls:=.type "range",data:=.fields #[.int lo t,.int hi u,.int 1 v]}).objs.size,[(s.heap.push {cls:=.type "range",data:=.fields #[.int lo t,.int hi u,.int 1 v]}).objs.size],_,_,H,rfl,
  I1.kept (t':=tk) fun b o e=>Heap.get?_push_of_some _ e,HQ _ lo (hi-lo).toNat,?_,fun b hb=>?_,q⟩
 ·have e1:lo+((0:Nat):Int)*1=lo:=by simp
  have e2:(((hi-lo).toNat:Nat):Int)-((0:Nat):Int)=Builtin.Range.rangeSize lo hi 1:=by rw [rangeSize_one];split <;> lia
  show IsRangeIter _ _ (lo+((0:Nat):Int)*1) ((((hi-lo).toNat:Nat):Int)-((0:Nat):Int)) 1;rw [e1,e2];exact Heap.get?_push_size _ rfl
 ·have e:b=(s.heap.push {cls:=.type "range",data:=.fields #[.int lo t,.int hi u,.int 1 v]}).objs.size:=by simpa using hb
  subst e;exact I1.V6 (Nat.le_refl _) (I1.hok.fresh (Nat.le_refl _))
def aEm (ta:TA):TI:=fun σ H R=>ta σ H fun vs H1=>∃j:Int,vs=[.int j]/\-(2 ^ 62)<=j/\j<2 ^ 62/\R (Itr 0 j.toNat) H1
theorem K3 {a:Expr} {ta:TA} {p pos:Pos} (hg:Gl X "range") (hm:X.mg "range" = none) (ha:PA X [a] ta) (hs:starEach [a] X.env=[(false,eval a X.env)]:=by rfl):PI X tg (.Call (.Name "range" p) [a] [] pos) (aEm ta):=by
 intro pins s σ H R I h;refine Call_ (uR I hg hm boot_range (PyProof.Rows.callWith_type1 (thn (ha pos pins s σ H _ I h) fun us s1 ⟨vs,H1,I1,r1,q1⟩=>?_) hs rfl));obtain ⟨j,e,q1,q2,q⟩:=q1;subst e;cases r1 with
 | cons r rr=>
  cases rr;obtain ⟨t,rfl⟩:=r;exact call_range_1 (RV I1 (by lia) (by lia) q1 q2 (by simpa using q))
def aGg (wi:TI) (g:TG) (tb:TS):TS:=fun D σ H=>wi σ H fun J H1=>∃W:Nat->Nat->St->Hp->Prop,(∃m,W 0 m σ H1)/\∀i m σ H,W i m σ H->
 (J.stop i H/\D.nx σ H)\/(J.go i H/\∃N:St->Hp->Prop,(∀σ' H',N σ' H'->∃m',m'<m/\W (i+1) m' σ' H')/\∀x H',J.yld i H x H'->g x σ H' fun σ2 H2=>tb {D with nx:=N,ct:=N,bk:=D.nx} σ2 H2)
noncomputable def n6 (fp:List Addr) (h:Heap):List (Addr×Obj):=fp.filterMap fun b=>(h.get? b).map fun o=>(b,o)
theorem jJ {fp:List Addr} {h:Heap} {b:Addr} {o:Obj} (hb:b∈fp) (e:h.get? b=some o):(b,o)∈n6 fp h:=List.mem_filterMap.mpr ⟨b,hb,by rw [e];rfl⟩
theorem K4 {fp:List Addr} {h:Heap} {p:Addr×Obj} (hp:p∈n6 fp h):p.1∈fp/\h.get? p.1=some p.2:=by
 obtain ⟨b,hb,e⟩:=List.mem_filterMap.mp hp;cases q:h.get? b with
 | none=>rw [q] at e;cases e
 | some o=>
  rw [q] at e;have e':(b,o)=p:=Option.some.inj e;subst e';exact ⟨hb,q⟩
theorem Inv.pinned {pins:List (Addr×Obj)} {σ:St} {H:Hp} {s:Shared} {fp:List Addr} (I:Inv X pins σ H s) (hf:∀b∈fp,KZ X pins H b) (ho:∀b∈fp,∃o,s.heap.get? b=some o/\∀v,o.data≠.cell v):Inv X (pins++n6 fp s.heap) σ H s:=
 I.KD fun p hp=>(List.mem_append.mp hp).elim (fun z=>I.pin p (List.mem_append_right _ z)) fun z=>by
  obtain ⟨hb,e⟩:=K4 z;obtain ⟨f0,f1,f2,_⟩:=hf p.1 hb;obtain ⟨o,e',d⟩:=ho p.1 hb;rw [e] at e';cases e';exact ⟨e,f0,f1,f2,d⟩
theorem Inv.nO {pins pl:List (Addr×Obj)} {σ:St} {H:Hp} {s:Shared} (I:Inv X (pins++pl) σ H s):Inv X pins σ H s:=I.KD fun p hp=>I.pin p (List.mem_append_right _ (List.mem_append_left _ hp))
theorem V7 {iter:Expr} {body:List Stmt} {wi:TI} {g:TG} {tb:TS} {pos:Pos} (hp:PassesOwn (model X.prog X.w) X.A X.env X.xe) (hc:X.calm=true) (hi:PI X tg iter wi) (hg:PG X tg g) (hb:PSs X body tb)
  (hs:∀x,foldedSetIterable iter X.env x=pure x:=by intro _;rfl):PS X (.For tg iter body [] pos) (aGg wi g tb):=by
 intro pins s σ H D I h;refine wpAny_For (thn (hi pins s σ H _ I h) fun v s1 h1=>thn h1 fun itv s2 h2=>?_) hs;obtain ⟨it,fp,tn,J,H2,e,I2,T,st2,f2,W,⟨m0,w0⟩,turn⟩:=h2;subst e
 -- what stays true of the iterator's objects through the loop
 have stat:∀{H':Hp},(∀b∈fp,H' b=none)->∀b∈fp,KZ X pins H' b:=fun hn b hb=>⟨hn b hb,(f2 b hb).2⟩
 refine codeAny_forLoop_any (fun n s'=>∃i σ' H',Inv X pins σ' H' s'/\tn i s'.heap/\(∀b∈fp,H' b=none)/\W i n σ' H') ?_ m0 ⟨0,σ,H2,I2,st2,fun b hb=>(f2 b hb).1,w0⟩;rintro n s3 ⟨i,σ3,H3,I3,st3,fr3,w3⟩;rcases turn i n σ3 H3 w3 with ⟨stop,qn⟩|⟨go,N,hN,step⟩
 ·refine wpAny_passesOwn hp (thn (T.done X rfl rfl rfl hc i pins s3 σ3 H3 X.xe I3 (stat fr3) st3 stop) fun r s4 ⟨hr,I4⟩=>?_);subst hr;exact wpAny_execs_nil ⟨σ3,H3,I4,qn⟩
 ·refine wpAny_passesOwn hp (thn (T.item X rfl rfl rfl hc i pins s3 σ3 H3 X.xe I3 (stat fr3) st3 go) fun r s4 ⟨u,hr,h4⟩=>?_);subst hr;refine wpAny_passesOwn hp (thn h4 fun _ s5 ⟨x,H5,I5,r5,y5,st5,fr5⟩=>?_);have I5':=I5.pinned (stat fr5) (T.obj _ _ st5);refine wpAny_passesOwn hp (thn (hg _ s5 σ3 H5 x u _ I5' r5 (step x H5 y5)) fun _ s6 ⟨σ6,H6,I6,q6⟩=>?_);refine wpAny_passesOwn hp (thn (hb _ s6 σ6 H6 _ I6 q6) fun f s7 q7=>?_);have again:∀{σ7:St} {H7:Hp},Inv X (pins++n6 fp s5.heap) σ7 H7 s7->N σ7 H7->∃m,m<n/\∃i σ' H',Inv X pins σ' H' s7/\tn i s7.heap/\(∀b∈fp,H' b=none)/\W i m σ' H':=fun {σ7 H7} I7 n7=>by
   obtain ⟨m',hm,w7⟩:=hN σ7 H7 n7;refine ⟨m',hm,i+1,σ7,H7,I7.nO,T.keep _ _ _ st5 fun b hb o e=>(I7.pin (b,o) (List.mem_append_right _ (List.mem_append_right _ (jJ hb e)))).1,fun b hb=>?_,w7⟩;obtain ⟨o,e,d⟩:=T.obj _ _ st5 b hb;exact (I7.pin (b,o) (List.mem_append_right _ (List.mem_append_right _ (jJ hb e)))).2.1
  cases f with
  | next=>obtain ⟨σ7,H7,I7,n7⟩:=q7;exact again I7 n7
  | cont=>obtain ⟨σ7,H7,I7,n7⟩:=q7;exact again I7 n7
  | brk=>obtain ⟨σ7,H7,I7,q7⟩:=q7;exact ⟨σ7,H7,I7.nO,q7⟩
  | ret v=>obtain ⟨x7,σ7,H7,I7,r7,q7⟩:=q7;exact ⟨x7,σ7,H7,I7.nO,r7,q7⟩
end
abbrev R2:=V->V->Hp->VK->Prop
def OpR (X:Cx) (f:Value->Value->Sem Value) (r:R2):Prop:=
 ∀(pins:List (Addr×Obj)) (s:Shared) (σ:St) (H:Hp) (x y:V) (v u:Value) (Q:VK),Inv X pins σ H s->RelV x v->RelV y u->r x y H Q->
  wpAny (model X.prog X.w) X.A (f v u) (EP X pins σ Q) X.xe s
def UnR (X:Cx) (f:Value->Sem Value) (r:V->Hp->VK->Prop):Prop:=
 ∀(pins:List (Addr×Obj)) (s:Shared) (σ:St) (H:Hp) (x:V) (v:Value) (Q:VK),Inv X pins σ H s->RelV x v->r x H Q->
  wpAny (model X.prog X.w) X.A (f v) (EP X pins σ Q) X.xe s
def jN (X:Cx) (f:Value) (r:List V->Hp->VK->Prop):Prop:=
 ∀(pins:List (Addr×Obj)) (s:Shared) (σ:St) (H:Hp) (xs:List V) (us:List Value) (Q:VK),Inv X pins σ H s->Vals xs us->r xs H Q->
  wpAny (model X.prog X.w) X.A (call f us) (EP X pins σ Q) X.xe s
def aGh (X:Cx) (r:V->Hp->(Bool->Hp->Prop)->Prop):Prop:=
 ∀(pins:List (Addr×Obj)) (s:Shared) (σ:St) (H:Hp) (x:V) (v:Value) (Q:Bool->Hp->Prop),Inv X pins σ H s->RelV x v->r x H Q->
  wpAny (model X.prog X.w) X.A (truthy v) (TP X pins σ Q) X.xe s
noncomputable def tOp (r:R2) (ta tb:TE):TE:=fun σ H Q=>ta σ H fun x H1=>tb σ H1 fun y H2=>r x y H2 Q
noncomputable def tUn (r:V->Hp->VK->Prop) (ta:TE):TE:=fun σ H Q=>ta σ H fun x H1=>r x H1 Q
noncomputable def rI (C:Int->Int->Prop) (g:Int->Int->V):R2:=fun x y H Q=>∃i j,x=.int i/\y=.int j/\C i j/\Q (g i j) H
noncomputable def rI0 (g:Int->Int->V):R2:=fun x y H Q=>∃i j,x=.int i/\y=.int j/\Q (g i j) H
def rU (g:Int->V):V->Hp->VK->Prop:=fun x H Q=>∃i,x=.int i/\Q (g i) H
section
variable {X:Cx} {a b:Expr} {ta tb:TE} {pos:Pos}
theorem aEn (ha:PE X a ta) (hb:PE X b tb) {pins:List (Addr×Obj)} {s:Shared} {σ:St} {H:Hp} {R:V->V->Hp->Prop} (I:Inv X pins σ H s)
  (h:ta σ H fun x H1=>tb σ H1 fun y H2=>R x y H2) {Q:Value->Shared->Prop} {f:Value->Value->Sem Value}
  (hf:∀v u s2 x y H2,Inv X pins σ H2 s2->RelV x v->RelV y u->R x y H2->wpAny (model X.prog X.w) X.A (f v u) Q X.xe s2) :
  wpAny (model X.prog X.w) X.A (eval a X.env) (fun v s₁=>wpAny (model X.prog X.w) X.A (eval b X.env) (fun u s₂=>wpAny (model X.prog X.w) X.A (f v u) Q X.xe s₂) X.xe s₁) X.xe s:=by
 refine thn (ha pins s σ H _ I h) fun v s1 ⟨x,H1,I1,r1,q1⟩=>?_
 refine thn (hb pins s1 σ H1 _ I1 q1) fun u s2 ⟨y,H2,I2,r2,q2⟩=>?_
 exact hf v u s2 x y H2 I2 r1 r2 q2
theorem aEo {op:Operator} {r:R2} (ho:OpR X (binaryOp op) r) (ha:PE X a ta) (hb:PE X b tb):PE X (.BinOp a op b pos) (tOp r ta tb):=by
 intro pins s σ H Q I h;exact wpAny_BinOp (aEn ha hb I h fun v u s2 x y H2 I2 rx ry q=>ho pins s2 σ H2 x y v u Q I2 rx ry q)
theorem aEp {op:UnaryOp} {r:V->Hp->VK->Prop} (ho:UnR X (unaryOp op) r) (ha:PE X a ta):PE X (.UnaryOp op a pos) (tUn r ta):=by
 intro pins s σ H Q I h;exact UnaryOp_ (thn (ha pins s σ H _ I h) fun v s1 ⟨x,H1,I1,r1,q1⟩=>ho pins s1 σ H1 x v Q I1 r1 q1)
theorem opI {f:Value->Value->Sem Value} {C:Int->Int->Prop} {g:Int->Int->Int}
  (rule:∀(i j:Int) (t u:Tok) (s:Shared) (Q:Value->Shared->Prop) (E:Value->Shared->Prop),C i j->Q (.int (g i j) s.toks) {s with toks:=s.toks+1}->wpAny (model X.prog X.w) X.A (f (.int i t) (.int j u)) Q E s) :
  OpR X f (rI C fun i j=>.int (g i j)):=by
 intro pins s σ H x y v u Q I rx ry h;obtain ⟨i,j,rfl,rfl,hc,q⟩:=h;obtain ⟨t,rfl⟩:=rx;obtain ⟨t',rfl⟩:=ry;exact rule i j t t' s _ _ hc ⟨.int (g i j),H,I.tok _,⟨_,rfl⟩,q⟩
theorem aFv {f:Value->Value->Sem Value} {g:Int->Int->Int}
  (rule:∀(i j:Int) (t u:Tok) (s:Shared) (Q:Value->Shared->Prop) (E:Value->Shared->Prop),Q (.int (g i j) s.toks) {s with toks:=s.toks+1}->wpAny (model X.prog X.w) X.A (f (.int i t) (.int j u)) Q E s) :
  OpR X f (rI0 fun i j=>.int (g i j)):=by
 intro pins s σ H x y v u Q I rx ry h;obtain ⟨i,j,rfl,rfl,q⟩:=h;obtain ⟨t,rfl⟩:=rx;obtain ⟨t',rfl⟩:=ry;exact rule i j t t' s _ _ ⟨.int (g i j),H,I.tok _,⟨_,rfl⟩,q⟩
def aGi (i j:Int):Prop:=0<j/\j<1073741824
def aEq (i j:Int):Prop:=(-(2 ^ 64)<i/\i<2 ^ 64)\/(-(2 ^ 64)<j/\j<2 ^ 64)
theorem aEq.ok {i j:Int} (h:aEq i j):IntMulOk i j:=by
 rcases h with ⟨h1,h2⟩|⟨h1,h2⟩
 ·exact .of_left (intBits_le_64 h1 h2)
 ·exact .of_right (intBits_le_64 h1 h2)
theorem aBw:OpR X (binaryOp .Add) (rI0 fun i j=>.int (i+j)):=aFv fun _ _ _ _ _ _ _ q=>add_int q
theorem aBx:OpR X (binaryOp .Sub) (rI0 fun i j=>.int (i-j)):=aFv fun _ _ _ _ _ _ _ q=>sub_int q
theorem aBy:OpR X (binaryOp .Mult) (rI aEq fun i j=>.int (i*j)):=opI fun _ _ _ _ _ _ _ hc q=>mul_int q hc.ok
theorem YD:OpR X (binaryOp .FloorDiv) (rI aGi fun i j=>.int (i / j)):=opI fun i j _ _ _ _ _ hc q=>by
 have h1:(0:Int)<j:=hc.1;have h2:j<1073741824:=hc.2;exact floordiv_int (by lia) (by rw [Int.fdiv_eq_ediv_of_nonneg i (by lia)];exact q) (.inl (PyProof.noPylong_small (by lia)))
theorem aBz:OpR X (binaryOp .Mod) (rI (fun _ j=>0<j) fun i j=>.int (i % j)):=opI fun i j _ _ _ _ _ hc q=>by
 have h1:(0:Int)<j:=hc;exact mod_int' (by lia) (by rw [Int.fmod_eq_emod_of_nonneg i (by lia)];exact q)
theorem unI {f:Value->Sem Value} {g:Int->Int}
  (rule:∀(i:Int) (t:Tok) (s:Shared) (Q:Value->Shared->Prop) (E:Value->Shared->Prop),Q (.int (g i) s.toks) {s with toks:=s.toks+1}->wpAny (model X.prog X.w) X.A (f (.int i t)) Q E s) :
  UnR X f (rU fun i=>.int (g i)):=by
 intro pins s σ H x v Q I rx h;obtain ⟨i,rfl,q⟩:=h;obtain ⟨t,rfl⟩:=rx;exact rule i t s _ _ ⟨.int (g i),H,I.tok _,⟨_,rfl⟩,q⟩
theorem aC0:UnR X (unaryOp .USub) (rU fun i=>.int (-i)):=unI fun _ _ _ _ _ q=>neg_int q
end
section
variable {X:Cx} {a b c:Expr} {ta tb tc:TE} {pos:Pos}
theorem V8 {pins:List (Addr×Obj)} {σ:St} {H:Hp} {s:Shared} {Q:VK} {k k':Bool} (I:Inv X pins σ H s) (q:Q (.bl k) H) (e:k=k'):EP X pins σ Q (.bool k') s:=by
 subst e;exact ⟨.bl k,H,I,rfl,q⟩
theorem K5:OpR X (compareOp .In) (fun x y H Q=>∃i j,x=.str i/\y=.str j/\Q (.bl (!(Builtin.Str.occurrences j i 0 j.length 1).isEmpty)) H):=by
 intro pins s σ H x y v u Q I rx ry h;obtain ⟨i,j,rfl,rfl,q⟩:=h;obtain ⟨t,rfl⟩:=rx;obtain ⟨t',rfl⟩:=ry;exact in_str (V8 I q rfl)
theorem aC1:OpR X (compareOp .Is) (fun x y H Q=>y=.non/\Q (.bl (decide (x=.non))) H):=by
 intro pins s σ H x y v u Q I rx ry h;obtain ⟨rfl,q⟩:=h;cases ry;refine is_none_gen (V8 I q ?_);cases x <;> first
  | (cases rx;rfl)
  | (obtain ⟨t,rfl⟩:=rx;rfl)
theorem bJ (b:Expr) {op:CmpOp} (h:op≠.In:=by decide) (h2:op≠.NotIn:=by decide):behindInMarks op b=false:=by
 have e1:(op==CmpOp.In)=false:=by cases op <;> first|rfl|exact absurd rfl h
 have e2:(op==CmpOp.NotIn)=false:=by cases op <;> first|rfl|exact absurd rfl h2
 cases b <;> simp [behindInMarks,e1,e2]
theorem YF {op:CmpOp} {r:R2} (ho:OpR X (compareOp op) r) (ha:PE X a ta) (hb:PE X b tb) (hm:behindInMarks op b=false):PE X (.Compare a [op] [b] pos) (tOp r ta tb):=by
 intro pins s σ H Q I h;exact wpAny_Compare1 (aEn ha hb I h fun v u s2 x y H2 I2 rx ry q=>ho pins s2 σ H2 x y v u Q I2 rx ry q) hm
noncomputable def aC2 (t:TE):TT:=fun σ H Q=>t σ H fun x H'=>∃k,x=.bl k/\Q k H'
theorem YG {op:CmpOp} {r:R2} (ho:OpR X (compareOp op) r) (ha:PE X a ta) (hb:PE X b tb) (hm:behindInMarks op b=false):PT X (.Compare a [op] [b] pos) (aC2 (tOp r ta tb)):=by
 intro pins s σ H Q I h;refine wpAny_isTrue_Compare1 (thn (ha pins s σ H _ I h) fun v s1 ⟨x,H1,I1,r1,q1⟩=>thn (hb pins s1 σ H1 _ I1 q1) fun u s2 ⟨y,H2,I2,r2,q2⟩=>
  thn (ho pins s2 σ H2 x y v u _ I2 r1 r2 q2) fun c s3 ⟨z,H3,I3,r3,k,e,q3⟩=>?_) hm
 subst e;cases r3;exact wpAny_truthy_bool ⟨H3,I3,q3⟩
noncomputable def K6 (r r':R2) (ta tb tc:TE):TE:=fun σ H Q=>ta σ H fun x H1=>tb σ H1 fun y H2=>r x y H2 fun z H3=>∃k,z=.bl k/\
 (if k=true then tc σ H3 fun w' H4=>r' y w' H4 Q else Q (.bl false) H3)
theorem RW {op op':CmpOp} {r r':R2} (ho:OpR X (compareOp op) r) (ho':OpR X (compareOp op') r') (ha:PE X a ta) (hb:PE X b tb) (hc:PE X c tc)
  (hm:lastMarks [op,op'] [b,c]=false:=by with_unfolding_all rfl):PE X (.Compare a [op,op'] [b,c] pos) (K6 r r' ta tb tc):=by
 intro pins s σ H Q I h;refine Compare_chain (thn (ha pins s σ H _ I h) fun v s1 ⟨x,H1,I1,r1,q1⟩=>chain_link (thn (hb pins s1 σ H1 _ I1 q1) fun u s2 ⟨y,H2,I2,r2,q2⟩=>
  thn (ho pins s2 σ H2 x y v u _ I2 r1 r2 q2) fun d s3 ⟨z,H3,I3,r3,k,e,q3⟩=>?_)) hm
 subst e;cases r3;refine wpAny_truthy_bool ?_;cases k with
 | false=>exact ite_ff ⟨.bl false,H3,I3,rfl,q3⟩
 | true=>exact ite_tt (chain_last (thn (hc pins s3 σ H3 _ I3 q3) fun w' s4 ⟨z',H4,I4,r4,q4⟩=>ho' pins s4 σ H4 y z' u w' Q I4 r2 r4 q4))
theorem RX {op op':CmpOp} {r r':R2} (ho:OpR X (compareOp op) r) (ho':OpR X (compareOp op') r') (ha:PE X a ta) (hb:PE X b tb) (hc:PE X c tc)
  (hm:lastMarks [op,op'] [b,c]=false:=by with_unfolding_all rfl):PT X (.Compare a [op,op'] [b,c] pos) (aC2 (K6 r r' ta tb tc)):=by
 intro pins s σ H Q I h;refine isTrue_chain (thn (ha pins s σ H _ I h) fun v s1 ⟨x,H1,I1,r1,q1⟩=>test_link (thn (hb pins s1 σ H1 _ I1 q1) fun u s2 ⟨y,H2,I2,r2,q2⟩=>
  thn (ho pins s2 σ H2 x y v u _ I2 r1 r2 q2) fun d s3 ⟨z,H3,I3,r3,k,e,q3⟩=>?_)) hm
 subst e;cases r3;refine wpAny_truthy_bool ?_;cases k with
 | false=>
  obtain ⟨k',e',q'⟩:=q3;cases e';exact ite_ff ⟨H3,I3,q'⟩
 | true=>
  refine ite_tt (test_last (thn (hc pins s3 σ H3 _ I3 q3) fun w' s4 ⟨z',H4,I4,r4,q4⟩=>thn (ho' pins s4 σ H4 y z' u w' _ I4 r2 r4 q4) fun d' s5 ⟨z2,H5,I5,r5,k2,e2,q5⟩=>?_));subst e2;cases r5;exact wpAny_truthy_bool ⟨H5,I5,q5⟩
def aEr (K:PySem.W.Frag) (x:V) (H:Hp) (k:Bool):Prop:=
 match x with
 | .non=>k=false
 | .bl b=>k=b
 | .int i=>k=(i != 0)
 | .str y=>y.length<=sizeLine/\k=((y.length:Int) != 0)
 | .byt y=>y.size<=sizeLine/\k=((y.size:Int) != 0)
 | .ref p=>(∃xs,SqL K H p xs/\k=!xs.isEmpty)\/(∃xs,SqT K H p xs/\k=!xs.isEmpty)\/∃kvs,H p=some (.dK kvs)/\k=!kvs.isEmpty
 | _=>False
theorem HR {κ:Type} {kvs:List (κ×V)} {vs:List (κ×Value)} (r:KV kvs vs):(!vs.isEmpty)=!kvs.isEmpty:=by
 cases r <;> rfl
theorem uT {xs:List V} {its:List Value} (r:Vals xs its):(!its.toArray.isEmpty)=!xs.isEmpty:=by
 cases r <;> simp
theorem n8:(sizeLine:Nat)<2 ^ 63:=by rw [sizeLine_eq];decide
theorem aC3:aGh X (fun x H Q=>∃k,aEr X.K x H k/\Q k H):=by
 intro pins s σ H x v Q I rx h;obtain ⟨k,e,q⟩:=h;have hl:=n8;have hs:sizeLine=16777216:=sizeLine_eq;cases x with
 | non=>
  cases rx;have e':k=false:=e;subst e';exact truthy_none ⟨H,I,q⟩
 | bl b=>
  cases rx;have e':k=b:=e;subst e';exact wpAny_truthy_bool ⟨H,I,q⟩
 | int i=>
  obtain ⟨t,rfl⟩:=rx;have e':k=(i != 0):=e;subst e';exact PySem.P.truthy_int ⟨H,I,q⟩
 | str y=>
  obtain ⟨t,rfl⟩:=rx;obtain ⟨hy,e'⟩:y.length<=sizeLine/\k=((y.length:Int) != 0):=e;subst e';exact PySem.P.truthy_str (by lia) ⟨H,I.tok _,q⟩
 | byt y=>
  obtain ⟨t,rfl⟩:=rx;obtain ⟨hy,e'⟩:y.size<=sizeLine/\k=((y.size:Int) != 0):=e;subst e';exact PySem.W.truthy_bytes (by lia) ⟨H,I.tok _,q⟩
 | ref p=>
  cases rx;have e':(∃xs,SqL X.K H p xs/\k=!xs.isEmpty)\/(∃xs,SqT X.K H p xs/\k=!xs.isEmpty)\/∃kvs,H p=some (.dK kvs)/\k=!kvs.isEmpty:=e;rcases e' with ⟨xs,hx,e'⟩|⟨xs,hx,e'⟩|⟨kvs,hx,e'⟩
  ·subst e';obtain ⟨its,r,pl,hz⟩:=I.list hx;have hlen:=r.length;exact wpAny_truthy_list pl.isList (by simp only [List.size_toArray];lia) ⟨H,I.tok _,by rw [uT r];exact q⟩
  ·subst e';obtain ⟨its,r,pl,hz⟩:=I.tuple hx;have hlen:=r.length;exact truthy_tuple pl (by simp only [List.size_toArray];lia) ⟨H,I.tok _,by rw [uT r];exact q⟩
  ·subst e';obtain ⟨hz,hS,vs,r,m⟩:kvs.length<=sizeLine/\(p==sysModules)=false/\∃vs,KV kvs vs/\s.heap.DictOf (dO X.prog X.w) p vs:=I.hok p _ hx;have hlen:kvs.length=vs.length:=Paired.length r;exact wpAny_truthy_dict hS m (by lia) ⟨H,I.tok _,by rw [HR r];exact q⟩
 | _=>exact (show False from e).elim
theorem RZ (ha:PE X a ta) (he:∀whole,isTrue a X.env whole=(do let v <- whole;standAt a.pos;holding [v] (truthy v))) :
  PT X a (fun σ H Q=>ta σ H fun x H'=>∃k,aEr X.K x H' k/\Q k H'):=by
 intro pins s σ H Q I h;exact isTrue_plain (thn (ha pins s σ H _ I h) fun v s1 ⟨x,H1,I1,r1,q1⟩=>aC3 pins s1 σ H1 x v Q I1 r1 q1) (he _)
theorem HS:OpR X (binaryOp .Add) (fun x y H Q=>∃i j,x=.str i/\y=.str j/\i.length+j.length<=sizeLine/\Q (.str (i++j)) H):=by
 intro pins s σ H x y v u Q I rx ry h;obtain ⟨i,j,rfl,rfl,hz,q⟩:=h;obtain ⟨t,rfl⟩:=rx;obtain ⟨t',rfl⟩:=ry;exact add_str (fun t' tk=>⟨.str (i++j),H,I.tok _,⟨_,rfl⟩,q⟩) hz
theorem vals1 {x:V} {us:List Value} (r:Vals [x] us):∃u,us=[u]/\RelV x u:=by
 cases r with
 | cons r1 r2=>cases r2;exact ⟨_,rfl,r1⟩
end
theorem K7 {h:Heap} {dx:Addr} {mA:Str->Option Value} (n:h.Ns1 dx mA):∃od,h.get? dx=some od/\∀name,PySem.W.lookIn name od=some (mA name):=by
 obtain ⟨o,es,ep,ho,hd,hk,_,hm⟩:=n;refine ⟨o,ho,fun name=>?_⟩;have e:=hm name;unfold nsFind findBy at e;rw [<-Array.find?_toList] at e;unfold PySem.W.lookIn;rw [hd];dsimp only;split
 ·rename_i y q;rw [q] at e;exact congrArg some e
 ·rename_i q;rw [q] at e;have a:es.toList.any (·.refKey)=false:=by
   rw [List.any_eq_false];intro y hy;obtain ⟨z,t,hkey⟩:=hk y (Array.mem_toList_iff.mp hy);simp [DictEntry.refKey,hkey]
  have a':¬es.toList.any (·.refKey)=true:=by rw [a];exact Bool.false_ne_true
  rw [if_neg a'];exact congrArg some e
theorem RM.some_of {v:V} {o:Option Value} (r:RM (some v) o):∃u,o=some u/\RelV v u:=by
 cases o with
 | none=>exact (show False from r).elim
 | some u=>exact ⟨u,rfl,r⟩
section
variable {s:Shared} {f:Str} {A:Around} {E:Value->Shared->Prop}
theorem YH {prog:Program} {w:World} {env:Env} {e:Expr} {f:Str} {pos:Pos} {s:Shared} {Q:Value->Shared->Prop} (hb:attributeBase e f env (eval e env)=eval e env)
  (h:wpAny (model prog w) A (eval e env) (fun o s₁=>wpAny (model prog w) A (getAttr o f true) Q E s₁) E s):wpAny (model prog w) A (eval (.Attribute e f pos) env) Q E s:=
 Attribute_any_ h (by rw [arm_eval_Attribute,hb])
end
structure jK (k:Nat) (A:Around):Prop where
 hd:A.handled=none
 dp:A.depth+3*k+5<recursionLimit
 un:A.units+16*k+200<cLine
theorem jK.mono {j k:Nat} {A:Around} (r:jK k A) (h:j<=k):jK j A:=⟨r.hd,by have:=r.dp;lia,by have:=r.un;lia⟩
theorem jK.deeper {k:Nat} {A:Around} (r:jK (k+1) A) (env:Env):jK k (A.deeper env):=
 ⟨r.hd,by have:=r.dp;show A.depth+1+3*k+5<_;lia,by have:=r.un;show A.units+3+16*k+200<_;lia⟩
theorem HW {A:Around} {C:Addr} {us:List Value} {kw:List (Str×Value)}:(A.under (.builtin "type.__call__" ⟨.ref C::us,kw⟩)).depth=A.depth+1:=by
 first|rfl|simp [Around.under,Code.weight,Code.isCreation,Code.isGuard,Code.isCaller,Code.frames,Code.isFrame,guardIds]
theorem HX {A:Around} {C:Addr} {us:List Value} {kw:List (Str×Value)}:(A.under (.builtin "type.__call__" ⟨.ref C::us,kw⟩)).units=A.units+1:=by
 first|rfl|simp [Around.under,Code.cUnits,Code.frames,Code.isFrame]
theorem jK.make {k:Nat} {A:Around} (r:jK (k+1) A) (C:Addr) (us:List Value) (kw:List (Str×Value)):jK k (A.under (.builtin "type.__call__" ⟨.ref C::us,kw⟩)):=
 ⟨r.hd,by have:=r.dp;rw [HW];lia,by have:=r.un;rw [HX];lia⟩
theorem jK.depth {k:Nat} {A:Around} (r:jK k A):A.depth<recursionLimit:=by have:=r.dp;lia
theorem jK.units {k:Nat} {A:Around} (r:jK k A):A.units+64<cLine:=by have:=r.un;lia
noncomputable def aFw:TA:=fun _ H Q=>Q [] H
noncomputable def YJ (ta:TE) (tr:TA):TA:=fun σ H Q=>ta σ H fun x H1=>tr σ H1 fun xs H2=>Q (x::xs) H2
section
variable {X:Cx} {e:Expr} {es:List Expr} {te:TE} {t:TA} {pos:Pos}
theorem fW:PA X [] aFw:=fun _ _ _ _ H Q I h=>Calls.spliced_nil ⟨[],H,I,.nil,h⟩
theorem b7 (ha:PE X e te) (hr:PA X es t) (hs:starEach (e::es) X.env=(false,eval e X.env)::starEach es X.env:=by rfl):PA X (e::es) (YJ te t):=by
 intro pos pins s σ H Q I h;rw [hs];show wpAny _ _ (spliced ((false,eval e X.env)::backTo pos (starEach es X.env))) _ _ s;refine Calls.spliced_cons (thn (ha pins s σ H _ I h) fun u s1 ⟨x,H1,I1,r1,q1⟩=>?_);exact thn (hr pos pins s1 σ H1 _ I1 q1) fun us s2 ⟨xs,H2,I2,r2,q2⟩=>⟨x::xs,H2,I2,.cons r1 r2,q2⟩
def aGj (t:TA):TE:=fun σ H Q=>t σ H fun xs H1=>xs.length<=sizeLine/\∀p,H1 p=none->Q (.ref p) (upd H1 p (.tup xs))
def aFx (t:TA):TE:=fun σ H Q=>t σ H fun xs H1=>xs.length<=sizeLine/\∀p,H1 p=none->Q (.ref p) (upd H1 p (.lst xs))
theorem V9 {x1} (h:PA X es t):PE X (.Tuple es x1 pos) (aGj t):=by
 intro pins s σ H Q I hq;refine wpAny_Tuple_spliced (thn (h pos pins s σ H _ I hq) fun us s1 ⟨xs,H1,I1,r,z,q⟩=>⟨by rw [<-r.length];exact z,?_⟩);have hf:H1 s1.heap.objs.size=none:=I1.hok.fresh (Nat.le_refl _);refine ⟨.ref s1.heap.objs.size,upd H1 s1.heap.objs.size (.tup xs),I1.laid (t':=s1.toks) (fun b u e=>Heap.get?_push_of_some _ e) (Nat.le_refl _) ?_,rfl,q _ hf⟩;exact ⟨z,us,r,⟨_,Heap.get?_push_size _ rfl,rfl,_,rfl⟩⟩
theorem wV (h:PA X es t):PE X (.List es pos) (aFx t):=by
 intro pins s σ H Q I hq;refine wpAny_List_spliced (thn (h pos pins s σ H _ I hq) fun us s1 ⟨xs,H1,I1,r,z,q⟩=>⟨by rw [<-r.length];exact z,?_⟩);have hf:H1 s1.heap.objs.size=none:=I1.hok.fresh (Nat.le_refl _);refine ⟨.ref s1.heap.objs.size,upd H1 s1.heap.objs.size (.lst xs),I1.laid (t':=s1.toks) (fun b u e=>Heap.get?_push_of_some _ e) (Nat.le_refl _) ?_,rfl,q _ hf⟩;exact ⟨z,us,0,r,Heap.get?_push_size _ rfl⟩
end
abbrev Sp:=List V->Hp->VK->XK->Prop
abbrev CXT:=List Env->Hp->Shared->XK->Value->Shared->Prop
structure YK (P:Program) (w:World) (K:PySem.W.Frag) (mg:Str->Option Value) (base:Heap) (A:Around) (outer:List Env) (s:Shared) (H:Hp):Prop where
 frames:A.frames=some outer
 mod:Mod K mg base
 bs:∀b o,base.get? b=some o->s.heap.get? b=some o/\H b=none
 bsz:base.objs.size<=s.heap.objs.size
 HJ:s.heap.FunFrames base outer
 frf:∀b∈frs outer,H b=none
 hok:HOk P w H s.heap
 bare:AllBare s.gens
def CE (outer:List Env) (P:Program) (w:World) (H:Hp) (s:Shared) (Q:VK) (u:Value) (s':Shared):Prop:=
 ∃v H',s'.os=s.os/\AllBare s'.gens/\Un (frs outer) [] H H' s.heap s'.heap/\HOk P w H' s'.heap/\RelV v u/\Q v H'
def CR (CX:CXT) (outer:List Env) (P:Program) (w:World) (H:Hp) (s:Shared) (Q:VK) (E:XK) (r:Result) (s':Shared):Prop:=
 match r with
 | .ok (.ret u)=>CE outer P w H s Q u s'
 | .ok _=>False
 | .error e=>CX outer H s E e s'
structure uU (P:Program) (w:World) (K:PySem.W.Frag) (mg:Str->Option Value) (base:Heap) (CX:CXT) (k:Nat) (f:Addr) (fd:FuncData) (ps:List Str) (sp:Sp):Prop where
 len:∀vs H Q E,sp vs H Q E->vs.length=ps.length
 run:∀(A:Around) (outer:List Env) (s:Shared) (H:Hp) (args:Args) (us:List Value) (vs:List V) (Q:VK) (E:XK),jK k A->YK P w K mg base A outer s H->BindsTo s fd args (ps.zip us)->Vals vs us->sp vs H Q E->
  codeAny (model P w) A (.call (.ref f) args) (CR CX outer P w H s Q E) s
theorem YK.make {P:Program} {w:World} {K:PySem.W.Frag} {mg:Str->Option Value} {base:Heap} {A:Around} {outer:List Env} {s:Shared} {H:Hp} (e:YK P w K mg base A outer s H) (C:Addr) (us:List Value) (kw:List (Str×Value)) :
  YK P w K mg base (A.under (.builtin "type.__call__" ⟨.ref C::us,kw⟩)) outer s H:=⟨by first|exact e.frames|(simpa [Around.under,Code.envs,Code.isFrame,pushEnvs] using e.frames),e.mod,e.bs,e.bsz,e.HJ,e.frf,e.hok,e.bare⟩
section
variable {X:Cx} {pins:List (Addr×Obj)} {σ:St} {H:Hp} {s s':Shared}
theorem Inv.env0 (I:Inv X pins σ H s):YK X.prog X.w X.K X.mg X.base X.A X.stack s H:=
 ⟨I.ok.frames,I.ok.mod,I.bs,Nat.le_trans I.ok.bsz I.sz,I.stack,I.zB,I.hok,I.bare⟩
theorem Inv.after {Q:VK} {u:Value} (I:Inv X pins σ H s) (h:CE X.stack X.prog X.w H s Q u s'):EP X pins σ Q u s':=by
 obtain ⟨v,H',os,bare,un,hok,r,q⟩:=h;obtain ⟨hh,g,d,t,os'⟩:=s';obtain rfl:os'=s.os:=os;exact ⟨v,H',I.call (h':=hh) (g':=g) (d':=d) (t':=t) (ch:=[]) un hok bare (fun b z=>absurd z (by simp)),r,q⟩
end
noncomputable def aEs (sp:Sp) (dvs:List V) (E:XK) (t:TA):TE:=fun σ H Q=>t σ H fun vs H1=>sp (vs++dvs) H1 Q E
def Binds (K:PySem.W.Frag) (fd:FuncData) (ps:List Str) (ds:List Value):Prop:=
 ∀(s:Shared) (us:List Value),K.In s.heap->(us++ds).length=ps.length->BindsTo s fd ⟨us,[]⟩ (ps.zip (us++ds))
theorem Binds.all {K:PySem.W.Frag} {fd:FuncData} {ps:List Str} (h:∀us:List Value,us.length=ps.length->bindArgs fd ⟨us,[]⟩=pure (ps.zip us)):Binds K fd ps []:=fun s us _ hl=>by
 rw [List.append_nil] at hl ⊢;exact .of_eq (h us hl)
def K8 (CX:CXT) (X:Cx) (E:XK):Prop:=∀(pins:List (Addr×Obj)) (σ:St) (H:Hp) (s:Shared) (e:Value) (s':Shared),Inv X pins σ H s->CX X.stack H s E e s'->X.xe e s'
section
variable {X:Cx} {CX:CXT} {k:Nat} {f:Addr} {fd:FuncData} {ps:List Str} {sp:Sp} {dvs:List V} {ds:List Value} {E:XK} {x:Str} {p pos:Pos} {e:Expr} {es:List Expr} {t:TA}
theorem aC4 {pins:List (Addr×Obj)} {σ:St} {H:Hp} {s:Shared} {Q:VK} {us:List Value} {vs:List V} (F:uU X.prog X.w X.K X.mg X.base CX k f fd ps sp) (hr:jK k X.A) (hb:Binds X.K fd ps ds) (hd:Vals dvs ds) (hx:K8 CX X E)
  (I:Inv X pins σ H s) (r:Vals vs us) (h:sp (vs++dvs) H Q E):wpAny (model X.prog X.w) X.A (call (.ref f) us) (EP X pins σ Q) X.xe s:=by
 have r2:Vals (vs++dvs) (us++ds):=r.append hd;have hl:(us++ds).length=ps.length:=by rw [<-r2.length];exact F.len _ _ _ _ h
 refine wpAny_call (codeAny_mono (F.run X.A X.stack s H ⟨us,[]⟩ (us++ds) (vs++dvs) Q E hr I.env0 (hb s us I.kIn hl) r2 h) fun r s' hq=>?_);cases r with
 | error e=>exact hx pins σ H s e s' I hq
 | ok fl=>
  cases fl with
  | ret u=>exact I.after hq
  | next=>exact False.elim hq
  | brk=>exact False.elim hq
  | cont=>exact False.elim hq
theorem YL (F:uU X.prog X.w X.K X.mg X.base CX k f fd ps sp) (hr:jK k X.A) (hg:Gl X x) (hm:X.mg x=some (.ref f)) (hk:PySem.W.keepIn X.K (.ref f)=true) (hb:Binds X.K fd ps ds) (hd:Vals dvs ds) (hx:K8 CX X E)
  (ha:PA X (e::es) t) (hdb:nDb x:=by decide) (he:starEach (e::es) X.env=(false,eval e X.env)::starEach es X.env:=by rfl) (hpl:(backTo pos (starEach es X.env)).any (·.1)=false:=by rfl) :
  PE X (.Call (.Name x p) (e::es) [] pos) (aEs sp dvs E t):=by
 intro pins s σ H Q I h;refine wpAny_Call_Name_kw (lJ I hg hm ?_ hdb);refine PySem.W.callWith_K (h₀:=X.base) I.ok.mod.kin hk (thn (ha pos pins s σ H _ I h) fun us s1 ⟨vs,H1,I1,r,q⟩=>⟨I1.kIn,?_⟩) he hpl;exact aC4 F hr hb hd hx I1 r q
end
structure cJ (N P:List Str) (sc:Scope):Prop where
 kind:sc.kind=.function
 co:sc.isCoroutine=false
 gen:sc.isGenerator=false
 nd:N.Nodup
 pre:N.take P.length=P
 par:∀x∈P,sc.names.lookup x=some .local\/sc.names.lookup x=some .cell
 nofree:∀y∈sc.names,y.2≠.free
theorem wW {kindOf:Str->Option NameKind} {x:Str}:∀{binds:List (Str×Value)} {m:Str->Option Value},(∀v,(x,v)∉binds)->bindL kindOf binds m x=m x
 | [],_,_=>rfl
 | (n,v)::r,m,h=>by
  unfold bindL;rw [wW fun w hw=>h w (List.mem_cons_of_mem _ hw)];split
  ·have:x≠n:=by rintro rfl;exact h v List.mem_cons_self
   simp [this]
  ·rfl
theorem wX {kindOf:Str->Option NameKind} {x:Str}:∀{binds:List (Str×Value)} {m:Str->Option Value},(∀v,(x,v)∉binds)->bindC kindOf binds m x=m x
 | [],_,_=>rfl
 | (n,v)::r,m,h=>by
  unfold bindC;rw [wX fun w hw=>h w (List.mem_cons_of_mem _ hw)];split
  ·rfl
  ·have:x≠n:=by rintro rfl;exact h v List.mem_cons_self
   simp [this]
theorem wY {kindOf:Str->Option NameKind} {x:Str} {v:Value}:∀{P:List Str} {vs:List Value} {i:Nat} {m:Str->Option Value},P.Nodup->P[i]?=some x->vs[i]?=some v->kindOf x=some .local->
  bindL kindOf (P.zip vs) m x=some v
 | [],_,_,_,_,h,_,_=>by simp at h
 | _::_,[],_,_,_,_,h,_=>by simp at h
 | p::P,w::vs,0,m,nd,h1,h2,hk=>by
  simp at h1 h2;subst h1;subst h2;show bindL kindOf ((p,w)::P.zip vs) m p=_;unfold bindL;rw [wW fun v hv=>(List.nodup_cons.mp nd).1 (List.of_mem_zip hv).1,if_pos hk];simp
 | p::P,w::vs,i+1,m,nd,h1,h2,hk=>by
  show bindL kindOf ((p,w)::P.zip vs) m x=_;unfold bindL;exact wY (i:=i) (List.nodup_cons.mp nd).2 (by simpa using h1) (by simpa using h2) hk
theorem wZ {kindOf:Str->Option NameKind} {x:Str} {v:Value}:∀{P:List Str} {vs:List Value} {i:Nat} {m:Str->Option Value},P.Nodup->P[i]?=some x->vs[i]?=some v->kindOf x≠some .local->
  bindC kindOf (P.zip vs) m x=some v
 | [],_,_,_,_,h,_,_=>by simp at h
 | _::_,[],_,_,_,_,h,_=>by simp at h
 | p::P,w::vs,0,m,nd,h1,h2,hk=>by
  simp at h1 h2;subst h1;subst h2;show bindC kindOf ((p,w)::P.zip vs) m p=_;unfold bindC;rw [wX fun v hv=>(List.nodup_cons.mp nd).1 (List.of_mem_zip hv).1,if_neg hk];simp
 | p::P,w::vs,i+1,m,nd,h1,h2,hk=>by
  show bindC kindOf ((p,w)::P.zip vs) m x=_;unfold bindC;exact wZ (i:=i) (List.nodup_cons.mp nd).2 (by simpa using h1) (by simpa using h2) hk
noncomputable def start (N:List Str) (vs:List V):St:=vs.map some++List.replicate (N.length-vs.length) none
noncomputable def uB (CX:CXT) (P:Program) (w:World) (K:PySem.W.Frag) (mg:Str->Option Value) (base:Heap) (N:List Str) (qual:Str) (scope:Scope) (f:Addr) (cd:Value) (A:Around) (outer:List Env) (s:Shared) (H:Hp) (E:XK):Cx where
 prog:=P
 w:=w
 K:=K
 mg:=mg
 base:=base
 A:=A.deeper (envOfC qual scope s.heap.objs.size f cd)
 N:=N
 s₀:=s
 H₀:=H
 env:=envOfC qual scope s.heap.objs.size f cd
 outer:=outer
 stack:=envOfC qual scope s.heap.objs.size f cd::outer
 ex:=[]
 calm:=true
 fn:=fun _=>true
 pn:=[]
 xe:=fun e s'=>wpAny (model P w) (A.deeper (envOfC qual scope s.heap.objs.size f cd)) (leaving (envOfC qual scope s.heap.objs.size f cd) e) (fun _ s''=>CX outer H s E e s'') (fun e' s''=>CX outer H s E e' s'') s'
theorem B_ {sc:Scope} {n:Nat} {x:Str} (h:sc.names.lookup x=some .cell):∃c,(cellsFrom n sc.names []).lookup x=some c:=by
 have q:=PySem.W.cellsFrom_some sc.names n [] (.inl h);exact Option.isSome_iff_exists.mp q
theorem K9 {CX:CXT} {P:Program} {w:World} {K:PySem.W.Frag} {mg:Str->Option Value} {base:Heap} {N ps:List Str} {qual:Str} {scope:Scope} {f:Addr} {cd:Value} {A:Around} {outer:List Env} {s s1:Shared} {H:Hp} {E:XK} {us:List Value} {vs:List V}
  (S:cJ N ps scope) (hd:A.handled=none) (e0:YK P w K mg base A outer s H) (hl:vs.length=ps.length) (r:Vals vs us)
  (x:InCallC s s.heap.objs.size (bindL (envOfC qual scope s.heap.objs.size f cd).kindOf (ps.zip us) fun _=>none) (cellsFrom (s.heap.objs.size+1) scope.names []) (bindC (envOfC qual scope s.heap.objs.size f cd).kindOf (ps.zip us) fun _=>none) s1) :
  Inv (uB CX P w K mg base N qual scope f cd A outer s H E) [] (start N vs) H s1:=by
 have hpl:ps.length<=N.length:=by have:=congrArg List.length S.pre;rw [List.length_take] at this;lia
 obtain ⟨h1,tk,rfl,hk⟩:=x.done;have noA:∀b:Addr,b∉(uB CX P w K mg base N qual scope f cd A outer s H E).ex:=fun b z=>absurd (show b∈([]:List Addr) from z) (by simp)
 refine ⟨⟨e0.mod,S.kind,rfl,rfl,Nat.le_refl _,fun y z c h1 h2=>?_,fun y hy=>?_,fun y c _ h=>?_,fun _=>hd,Around.frames_deeper e0.frames,.inr ⟨rfl,rfl⟩,fun b z=>absurd z (noA b),e0.bs,e0.bsz,fun b _ _=>noA b,fun b z=>absurd z (noA b),e0.HJ,e0.frf⟩,
  rfl,e0.bare,Un.kept hk,⟨_,x.toInCall.ns,fun i y v h1 h2 h3=>?_⟩,fun y c h=>⟨_,x.cell y c h⟩,e0.hok.fresh (Nat.le_refl _),fun y c h=>?_,fun p hp=>absurd (show p∈([]:List (Addr×Obj)) from hp) (by simp),e0.hok.kept hk,?_⟩
 ·exact name_of_addr x.apart (PySem.mem_of_lookup h1) (PySem.mem_of_lookup h2)
 ·have hy:scope.names.lookup y=some .cell\/scope.names.lookup y=some .free:=hy;rcases hy with hy|hy
  ·exact B_ hy
  ·exact absurd rfl (S.nofree _ (PySem.mem_of_lookup hy))
 ·exact Nat.le_of_lt (x.above y c (PySem.mem_of_lookup h))
 ·have hi:i<vs.length:=by
   unfold start at h2;by_cases hi:i<vs.length
   ·exact hi
   ·rw [List.getElem?_append_right (by simpa using hi)] at h2;rw [List.getElem?_replicate] at h2;split at h2 <;> cases h2
  have ha:vs[i]?=some v:=by
   unfold start at h2;rw [List.getElem?_append_left (by simpa using hi),List.getElem?_map] at h2;cases e:vs[i]? with
   | none=>rw [e] at h2;cases h2
   | some a=>rw [e] at h2;cases h2;rfl
  obtain ⟨u,hu,rv⟩:=r.get ha;have hp:ps[i]?=some y:=by
   rw [<-S.pre,List.getElem?_take_of_lt (by lia)];exact h1
  have ndP:ps.Nodup:=by rw [<-S.pre];exact S.nd.sublist (List.take_sublist _ _)
  refine ⟨u,rv,?_⟩;rcases S.par y (List.mem_of_getElem? hp) with k|k
  ·exact .inl ⟨k,wY ndP hp hu k⟩
  ·obtain ⟨c,e⟩:=B_ (n:=s.heap.objs.size+1) k;refine .inr ⟨.inl k,c,e,?_⟩;have q:=x.cell y c e;rw [wZ ndP hp hu (by show scope.names.lookup y≠_;rw [k];decide)] at q;exact q
 ·exact e0.hok.fresh (Nat.le_of_lt (x.above y c (PySem.mem_of_lookup h)))
 ·unfold start;show _=N.length;rw [List.length_append,List.length_map,List.length_replicate];lia
theorem aC5 {CX:CXT} {P:Program} {w:World} {K:PySem.W.Frag} {mg:Str->Option Value} {base:Heap} {k:Nat} {f:Addr} {name qual:Str} {params:Arguments} {body:List Stmt} {scope:Scope} {dV kV doc pm cdv ct oc:Value} {an od:Option Addr}
  {osl:Array (Option Value)} {N ps:List Str} {sp:Sp} (lk:K.lookup f=some ⟨oc,od,.func (PySem.W.fnOf name qual params body scope dV kV doc pm an cdv ct),osl⟩) (hcd:PySem.W.codeIn K cdv qual=true) (S:cJ N ps scope)
  (len:∀vs H Q E,sp vs H Q E->vs.length=ps.length)
  (hbody:∀(A:Around) (outer:List Env) (s:Shared) (H:Hp) (vs:List V) (Q:VK) (E:XK),jK k (A.deeper (envOfC qual scope s.heap.objs.size f cdv))->sp vs H Q E->
   ∃t,PSs (uB CX P w K mg base N qual scope f cdv A outer s H E) body t/\t {nx:=fun _ H'=>Q .non H',rt:=Q} (start N vs) H) :
  uU P w K mg base CX (k+1) f (PySem.W.fnOf name qual params body scope dV kV doc pm an cdv ct) ps sp:=by
 refine ⟨len,fun A outer s H args us vs Q E hr e0 hb r hsp=>?_⟩;have hl:=len _ _ _ _ hsp;have KX:K.In s.heap:=e0.mod.kin.keeps fun b o e=>(e0.bs b o e).1
 have lim:s.heap.NoLimit:=e0.mod.nolimit.keeps fun b o e=>(e0.bs b o e).1
 have hkind:∀y∈ps.zip us,scope.names.lookup y.1=some .local\/(scope.names.lookup y.1=some .cell/\((cellsFrom (s.heap.objs.size+1) scope.names []).lookup y.1).isSome=true):=fun ⟨n,v⟩ hy=>by
  rcases S.par n (List.of_mem_zip hy).1 with q|q
  ·exact .inl q
  ·exact .inr ⟨q,PySem.W.cellsFrom_some _ _ _ (.inl q)⟩
 refine codeAny_call_function hr.depth (KX _ _ lk) rfl S.co S.gen rfl (PySem.W.codeRec_of KX hcd) (hb _ _ _ _ ?_);refine wpAny_newFunctionEnv_cells S.kind hkind fun env he s1 x=>?_
 subst he;refine ⟨lim.keeps x.toInCall.keep,codeAny_func ?_⟩;obtain ⟨t,ht,hq⟩:=hbody A outer s H vs Q E (hr.deeper _) hsp;have I:Inv (uB CX P w K mg base N qual scope f cdv A outer s H E) [] (start N vs) H s1:=K9 S hr.hd e0 hl r x;refine wpAny_mono (ht [] s1 (start N vs) H _ I hq) (fun fl s' hs=>?_) fun e s' hs=>hs
 have fin:∀{σ':St} {H':Hp} {v:V} {u:Value},Inv (uB CX P w K mg base N qual scope f cdv A outer s H E) [] σ' H' s'->RelV v u->Q v H'->CE outer P w H s Q u s':=
  fun {σ' H' v u} J rv q=>⟨v,H',J.os,J.bare,J.base,J.hok,rv,q⟩
 cases fl with
 | ret u=>
  obtain ⟨v,σ',H',J,rv,q⟩:=hs;exact fin J rv q
 | next=>
  obtain ⟨σ',H',J,q⟩:=hs;exact fin (v:=V.non) (u:=Value.none) J rfl q
 | brk=>
  obtain ⟨_,_,_,q⟩:=hs;exact False.elim q
 | cont=>
  obtain ⟨_,_,_,q⟩:=hs;exact False.elim q
section
variable {X:Cx} {x:Str} {p pos:Pos} {e:Expr} {es:List Expr} {t:TA} {id T:String} {r:List V->Hp->VK->Prop}
noncomputable def tCB (r:List V->Hp->VK->Prop) (t:TA):TE:=fun σ H Q=>t σ H fun vs H1=>r vs H1 Q
theorem nP (hc:jN X (.builtin id) r) (hg:Gl X x) (hm:X.mg x=none) (hv:bootBuiltins x=some (.builtin id)) (ha:PA X (e::es) t) (hn:x ≠ "__name__":=by decide) (hdb:nDb x:=by decide)
  (he:starEach (e::es) X.env=(false,eval e X.env)::starEach es X.env:=by rfl) (hpl:(backTo pos (starEach es X.env)).any (·.1)=false:=by rfl):PE X (.Call (.Name x p) (e::es) [] pos) (tCB r t):=by
 intro pins s σ H Q I h;refine wpAny_Call_Name_kw (uR I hg hm hv ?_ hn hdb);exact PyProof.Rows.callWith_builtin1 (thn (ha pos pins s σ H _ I h) fun us s1 ⟨vs,H1,I1,r1,q1⟩=>hc pins s1 σ H1 vs us Q I1 r1 q1) he hpl
theorem K_ (hc:jN X (.type T) r) (hg:Gl X x) (hm:X.mg x=none) (hv:bootBuiltins x=some (.type T)) (ha:PA X (e::es) t) (hn:x ≠ "__name__":=by decide) (hdb:nDb x:=by decide)
  (he:starEach (e::es) X.env=(false,eval e X.env)::starEach es X.env:=by rfl) (hpl:(backTo pos (starEach es X.env)).any (·.1)=false:=by rfl):PE X (.Call (.Name x p) (e::es) [] pos) (tCB r t):=by
 intro pins s σ H Q I h;refine wpAny_Call_Name_kw (uR I hg hm hv ?_ hn hdb);exact PyProof.Rows.callWith_type1 (thn (ha pos pins s σ H _ I h) fun us s1 ⟨vs,H1,I1,r1,q1⟩=>hc pins s1 σ H1 vs us Q I1 r1 q1) he hpl
end
end L2
namespace HT
open PySem PyProof.Rows
section
variable {prog:Program} {w:World} {A:Around} {E:Value->Shared->Prop} {s:Shared}
noncomputable def sIx (n d:Nat):Option Int->Nat
 | none=>d
 | some v=>if v<0 then (v+(n:Int)).toNat else min v.toNat n
theorem aC6 (n d:Nat) (hd:d<=n) (o:Option Int):sIx n d o<=n:=by
 cases o with
 | none=>exact hd
 | some v=>
  show (if v<0 then (v+(n:Int)).toNat else min v.toNat n)<=n;by_cases hv:v<0
  ·rw [if_pos hv];lia
  ·rw [if_neg hv];exact Nat.min_le_right _ _
theorem LC (v:Int) (n d:Nat):(if v<0 then max (v+(n:Int)) 0 else min v (n:Int))=((sIx n d (some v):Nat):Int):=by
 show (if v<0 then max (v+(n:Int)) 0 else min v (n:Int))=(((if v<0 then (v+(n:Int)).toNat else min v.toNat n):Nat):Int);by_cases hv:v<0
 ·simp only [if_pos hv];lia
 ·simp only [if_neg hv];lia
theorem HY (lo hi:Option Int) (n:Nat):Builtin.Slice.sliceAdjust lo hi 1 (n:Int)=(((sIx n 0 lo:Nat):Int),((sIx n n hi:Nat):Int)):=by
 have h1:¬((1:Int)<0):=by lia
 unfold Builtin.Slice.sliceAdjust;simp only [h1,if_false];refine Prod.ext ?_ ?_
 ·cases lo with
  | none=>rfl
  | some v=>exact LC v n 0
 ·cases hi with
  | none=>rfl
  | some v=>exact LC v n n
theorem H_ (i j:Nat):Builtin.Slice.slicePlaces (i:Int) (j:Int) 1=j-i:=by
 unfold Builtin.Slice.slicePlaces;have h1:(1:Int) > 0:=by lia
 simp only [h1,if_true,Int.ediv_one];split <;> lia
theorem uV {v:Value} {o:Option Int} {Q:Option Int->Shared->Prop} (p:IsPart v o) (h:Q o s):wpAny (model prog w) A (Builtin.Slice.slicePartIndex v) Q E s:=by
 cases p with
 | none=>exact slicePart_none h
 | int i t=>exact slicePart_int h
theorem mW {sl:Addr} {vl vu:Value} {lo hi:Option Int} {n:Nat} {Q:Int×Int×Nat->Shared->Prop} (hs:s.heap.IsSliceOf sl vl vu .none) (pl:IsPart vl lo) (pu:IsPart vu hi)
  (h:Q (((sIx n 0 lo:Nat):Int),1,sIx n n hi-sIx n 0 lo) s):wpAny (model prog w) A (Builtin.Slice.sliceApplied (.ref sl) (pure (n:Int))) Q E s:=by
 obtain ⟨os,hos,hcs,hds⟩:=id hs;unfold Builtin.Slice.sliceApplied Builtin.Slice.sliceFields;refine wpAny_bind (wpAny_bind (wpAny_field hos hds (x:=vl) rfl (wpAny_bind (wpAny_field hos hds (x:=vu) rfl (wpAny_bind (wpAny_field hos hds (x:=.none) rfl (wpAny_pure ?_)))))));refine wpAny_bind (slicePart_none ?_);show wpAny _ _ (if ((1:Int)==0)=true then _ else _) _ _ s;rw [if_neg (by decide)];refine wpAny_bind (uV pl (wpAny_bind (uV pu (wpAny_bind (wpAny_pure ?_)))));show wpAny _ _ (match Builtin.Slice.sliceAdjust lo hi 1 (n:Int) with|(lo,hi)=>pure (lo,(1:Int),Builtin.Slice.slicePlaces lo hi 1)) _ _ s;rw [HY lo hi n];show wpAny _ _ (pure (((sIx n 0 lo:Nat):Int),(1:Int),Builtin.Slice.slicePlaces ((sIx n 0 lo:Nat):Int) ((sIx n n hi:Nat):Int) 1)) _ _ s;rw [H_];exact wpAny_pure h
theorem R0 (xs:Array Value) (i k:Nat):((List.range k).filterMap fun (m:Nat)=>xs[((i:Int)+(m:Int)*1).toNat]?).toArray=((xs.toList.drop i).take k).toArray:=by
 have e:(fun (m:Nat)=>xs[((i:Int)+(m:Int)*1).toNat]?)=fun m=>xs[i+m]?:=by
  funext m
  have:((i:Int)+(m:Int)*1).toNat=i+m:=by lia
  rw [this]
 rw [e];have:=pick_run xs i k;rw [List.filterMap_map] at this;have e2:((fun x=>xs[x]?) ∘ fun x=>i+x)=fun m=>xs[i+m]?:=rfl
 rw [e2] at this;rw [this]
theorem lK {t sl:Addr} {items:Array Value} {vl vu:Value} {lo hi:Option Int} {Q:Value->Shared->Prop} (ht:IsTup s.heap t items) (hs:s.heap.IsSliceOf sl vl vu .none) (pl:IsPart vl lo) (pu:IsPart vu hi)
  (hw:¬(sIx items.size 0 lo=0/\sIx items.size items.size hi=items.size))
  (h:Q (.ref s.heap.objs.size) {s with heap:=s.heap.push {cls:=.type "tuple",data:=.seq ((items.toList.drop (sIx items.size 0 lo)).take (sIx items.size items.size hi-sIx items.size 0 lo)).toArray}})
  (hsz:items.size<=sizeLine):wpAny (model prog w) A (getItem (.ref t) (.ref sl)) Q E s:=by
 have htake:sizeOk (.seq ((items.toList.drop (sIx items.size 0 lo)).take (sIx items.size items.size hi-sIx items.size 0 lo)).toArray):=by
  show ((items.toList.drop (sIx items.size 0 lo)).take (sIx items.size items.size hi-sIx items.size 0 lo)).toArray.size<=sizeLine;rw [List.size_toArray,List.length_take,List.length_drop,Array.length_toList];lia
 have hj:sIx items.size items.size hi<=items.size:=aC6 _ _ (Nat.le_refl _) hi;obtain ⟨os,hos,hcs,hds⟩:=id hs;have hTs:s.TypeIs (.ref sl) "slice":=⟨os,hos,hcs⟩
 unfold getItem
 try with_reducible refine wpAny_holding ?_
 first|refine wpAny_bind (wpAny_pure ?_)|skip
 refine wpAny_bind (wpAny_sequenceKey ht.typeIs (by decide) ?_);refine wpAny_bind (wpAny_callSpecial?_slot (name:=Str.ofString "__getitem__") ht.typeIs PyProof.Rows.slot_tuple_getitem
  (wpAny_call_entry PyProof.Rows.slot_tuple_getitem ht.typeIs entry_tuple_getitem ?_ (args_tuple_getitem _ _)))
 show wpAny _ _ (Builtin.Tuple.tupleItemsOf (.ref t) >>= _) _ _ s;refine wpAny_bind (tupleItemsOf_ ht ?_);refine wpAny_bind (wpAny_typeOf hTs ?_);rw [if_pos (by decide)];refine wpAny_bind (mW hs pl pu ?_);have hno:¬((((sIx items.size 0 lo:Nat):Int)==0&&(1:Int)==1&&(sIx items.size items.size hi-sIx items.size 0 lo)==items.size)=true):=by
  intro q;rw [Bool.and_eq_true,Bool.and_eq_true] at q;have q1:((sIx items.size 0 lo:Nat):Int)=0:=eq_of_beq q.1.1;have q2:sIx items.size items.size hi-sIx items.size 0 lo=items.size:=eq_of_beq q.2;exact hw ⟨by lia,by lia⟩
 show wpAny _ _ (if (((sIx items.size 0 lo:Nat):Int)==0&&(1:Int)==1&&(sIx items.size items.size hi-sIx items.size 0 lo)==items.size)=true then _ else _) _ _ s;rw [if_neg hno,R0]
 first
  | exact wpAny_bind (m:=Builtin.Tuple.tupleExact _) (wpAny_newObj_type (wpAny_pure ⟨_,rfl,wpAny_pure h⟩) htake)
  | exact wpAny_bind (m:=Builtin.Tuple.tupleExact _) (wpAny_newObj_type (wpAny_bind (wpAny_pure (wpAny_pure ⟨_,rfl,wpAny_pure h⟩))) htake)
  | exact wpAny_bind (wpAny_bind (m:=Builtin.Tuple.tupleExact _) (wpAny_newObj_type (wpAny_pure (wpAny_pure ⟨_,rfl,wpAny_pure h⟩)) htake))
  | exact wpAny_bind (wpAny_bind (m:=Builtin.Tuple.tupleExact _) (wpAny_newObj_type (wpAny_pure ⟨_,rfl,wpAny_pure h⟩) htake))
end
end HT
namespace L2
open PySem PySem.Spec PyProof.Rows
abbrev TO:=St->Hp->(Option Int->Hp->Prop)->Prop
def PO (X:Cx) (e:Option Expr) (t:TO):Prop:=
 ∀(pins:List (Addr×Obj)) (s:Shared) (σ:St) (H:Hp) (Q:Option Int->Hp->Prop),Inv X pins σ H s->t σ H Q->
  wpAny (model X.prog X.w) X.A (evalPart e X.env) (fun u s'=>∃o H',Inv X pins σ H' s'/\IsPart u o/\Q o H') X.xe s
noncomputable def YM:TO:=fun _ H Q=>Q none H
noncomputable def aEt (t:TE):TO:=fun σ H Q=>t σ H fun x H1=>∃i,x=.int i/\Q (some i) H1
section
variable {X:Cx} {e:Expr} {te:TE} {lo hi:Option Expr} {tl th:TO} {pos p2:Pos}
theorem YQ:PO X none YM:=by
 intro pins s σ H Q I h;rw [evalPart_none];exact wpAny_pure ⟨none,H,I,.none,h⟩
theorem YS (h:PE X e te):PO X (some e) (aEt te):=by
 intro pins s σ H Q I hw;rw [evalPart_some];refine thn (h pins s σ H _ I hw) fun u s1 ⟨x,H1,I1,r1,q1⟩=>?_
 obtain ⟨i,rfl,q⟩:=q1;obtain ⟨t,rfl⟩:=r1;exact ⟨some i,H1,I1,.int i t,q⟩
def SlR (X:Cx) (r:V->Option Int->Option Int->Hp->VK->Prop):Prop:=
 ∀(pins:List (Addr×Obj)) (s:Shared) (σ:St) (H:Hp) (x:V) (v vl vu:Value) (lo hi:Option Int) (sl:Addr) (Q:VK),Inv X pins σ H s->RelV x v->s.heap.IsSliceOf sl vl vu .none->IsPart vl lo->IsPart vu hi->r x lo hi H Q->
  ∃T id,typeLookup (.type T) "__getitem__" = pure (some (.builtin id))/\s.TypeIs v T/\wpAny (model X.prog X.w) X.A (getItem v (.ref sl)) (EP X pins σ Q) X.xe s
noncomputable def tSl (r:V->Option Int->Option Int->Hp->VK->Prop) (te:TE) (tl th:TO):TE:=fun σ H Q=>te σ H fun x H1=>tl σ H1 fun l H2=>th σ H2 fun u H3=>r x l u H3 Q
theorem R3 {r:V->Option Int->Option Int->Hp->VK->Prop} (hr:SlR X r) (he:PE X e te) (hl:PO X lo tl) (hu:PO X hi th):PE X (.Subscript e (.Slice lo hi none p2) pos) (tSl r te tl th):=by
 intro pins s σ H Q I h;refine Subscript_ (thn (he pins s σ H _ I h) fun v s1 ⟨x,H1,I1,r1,q1⟩=>?_);refine wpAny_Slice (thn (hl pins s1 σ H1 _ I1 q1) fun vl s2 ⟨l,H2,I2,pl,q2⟩=>thn (hu pins s2 σ H2 _ I2 q2) fun vu s3 ⟨u,H3,I3,pu,q3⟩=>?_);rw [evalPart_none];refine wpAny_pure ?_;have I4:Inv X pins σ H3 {s3 with heap:=s3.heap.push {cls:=.type "slice",data:=.fields #[vl,vu,.none]}}:=I3.kept (t':=s3.toks) fun b ob q=>Heap.get?_push_of_some _ q
 obtain ⟨T,id,hT,ht,hg⟩:=hr pins {s3 with heap:=s3.heap.push {cls:=.type "slice",data:=.fields #[vl,vu,.none]}} σ H3 x v vl vu l u s3.heap.objs.size Q I4 r1 (Heap.IsSliceOf.new ..) pl pu q3;show wpAny (model X.prog X.w) X.A (subscriptTail e (.Slice lo hi none p2) v (.ref s3.heap.objs.size)) (EP X pins σ Q) X.xe {s3 with heap:=s3.heap.push {cls:=.type "slice",data:=.fields #[vl,vu,.none]}};exact tail_any (ops:=[.ref s3.heap.objs.size,v]) ht hT hg (by with_unfolding_all rfl)
noncomputable def LK (xs:List V) (lo hi:Option Int):List V:=(xs.drop (HT.sIx xs.length 0 lo)).take (HT.sIx xs.length xs.length hi-HT.sIx xs.length 0 lo)
theorem n_ (xs:List V) (lo hi:Option Int):(LK xs lo hi).length<=xs.length:=by
 unfold LK;rw [List.length_take,List.length_drop];lia
def aGk (K:PySem.W.Frag):V->Option Int->Option Int->Hp->VK->Prop:=fun x lo hi H Q=>∃a xs,x=.ref a/\SqT K H a xs/\
 ¬(HT.sIx xs.length 0 lo=0/\HT.sIx xs.length xs.length hi=xs.length)/\∀p,H p=none->Q (.ref p) (upd H p (.tup (LK xs lo hi)))
theorem aC7:SlR X (aGk X.K):=by
 intro pins s σ H x v vl vu lo hi sl Q I rx hs pl pu h;obtain ⟨a,xs,rfl,hx,hw,q⟩:=h;cases rx;obtain ⟨its,r,ht,hz⟩:=I.tuple hx;have hlen:its.toArray.size=xs.length:=by rw [List.size_toArray];exact r.length.symm
 refine ⟨"tuple",_,PyProof.Rows.slot_tuple_getitem.lookup,ht.typeIs,?_⟩;refine HT.lK ht hs pl pu (by rw [hlen];exact hw) ?_ (by rw [hlen];exact hz);rw [hlen];refine ⟨.ref s.heap.objs.size,_,I.laid (t':=s.toks) (o:=.tup (LK xs lo hi)) (fun b ob q=>Heap.get?_push_of_some _ q) (Nat.le_refl _) ?_,rfl,q _ (I.hok.fresh (Nat.le_refl _))⟩;exact ⟨Nat.le_trans (n_ xs lo hi) hz,_,(r.drop (HT.sIx xs.length 0 lo)).take (HT.sIx xs.length xs.length hi-HT.sIx xs.length 0 lo),iK.new _ _⟩
end
noncomputable def ixN (n:Nat) (i:Int):Option Nat:=if 0<=i then (if i<n then some i.toNat else none) else if -(n:Int)<=i then some (i+n).toNat else none
def atI {α:Type} (xs:List α) (i:Int):Option α:=(ixN xs.length i).bind fun j=>xs[j]?
theorem LQ {n:Nat} {i:Int} {j:Nat} (h:ixN n i=some j):seqIndex? i n=some j/\j<n/\-(n:Int)<=i/\i<n:=by
 unfold ixN at h;by_cases h0:0<=i
 ·rw [if_pos h0] at h;by_cases h1:i<n
  ·rw [if_pos h1] at h;have e:i.toNat=j:=Option.some.inj h;exact ⟨by rw [seqIndex_of h0 h1,e],by lia,by lia,h1⟩
  ·rw [if_neg h1] at h;cases h
 ·rw [if_neg h0] at h;by_cases h1:-(n:Int)<=i
  ·rw [if_pos h1] at h;have e:(i+n).toNat=j:=Option.some.inj h;exact ⟨by rw [seqIndex_neg (by lia) h1,e],by lia,h1,by lia⟩
  ·rw [if_neg h1] at h;cases h
theorem zE {α:Type} {xs:List α} {i:Int} {v:α} (h:atI xs i=some v):∃j,seqIndex? i xs.length=some j/\xs[j]?=some v/\j<xs.length/\-(xs.length:Int)<=i/\i<xs.length:=by
 unfold atI at h;cases e:ixN xs.length i with
 | none=>rw [e] at h;cases h
 | some j=>
  rw [e] at h;obtain ⟨h1,h2,h3,h4⟩:=LQ e;exact ⟨j,h1,h,h2,h3,h4⟩
def oA (b:Expr):Prop:=∀o i,subscripted b false o i=operate [o,i] (getItem o i)
def IxR (X:Cx) (r:R2):Prop:=
 ∀(value slice:Expr) (pins:List (Addr×Obj)) (s:Shared) (σ:St) (H:Hp) (x y:V) (v u:Value) (Q:VK),Inv X pins σ H s->RelV x v->RelV y u->r x y H Q->
  subscripted slice false v u=operate [v,u] (getItem v u)->wpAny (model X.prog X.w) X.A (subscriptTail value slice v u) (EP X pins σ Q) X.xe s
def MtR (X:Cx) (id:String) (r:V->List V->Hp->VK->Prop):Prop:=
 ∀(pins:List (Addr×Obj)) (s:Shared) (σ:St) (H:Hp) (x:V) (xs:List V) (v:Value) (us:List Value) (Q:VK),Inv X pins σ H s->RelV x v->Vals xs us->r x xs H Q->
  wpAny (model X.prog X.w) X.A (call (.builtin id) (v::us)) (EP X pins σ Q) X.xe s
section
variable {X:Cx} {a b:Expr} {ta tb:TE} {pos:Pos}
theorem IxR.or {r r':R2} (h:IxR X r) (h':IxR X r'):IxR X (fun x y H Q=>r x y H Q\/r' x y H Q):=by
 intro value slice pins s σ H x y v u Q I rx ry q hs;rcases q with q|q
 ·exact h value slice pins s σ H x y v u Q I rx ry q hs
 ·exact h' value slice pins s σ H x y v u Q I rx ry q hs
theorem YT {r:R2} (hr:IxR X r) (ha:PE X a ta) (hb:PE X b tb) (hs:oA b):PE X (.Subscript a b pos) (tOp r ta tb):=by
 intro pins s σ H Q I h;exact Subscript_ (aEn ha hb I h fun v u s2 x y H2 I2 rx ry q=>hr a b pins s2 σ H2 x y v u Q I2 rx ry q (hs _ _))
def aFy (K:PySem.W.Frag):R2:=fun x y H Q=>∃p xs i v,x=.ref p/\y=.int i/\SqL K H p xs/\atI xs i=some v/\Q v H
def aGl (K:PySem.W.Frag):R2:=fun x y H Q=>∃p xs i v,x=.ref p/\y=.int i/\SqT K H p xs/\atI xs i=some v/\Q v H
def aGm:R2:=fun x y H Q=>∃z i c,x=.str z/\y=.int i/\z.length<=sizeLine/\atI z.cps.toList i=some c/\Q (.str ⟨#[c]⟩) H
theorem oE:IxR X (aFy X.K):=by
 intro value slice pins s σ H x y v u Q I rx ry h hs;obtain ⟨p,xs,i,z,rfl,rfl,hq,he,q⟩:=h;cases rx;obtain ⟨t,rfl⟩:=ry;obtain ⟨its,r,pl,hz⟩:=I.list hq;obtain ⟨j,h1,h2,h3,h4,h5⟩:=zE he;obtain ⟨w,ew,rw'⟩:=r.get h2;have hl:=r.length;have hn:=n8;have fin:EP X pins σ Q w s:=⟨z,H,I,rw',q⟩
 by_cases h0:0<=i
 ·have hj:i.toNat=j:=by
   rw [seqIndex_of h0 h5] at h1;exact Option.some.inj h1
  exact item_listR pl.isList h0 (by lia) (by rw [hj];simpa using ew) fin hs
 ·have hj:(i+(its.toArray.size:Int)).toNat=j:=by
   rw [seqIndex_neg (by lia) h4] at h1;rw [List.size_toArray,<-hl];exact Option.some.inj h1
  exact subscriptTail_builtinR (x:=w) pl.isList.typeIs slot_list_getitem.lookup
   (wpAny_getItem_list_neg (Q:=fun r s'=>r=w/\EP X pins σ Q r s') pl.isList (by lia) (by rw [List.size_toArray] <;> lia) (by lia) (by rw [hj];simpa using ew) ⟨rfl,fin⟩) hs
theorem aC8:IxR X (aGl X.K):=by
 intro value slice pins s σ H x y v u Q I rx ry h hs;obtain ⟨p,xs,i,z,rfl,rfl,hq,he,q⟩:=h;cases rx;obtain ⟨t,rfl⟩:=ry;obtain ⟨its,r,pl,hz⟩:=I.tuple hq;obtain ⟨j,h1,h2,h3,h4,h5⟩:=zE he;obtain ⟨w,ew,rw'⟩:=r.get h2;have hl:=r.length;have hn:=n8;have fin:EP X pins σ Q w s:=⟨z,H,I,rw',q⟩
 exact subscriptTail_builtinR (x:=w) pl.typeIs slot_tuple_getitem.lookup
  (getItem_tuple (j:=j) (Q:=fun r s'=>r=w/\EP X pins σ Q r s') pl (by lia) (by lia) (by rw [List.size_toArray,<-hl];exact h1) (by simpa using ew) ⟨rfl,fin⟩) hs
theorem aC9:IxR X aGm:=by
 intro value slice pins s σ H x y v u Q I rx ry h hs;obtain ⟨z,i,c,rfl,rfl,hz,he,q⟩:=h;obtain ⟨t,rfl⟩:=rx;obtain ⟨t',rfl⟩:=ry;obtain ⟨j,h1,h2,h3,h4,h5⟩:=zE he;have hl:z.cps.toList.length=z.length:=by simp [Str.length]
 rw [hl] at h1 h4 h5;have hn:=n8;exact tail_any (typeIs_str s z t) slot_str_getitem.lookup (getItem_str (c:=c) (by
  have e1:decide (i < -(2 ^ 63:Int))=false:=decide_eq_false (by lia);have e2:decide (i >= 2 ^ 63)=false:=decide_eq_false (by lia);rw [e1,e2,Bool.or_false]) (by rw [h1];simpa using h2) ⟨.str ⟨#[c]⟩,H,I.tok _,⟨_,rfl⟩,q⟩) hs
theorem IK (its:List Value) (n j:Nat) (u:Value):Obj.mapSeq (·.setIfInBounds j u) {cls:=.type "list",data:=.seq its.toArray n}={cls:=.type "list",data:=.seq (its.set j u).toArray n}:=by
 simp [Obj.mapSeq]
theorem Inv.lst {pins:List (Addr×Obj)} {σ:St} {H:Hp} {s:Shared} {p:Addr} {xs:List V} (I:Inv X pins σ H s) (h:H p=some (.lst xs)) :
  ∃(its:List Value) (n:Nat),Vals xs its/\s.heap.get? p=some {cls:=.type "list",data:=.seq its.toArray n}/\xs.length<=sizeLine:=by
 obtain ⟨z,its,n,r,e⟩:=I.hok p _ h;exact ⟨its,n,r,e,z⟩
theorem Inv.aCa {pins:List (Addr×Obj)} {σ:St} {H:Hp} {s:Shared} {p:Addr} {xs ys:List V} {its its':List Value} {n n':Nat} {f:Obj->Obj} (I:Inv X pins σ H s) (h:H p=some (.lst xs))
  (ho:s.heap.get? p=some {cls:=.type "list",data:=.seq its.toArray n}) (hf:f {cls:=.type "list",data:=.seq its.toArray n}={cls:=.type "list",data:=.seq its'.toArray n'}) (r:Vals ys its') (hz:ys.length<=sizeLine) (t:Nat) :
  Inv X pins σ (upd H p (.lst ys)) {s with heap:=s.heap.update p f,toks:=t}:=by
 have e:(s.heap.update p f).get? p=some {cls:=.type "list",data:=.seq its'.toArray n'}:=by
  rw [Heap.get?_update_self f ho (by rw [hf] <;> rfl),hf]
 refine I.write (x:=p) (e:=p) (by rw [h];trivial) (.inl rfl) (fun b u hb q=>(Heap.get?_update_other _ _ (Ne.symm hb)).trans q) ⟨_,e⟩ ?_;exact ⟨hz,its',n',r,e⟩
def aEu:V->V->V->Hp->(Hp->Prop)->Prop:=fun o i v H Q=>∃p xs k j,o=.ref p/\i=.int k/\H p=some (.lst xs)/\ixN xs.length k=some j/\Q (upd H p (.lst (xs.set j v)))
theorem set_list:aGf X aEu:=by
 intro pins s σ H o i v ov iv u Q I ro ri rv h;obtain ⟨p,xs,k,j,rfl,rfl,hp,hj,q⟩:=h;cases ro;obtain ⟨t,rfl⟩:=ri;obtain ⟨its,n,r,ho,hz⟩:=I.lst hp;obtain ⟨h1,h2,h3,h4⟩:=LQ hj;have hl:=r.length;have hn:=n8;have I':Inv X pins σ (upd H p (.lst (xs.set j v))) {s with heap:=s.heap.update p (Obj.mapSeq (·.setIfInBounds j u))}:=
  I.aCa hp ho (IK its n j u) (r.set rv j) (by rw [List.length_set];exact hz) s.toks
 by_cases h0:0<=k
 ·have hk:k.toNat=j:=by
   rw [seqIndex_of h0 h4] at h1;exact Option.some.inj h1
  exact PySem.W.ki_setAt ho h0 (by lia) (by rw [List.size_toArray,<-hl];exact h4) (by rw [hk];exact ⟨_,I',q⟩)
 ·have hk:(k+(its.toArray.size:Int)).toNat=j:=by
   rw [seqIndex_neg (by lia) h3] at h1;rw [List.size_toArray,<-hl];exact Option.some.inj h1
  exact PySem.W.ki_setBack ho (by lia) (by rw [List.size_toArray,<-hl];exact h3) (by lia) (by rw [hk];exact ⟨_,I',q⟩)
theorem w6 (lo hi:Option Int) (n:Nat):(sliceBounds lo hi none n).1=((HT.sIx n 0 lo:Nat):Int)/\(sliceBounds lo hi none n).2.1=((HT.sIx n n hi:Nat):Int)/\(sliceBounds lo hi none n).2.2=1:=by
 refine ⟨?_,?_,rfl⟩
 ·cases lo with
  | none=>simp [sliceBounds,HT.sIx]
  | some i=>
   simp only [sliceBounds,HT.sIx,Option.getD_none,show (1:Int) > 0 by decide,if_true];by_cases h:i<0
   ·simp only [h,if_true] <;> lia
   ·simp only [h,if_false] <;> lia
 ·cases hi with
  | none=>simp [sliceBounds,HT.sIx]
  | some i=>
   simp only [sliceBounds,HT.sIx,Option.getD_none,show (1:Int) > 0 by decide,if_true];by_cases h:i<0
   ·simp only [h,if_true] <;> lia
   ·simp only [h,if_false] <;> lia
theorem vN (its:List Value) (lo hi:Option Int):slicePick its.toArray lo hi none=((its.drop (HT.sIx its.length 0 lo)).take (HT.sIx its.length its.length hi-HT.sIx its.length 0 lo)).toArray:=by
 obtain ⟨h1,h2,h3⟩:=w6 lo hi its.toArray.size;unfold slicePick;rw [h1,h2,h3];simp only [sliceRange_one,pick_run,List.size_toArray] <;> rfl
def aGn (K:PySem.W.Frag):V->Option Int->Option Int->Hp->VK->Prop:=fun x lo hi H Q=>∃a xs,x=.ref a/\SqL K H a xs/\∀p,H p=none->Q (.ref p) (upd H p (.lst (LK xs lo hi)))
theorem LR:SlR X (aGn X.K):=by
 intro pins s σ H x v vl vu lo hi sl Q I rx hs pl pu h;obtain ⟨a,xs,rfl,hx,q⟩:=h;cases rx;obtain ⟨its,r,ht,hz⟩:=I.list hx;have hlen:=r.length;refine ⟨"list",_,slot_list_getitem.lookup,ht.isList.typeIs,?_⟩;refine wpAny_getItem_list_slice ht.isList hs pl pu .none (by simp) ?_ (by rw [List.size_toArray] <;> lia);rw [vN,<-hlen];refine ⟨.ref s.heap.objs.size,_,I.laid (t':=s.toks) (o:=.lst (LK xs lo hi)) (fun b ob q=>Heap.get?_push_of_some _ q) (Nat.le_refl _) ?_,rfl,q _ (I.hok.fresh (Nat.le_refl _))⟩;exact ⟨Nat.le_trans (n_ xs lo hi) hz,_,0,(r.drop (HT.sIx xs.length 0 lo)).take (HT.sIx xs.length xs.length hi-HT.sIx xs.length 0 lo),Heap.get?_push_size _ rfl⟩
theorem fX:jN X (.builtin "len") (fun xs H Q=>∃p ys,xs=[.ref p]/\(SqL X.K H p ys\/SqT X.K H p ys)/\Q (.int ys.length) H):=by
 intro pins s σ H xs us Q I r h;obtain ⟨p,ys,rfl,hq,q⟩:=h;obtain ⟨u,rfl,rx⟩:=vals1 r;cases rx;have hn:=n8;rcases hq with hq|hq
 ·obtain ⟨its,r',pl,hz⟩:=I.list hq;have hlen:=r'.length;exact Calls.call_len_list pl.isList (by simp only [List.size_toArray] <;> lia) ⟨.int ys.length,H,I.tok _,⟨s.toks+1,by rw [List.size_toArray,hlen]⟩,q⟩
 ·obtain ⟨its,r',pl,hz⟩:=I.tuple hq;have hlen:=r'.length;exact len_tuple pl (by simp only [List.size_toArray] <;> lia) ⟨.int ys.length,H,I.tok _,⟨s.toks+1,by rw [List.size_toArray,hlen]⟩,q⟩
theorem xF:jN X (.builtin "len") (fun xs H Q=>∃z,xs=[.str z]/\z.length<=sizeLine/\Q (.int z.length) H):=by
 intro pins s σ H xs us Q I r h;obtain ⟨z,rfl,hz,q⟩:=h;obtain ⟨u,rfl,t,rfl⟩:=vals1 r;have hn:=n8;exact len_str (by lia) ⟨.int z.length,H,I.tok _,⟨_,rfl⟩,q⟩
theorem mL:jN X (.type "list") (fun xs H Q=>∃p ys,xs=[.ref p]/\(SqL X.K H p ys\/SqT X.K H p ys)/\∀l,H l=none->Q (.ref l) (upd H l (.lst ys))):=by
 intro pins s σ H xs us Q I r h;obtain ⟨p,ys,rfl,hq,q⟩:=h;obtain ⟨u,rfl,rx⟩:=vals1 r;cases rx;have fin:∀(its:List Value),Vals ys its->ys.length<=sizeLine->∀(h':Heap) (c':Nat),(∀b o',s.heap.get? b=some o'->h'.get? b=some o')->
   h'.get? s.heap.objs.size=some {cls:=.type "list",dict:=none,data:=.seq its.toArray c',slots:=#[]}->EP X pins σ Q (.ref s.heap.objs.size) {s with heap:=h'}:=fun its r' hz h' c' kp e=>
  ⟨.ref s.heap.objs.size,_,I.laid (t':=s.toks) kp (Nat.le_refl _) (show fB X.prog X.w _ h' _ (.lst ys) from ⟨hz,its,c',r',e⟩),rfl,q _ (I.hok.fresh (Nat.le_refl _))⟩
 rcases hq with hq|hq
 ·obtain ⟨its,r',pl,hz⟩:=I.list hq;have hlen:=r'.length;obtain ⟨o,ho,hc,n,hd⟩:=pl.isList;exact call_list_seq p (.inl rfl) ho hc hd (fun h' c' kp e=>fin its r' hz h' c' kp e) (by simp only [List.size_toArray] <;> lia)
 ·obtain ⟨its,r',pl,hz⟩:=I.tuple hq;have hlen:=r'.length;obtain ⟨o,ho,hc,n,hd⟩:=pl;exact call_list_seq p (.inr rfl) ho hc hd (fun h' c' kp e=>fin its r' hz h' c' kp e) (by simp only [List.size_toArray] <;> lia)
theorem j4:jN X (.type "tuple") (fun xs H Q=>∃p ys,xs=[.ref p]/\((SqL X.K H p ys/\∀l,H l=none->Q (.ref l) (upd H l (.tup ys)))\/(SqT X.K H p ys/\Q (.ref p) H))):=by
 intro pins s σ H xs us Q I r h;obtain ⟨p,ys,rfl,h⟩:=h;obtain ⟨u,rfl,rx⟩:=vals1 r;cases rx;rcases h with ⟨hq,q⟩|⟨hq,q⟩
 ·obtain ⟨its,r',pl,hz⟩:=I.list hq;have hlen:=r'.length;refine call_tuple_list pl.isList (fun h' kp=>?_) (by simp only [List.size_toArray] <;> lia);have I1:Inv X pins σ H {s with heap:=h'}:=I.kept (t':=s.toks) kp;have I2:Inv X pins σ (upd H h'.objs.size (.tup ys)) {s with heap:=h'.push {cls:=.type "tuple",data:=.seq its.toArray}}:=
   I1.laid (t':=s.toks) (fun b o e=>Heap.get?_push_of_some _ e) (Nat.le_refl _) (show fB X.prog X.w _ _ _ (.tup ys) from ⟨hz,its,r',iK.new _ _⟩)
  exact ⟨.ref h'.objs.size,_,I2,rfl,q _ (I1.hok.fresh (Nat.le_refl _))⟩
 ·obtain ⟨its,r',pl,hz⟩:=I.tuple hq;exact call_tuple_same pl ⟨.ref p,H,I,rfl,q⟩
def tyV (K:PySem.W.Frag) (T:String) (x:V) (H:Hp):Prop:=match x with
 | .str _=>T = "str"
 | .int _=>T = "int"
 | .ref p=>(T = "list"/\∃xs,SqL K H p xs)\/(T = "tuple"/\((∃o,K.lookup p=some o/\o.cls=.type "tuple"/\o.dict=none)\/∃xs,H p=some (.tup xs)))\/
   (T = "dict"/\((∃kvs,H p=some (.dK kvs))\/∃kvs,H p=some (.dT kvs)))\/(T = "set"/\∃S n,H p=some (.set S n))
 | _=>False
theorem V_ {pins:List (Addr×Obj)} {σ:St} {H:Hp} {s:Shared} {T:String} {x:V} {v:Value} (I:Inv X pins σ H s) (r:RelV x v) (ty:tyV X.K T x H) :
  s.TypeIs v T/\∀a,v=.ref a->∃ob,s.heap.get? a=some ob/\ob.dict=none:=by
 cases x with
 | str z=>
  obtain ⟨t,rfl⟩:=r;cases (show T = "str" from ty);exact ⟨typeIs_str s z t,fun _ e=>nomatch e⟩
 | int i=>
  obtain ⟨t,rfl⟩:=r;cases (show T = "int" from ty);exact ⟨typeIs_int s i t,fun _ e=>nomatch e⟩
 | ref p=>
  cases r;rcases ty with ⟨rfl,xs,hq⟩|⟨rfl,⟨o,hk,hc,hd⟩|⟨xs,hk⟩⟩|⟨rfl,hk⟩|⟨rfl,S,n,hk⟩
  ·obtain ⟨its,_,pl,_⟩:=I.list hq;refine ⟨pl.isList.typeIs,fun a e=>?_⟩;cases e;obtain ⟨o,n,e,c,hd,_⟩:=pl;exact ⟨o,e,hd⟩
  ·refine ⟨⟨o,I.kIn p o hk,hc⟩,fun a e=>?_⟩;cases e;exact ⟨o,I.kIn _ o hk,hd⟩
  ·obtain ⟨_,its,_,pl⟩:=I.hok p _ hk;refine ⟨(iK.tup pl).typeIs,fun a e=>?_⟩;cases e;exact iK.bare pl
  ·have z:∃o,s.heap.get? p=some o/\o.ExactDict:=by
    rcases hk with ⟨kvs,hk⟩|⟨kvs,hk⟩
    ·obtain ⟨_,_,_,_,o,_,_,e,ex,_⟩:=I.hok p _ hk;exact ⟨o,e,ex⟩
    ·obtain ⟨_,_,_,_,o,_,_,e,ex,_⟩:=I.hok p _ hk;exact ⟨o,e,ex⟩
   obtain ⟨o,e,ex⟩:=z;refine ⟨⟨o,e,ex.1⟩,fun a e2=>?_⟩;cases e2;exact ⟨o,e,ex.2.1⟩
  ·obtain ⟨o,_,_,_,e,ex,_⟩:=I.hok p _ hk;refine ⟨⟨o,e,ex.1⟩,fun a e2=>?_⟩;cases e2;exact ⟨o,e,ex.2.1⟩
 | _=>exact False.elim ty
noncomputable def aGo (K:PySem.W.Frag) (T:String) (r:V->List V->Hp->VK->Prop) (to:TE):TE:=fun σ H Q=>to σ H fun x H1=>tyV K T x H1/\r x [] H1 Q
noncomputable def tBM (K:PySem.W.Frag) (T:String) (r:V->List V->Hp->VK->Prop) (to:TE) (t:TA):TE:=fun σ H Q=>to σ H fun x H1=>tyV K T x H1/\t σ H1 fun xs H2=>r x xs H2 Q
variable {o e:Expr} {es:List Expr} {to:TE} {t:TA} {name:Str} {apos cpos:Pos} {T id:String} {r:V->List V->Hp->VK->Prop}
theorem aCb (pa:PlainAttrs T) (slot:Slot T name id) (hty:typeOf (.builtin id)=pure (.type "method_descriptor")) (hm:MtR X id r) (ho:PE X o to)
  (hbase:attributeBase o name X.env (eval o X.env)=eval o X.env:=by rfl) (hline:(apos.endLine==cpos.line)=true:=by rfl):PE X (.Call (.Attribute o name apos) [] [] cpos) (aGo X.K T r to):=by
 intro pins s σ H Q I h;refine wpAny_Call_method0_late hbase hline (thn (ho pins s σ H _ I h) fun v s1 ⟨x,H1,I1,r1,ty,q1⟩=>?_);obtain ⟨h1,h2⟩:=V_ I1 r1 ty;exact ⟨T,id,pa,slot,hty,h1,h2,Calls.callWith_builtin rfl (PySem.evalArgs_none (hm pins s1 σ H1 x [] v [] Q I1 r1 .nil q1))⟩
theorem R4 (pa:PlainAttrs T) (slot:Slot T name id) (hty:typeOf (.builtin id)=pure (.type "method_descriptor")) (hm:MtR X id r) (ho:PE X o to) (ha:PA X (e::es) t)
  (hbase:attributeBase o name X.env (eval o X.env)=eval o X.env:=by rfl)
  (hfew:((backTo cpos (starEach (e::es) X.env)).all (fun x=>!x.1)&&(backToKw cpos (keywordEach [] X.env)).all (fun x=>x.1.isSome)
   && decide ((e::es).length+([]:List Keyword).length+(if ([]:List Keyword).isEmpty then 0 else 1)<30))=true:=by rfl)
  (hline:(apos.endLine==cpos.line)=true:=by rfl) (hs:starEach (e::es) X.env=(false,eval e X.env)::starEach es X.env:=by rfl) (hplain:(backTo cpos (starEach es X.env)).any (·.1)=false:=by rfl) :
  PE X (.Call (.Attribute o name apos) (e::es) [] cpos) (tBM X.K T r to t):=by
 intro pins s σ H Q I h;refine wpAny_Call_method_late hbase hfew hline rfl (thn (ho pins s σ H _ I h) fun v s1 ⟨x,H1,I1,r1,ty,q1⟩=>?_);obtain ⟨h1,h2⟩:=V_ I1 r1 ty;refine ⟨T,id,pa,slot,hty,h1,h2,?_⟩;have hA:=ha cpos pins s1 σ H1 _ I1 q1;rw [hs] at hA ⊢;refine Calls.callWith_builtin (by show (false||(backTo cpos (starEach es X.env)).any (·.1))=false;rw [hplain] <;> rfl) (Calls.evalArgs_plain ?_);exact thn hA fun us s2 ⟨vs,H2,I2,r2,q2⟩=>hm pins s2 σ H2 x vs v us Q I2 r1 r2 q2
end
def MtM (X:Cx) (id:String) (r:V->List V->Hp->VK->Prop):Prop:=
 ∀(pins:List (Addr×Obj)) (s:Shared) (σ:St) (H:Hp) (x:V) (xs:List V) (v:Value) (us:List Value) (Q:VK),Inv X pins σ H s->RelV x v->Vals xs us->r x xs H Q->
  wpAny (model X.prog X.w) X.A (call (.builtin id) (v::us)) (EP X pins σ Q) X.xe s
theorem Vals.one:∀{x:V} {us:List Value},Vals [x] us->∃u,us=[u]/\RelV x u
 | _,_,.cons r .nil=>⟨_,rfl,r⟩
section
variable {X:Cx} {pins:List (Addr×Obj)} {σ:St} {H:Hp} {s:Shared} {l:Addr} {xs ys:List V}
theorem Inv.aFz {its its':List Value} {n:Nat} {f:Array Value->Array Value} {t':Nat} (I:Inv X pins σ H s) (hH:H l=some (.lst xs))
  (e:s.heap.get? l=some {cls:=.type "list",data:=.seq its.toArray n}) (hf:f its.toArray=its'.toArray) (hv:Vals ys its') (hz:ys.length<=sizeLine) :
  Inv X pins σ (upd H l (.lst ys)) {s with heap:=s.heap.update l (Obj.mapSeq f),toks:=t'}:=by
 have q:=PySem.IsL.update e f;rw [hf] at q;refine I.write (x:=l) (e:=l) (by rw [hH];exact trivial) (.inl rfl) (fun b' u hb hu=>(Heap.get?_update_other s.heap (Obj.mapSeq f) (Ne.symm hb)).trans hu) ⟨_,q⟩ ?_;exact ⟨hz,its',_,hv,q⟩
theorem Inv.aG0 {its:List Value} {t':Nat} (I:Inv X pins σ H s) (hv:Vals ys its) (hz:ys.length<=sizeLine) :
  Inv X pins σ (upd H s.heap.objs.size (.lst ys)) {s with heap:=s.heap.push {cls:=.type "list",data:=.seq its.toArray},toks:=t'}:=
 I.laid (fun _ _ q=>Heap.get?_push_of_some _ q) (Nat.le_refl _) ⟨hz,its,0,hv,Heap.get?_push_size _ rfl⟩
theorem Inv.fresh (I:Inv X pins σ H s):H s.heap.objs.size=none:=I.hok.fresh (Nat.le_refl _)
theorem Inv.aG1 (I:Inv X pins σ H s) (hH:H l=some (.lst xs)):xs.length<=sizeLine/\∃(its:List Value) (n:Nat),Vals xs its/\xs.length=its.length/\s.heap.get? l=some {cls:=.type "list",data:=.seq its.toArray n}:=by
 obtain ⟨z,its,n,r,e⟩:=I.hok l _ hH;exact ⟨z,its,n,r,r.length,e⟩
end
section
variable {X:Cx}
def YW:V->List V->Hp->VK->Prop:=fun x vs H Q=>∃l xs y,x=.ref l/\vs=[y]/\H l=some (.lst xs)/\xs.length<sizeLine/\Q .non (upd H l (.lst (xs++[y])))
theorem oF:MtM X "list.append" YW:=by
 intro pins s σ H x vs v us Q I rx rv h;obtain ⟨l,xs,y,rfl,rfl,hH,hz,q⟩:=h;cases rx;obtain ⟨u,rfl,ru⟩:=rv.one;obtain ⟨z,its,n,r,hl,e⟩:=I.aG1 hH;refine call_meets F.slot_list_append ⟨_,e,rfl⟩ F.entry_list_append (F.args_list_append_2 _ _) (PySem.list_append l its.toArray n u (by rw [List.size_toArray];lia)) ⟨e,?_⟩;refine ⟨.non,_,I.aFz (its':=its++[u]) hH e (by simp) (r.append (.cons ru .nil)) ?_,rfl,q⟩;rw [List.length_append,List.length_singleton];lia
end
section
variable {κ:Type} [DecidableEq κ]
noncomputable def uW (kvs:List (κ×V)) (k:κ):Option V:=(kvs.find? fun kv=>decide (kv.1=k)).map (·.2)
noncomputable def putK (kvs:List (κ×V)) (k:κ) (v:V):List (κ×V):=
 if (kvs.any fun kv=>decide (kv.1=k))=true then kvs.map (fun kv=>if kv.1=k then (kv.1,v) else kv) else kvs++[(k,v)]
theorem nQ {p:κ×V} {r:List (κ×V)} {k:κ} (e:p.1=k):uW (p::r) k=some p.2:=by simp [uW,List.find?_cons,e]
theorem nR {p:κ×V} {r:List (κ×V)} {k:κ} (e:¬p.1=k):uW (p::r) k=uW r k:=by simp [uW,List.find?_cons,e]
theorem zF (kvs:List (κ×V)) (k:κ) (v:V):(putK kvs k v).length<=kvs.length+1:=by
 unfold putK;split
 ·rw [List.length_map];lia
 ·rw [List.length_append,List.length_cons,List.length_nil];lia
theorem RM.j5 {o:Option V} {u:Option Value} (r:RM o u):o.isSome=u.isSome:=by
 cases o with
 | none=>cases u with
  | none=>rfl
  | some _=>exact (show False from r).elim
 | some _=>cases u with
  | none=>exact (show False from r).elim
  | some _=>rfl
theorem KV.val {kvs:List (κ×V)} {vs:List (κ×Value)} (r:KV kvs vs) (k:κ):RM (uW kvs k) (valueAt vs k):=by
 unfold KV at r;induction r with
 | nil=>exact True.intro
 | @cons p q ps qs h t ih=>
  obtain ⟨h1,h2⟩:=h;by_cases e:p.1=k
  ·have e':q.1=k:=h1.symm.trans e;have b:valueAt (q::qs) k=some q.2:=by simp [valueAt,List.find?_cons,e']
   rw [nQ e,b];exact h2
  ·have e':¬q.1=k:=fun z=>e (h1.trans z)
   have b:valueAt (q::qs) k=valueAt qs k:=by simp [valueAt,List.find?_cons,e']
   rw [nR e,b];exact ih
theorem KV.any {kvs:List (κ×V)} {vs:List (κ×Value)} (r:KV kvs vs) (k:κ):(kvs.any fun kv=>decide (kv.1=k))=vs.any fun kv=>decide (kv.1=k):=by
 unfold KV at r;induction r with
 | nil=>rfl
 | cons h t ih=>rw [List.any_cons,List.any_cons,ih,h.1]
theorem KV.repl {kvs:List (κ×V)} {vs:List (κ×Value)} (r:KV kvs vs) (k:κ) {y:V} {u:Value} (ry:RelV y u) :
  KV (kvs.map fun kv=>if kv.1=k then (kv.1,y) else kv) (vs.map fun kv=>if kv.1=k then (kv.1,u) else kv):=by
 unfold KV at r ⊢;induction r with
 | nil=>exact .nil
 | @cons p q ps qs h t ih=>
  rw [List.map_cons,List.map_cons];refine .cons ?_ ih;obtain ⟨h1,h2⟩:=h;by_cases e:p.1=k
  ·rw [if_pos e,if_pos (h1.symm.trans e)];exact ⟨h1,ry⟩
  ·rw [if_neg e,if_neg (fun z=>e (h1.trans z))];exact ⟨h1,h2⟩
theorem KV.put {kvs:List (κ×V)} {vs:List (κ×Value)} (r:KV kvs vs) (k:κ) {y:V} {u:Value} (ry:RelV y u):KV (putK kvs k y) (stored vs k u):=by
 unfold putK stored;rw [r.any k];by_cases e:(vs.any fun kv=>decide (kv.1=k))=true
 ·rw [if_pos e,if_pos e];exact r.repl k ry
 ·rw [if_neg e,if_neg e];exact Paired.snoc r ⟨rfl,ry⟩
end
theorem L_ {P:Program} {w:World} {k:Key} {u:Value} (r:RelV (kV k) u):(dO P w).is k u=true:=by
 cases k with
 | inl i=>obtain ⟨t,e⟩:=(show ∃t,u=Value.int i t from r);subst e;exact y_ P w i t
 | inr x=>obtain ⟨t,e⟩:=(show ∃t,u=Value.str x t from r);subst e;exact zA P w x t
theorem xG {P:Program} {w:World}:∀{ks:List Key} {us:List Value},Vals (ks.map kV) us->ItemsAre (dO P w) ks us
 | [],_,r=>by rw [List.map_nil] at r;cases r;exact .nil
 | k::ks,_,r=>by
  rw [List.map_cons] at r;cases r with
  | cons h t=>exact .cons (L_ h) (xG t)
abbrev KT (H:Hp):List (List Key×V)->List (List Key×Addr×Value)->Prop:=Paired fun p q=>p.1=q.1/\H q.2.1=some (.tup (p.1.map kV))/\RelV p.2 q.2.2
theorem KT.val {H:Hp} {kvs:List (List Key×V)} {xs:List (List Key×Addr×Value)} (r:KT H kvs xs) (k:List Key):RM (uW kvs k) ((atKey xs k).map (·.2)):=by
 induction r with
 | nil=>exact True.intro
 | @cons p q ps qs h t ih=>
  obtain ⟨h1,_,h2⟩:=h;by_cases e:p.1=k
  ·have e':q.1=k:=h1.symm.trans e;have b:atKey (q::qs) k=some q.2:=by simp [atKey,List.find?_cons,e']
   rw [nQ e,b];exact h2
  ·have e':¬q.1=k:=fun z=>e (h1.trans z)
   have b:atKey (q::qs) k=atKey qs k:=by simp [atKey,List.find?_cons,e']
   rw [nR e,b];exact ih
section
variable {P:Program} {w:World} {H:Hp} {h:Heap} {a:Addr}
theorem aCc {u:HO} (ok:HOk P w H h) (e:Rd H a u):fB P w H h a u:=e.ok ok
theorem MF {kvs:List (Key×V)} (ok:HOk P w H h) (e:Rd H a (.dK kvs)):kvs.length<=sizeLine/\(a==sysModules)=false/\∃vs,KV kvs vs/\h.DictOf (dO P w) a vs:=
 show fB P w H h a (.dK kvs) from aCc ok e
theorem R5 {kvs:List (Key×V)} (ok:HOk P w H h) (e:H a=some (.dK kvs)):kvs.length<=sizeLine/\(a==sysModules)=false/\∃vs,KV kvs vs/\h.DictOf (dO P w) a vs:=MF ok (.inl e)
theorem CG {ks:List Key} (ok:HOk P w H h) (e:H a=some (.tup (ks.map kV))):(tupleKind (dO P w)).is h ks a:=by
 obtain ⟨_,its,r,o,h1,h2,n,h3⟩:=(show fB P w H h a (.tup (ks.map kV)) from ok a _ e)
 exact ⟨o,its.toArray,n,h1,h2,congrArg (·.1) h3,by simpa using xG r⟩
theorem MJ {kvs:List (List Key×V)} (ok:HOk P w H h) (e:Rd H a (.dT kvs)):kvs.length<=sizeLine/\(a==sysModules)=false/\
  ∃xs,KT H kvs xs/\h.DictOfH (tupleKind (dO P w)) a xs:=by
 obtain ⟨z,y,xs,r,o,es,ep,h1,h2,h3,h4,h5⟩:=(show fB P w H h a (.dT kvs) from aCc ok e)
 refine ⟨z,y,xs,r,o,es,ep,h1,h2,h3,h4,fun x hx=>?_,h5⟩;have all:∀{l:List (List Key×V)} {m:List (List Key×Addr×Value)},KT H l m->∀x∈m,(tupleKind (dO P w)).is h x.1 x.2.1:=by
  intro l m q;induction q with
  | nil=>intro x hx;exact nomatch hx
  | @cons p q ps qs hq t ih=>
   intro x hx;rcases List.mem_cons.mp hx with e|hx
   ·subst e;exact CG ok (by rw [<-hq.1];exact hq.2.1)
   ·exact ih x hx
 exact all r x hx
theorem aCd {kvs:List (List Key×V)} (ok:HOk P w H h) (e:H a=some (.dT kvs)):kvs.length<=sizeLine/\(a==sysModules)=false/\
  ∃xs,KT H kvs xs/\h.DictOfH (tupleKind (dO P w)) a xs:=MJ ok (.inl e)
end
def J3 (H:Hp) (a:Addr) (y:V) (r:Option V):Prop:=
 (∃kvs k,Rd H a (.dK kvs)/\y=kV k/\r=uW kvs k)\/∃kvs k b,Rd H a (.dT kvs)/\y=.ref b/\H b=some (.tup (k.map kV))/\r=uW kvs k
theorem J3.k {H:Hp} {a:Addr} {kvs:List (Key×V)} {k:Key} (e:H a=some (.dK kvs)):J3 H a (kV k) (uW kvs k):=.inl ⟨kvs,k,.inl e,rfl,rfl⟩
theorem J3.t {H:Hp} {a b:Addr} {kvs:List (List Key×V)} {k:List Key} (e:H a=some (.dT kvs)) (eb:H b=some (.tup (k.map kV))):J3 H a (.ref b) (uW kvs k):=.inr ⟨kvs,k,b,.inl e,rfl,eb,rfl⟩
section
variable {X:Cx} {pins:List (Addr×Obj)} {σ:St} {H:Hp} {s:Shared} {a:Addr} {y v:V} {u:Value} {o:Option V} {A:Around} {E:Value->Shared->Prop}
theorem Inv.big (I:Inv X pins σ H s):sysModules<s.heap.objs.size:=by
 have h:mainGlobals<s.heap.objs.size:=(I.mod.glob.keeps I.bk).lt;exact Nat.lt_trans (by decide) h
theorem MK {Q:Value->Shared->Prop} (hu:A.units+1<cLine) (I:Inv X pins σ H s) (g:J3 H a y (some v)) (ry:RelV y u) (h:∀w' s',Inv X pins σ H s'->RelV v w'->Q w' s') :
  wpAny (model X.prog X.w) A (getItem (.ref a) u) Q E s:=by
 rcases g with ⟨kvs,k,e,ey,l⟩|⟨kvs,k,b,e,ey,eb,l⟩
 ·subst ey;obtain ⟨z,hd,vs,rel,dd⟩:=MF I.hok e;obtain ⟨w',hw,rw'⟩:=RM.some_of (v:=v) (o:=valueAt vs k) (by rw [l];exact rel.val k);exact wpAny_getItem_of (L_ ry) dd.mapOf hw (h w' _ (I.tok _) rw')
 ·subst ey;cases (show u=Value.ref b from ry);obtain ⟨z,hd,xs,rel,dd⟩:=MJ I.hok e;obtain ⟨w',hw,rw'⟩:=RM.some_of (v:=v) (o:=(atKey xs k).map (·.2)) (by rw [l];exact rel.val k);obtain ⟨p,hp,hp2⟩:=Option.map_eq_some_iff.mp hw;refine wpAny_getItem_heap (tupleKind_room_in1 hu) (CG I.hok eb) dd hp ?_;rw [hp2];exact h w' _ (I.tok _) rw'
theorem aGp {Q:Value->Shared->Prop} (hu:A.units+1<cLine) (I:Inv X pins σ H s) (g:J3 H a y o) (ry:RelV y u) (h:∀s',Inv X pins σ H s'->Q (.bool o.isSome) s') :
  wpAny (model X.prog X.w) A (compareOp .In u (.ref a)) Q E s:=by
 rcases g with ⟨kvs,k,e,ey,l⟩|⟨kvs,k,b,e,ey,eb,l⟩
 ·subst ey;obtain ⟨z,hd,vs,rel,dd⟩:=MF I.hok e;refine wpAny_in_of (L_ ry) hd dd.mapOf ?_;rw [<-(rel.val k).j5,<-l];exact h _ (I.tok _)
 ·subst ey;cases (show u=Value.ref b from ry);obtain ⟨z,hd,xs,rel,dd⟩:=MJ I.hok e;refine wpAny_in_heap (tupleKind_room_in1 hu) (CG I.hok eb) hd dd ?_;have q:=(rel.val k).j5;rw [Option.isSome_map] at q;rw [<-q,<-l];exact h _ (I.tok _)
theorem YX {Q:Value->Shared->Prop} (hu:A.units+1<cLine) (I:Inv X pins σ H s) (g:J3 H a y o) (ry:RelV y u) (h:∀s',Inv X pins σ H s'->Q (.bool (!o.isSome)) s') :
  wpAny (model X.prog X.w) A (compareOp .NotIn u (.ref a)) Q E s:=by
 rcases g with ⟨kvs,k,e,ey,l⟩|⟨kvs,k,b,e,ey,eb,l⟩
 ·subst ey;obtain ⟨z,hd,vs,rel,dd⟩:=MF I.hok e;refine wpAny_notIn_of (L_ ry) hd dd.mapOf ?_;rw [<-(rel.val k).j5,<-l];exact h _ (I.tok _)
 ·subst ey;cases (show u=Value.ref b from ry);obtain ⟨z,hd,xs,rel,dd⟩:=MJ I.hok e;refine wpAny_notIn_heap (tupleKind_room_in1 hu) (CG I.hok eb) hd dd ?_;have q:=(rel.val k).j5;rw [Option.isSome_map] at q;rw [<-q,<-l];exact h _ (I.tok _)
theorem YZ {h':Heap} {t':Nat} {ob:HO} (I:Inv X pins σ H s) (mu:Mut (H a)) (hs:Heap.SameBut a s.heap h') (he:∃q,h'.get? a=some q) (new:fB X.prog X.w (upd H a ob) h' a ob) :
  Inv X pins σ (upd H a ob) {s with heap:=h',toks:=t'}:=
 I.write (x:=a) (e:=a) mu (.inl rfl) (fun b q hb z=>(hs.2 b hb).trans z) he new
theorem aCe {P:Program} {w:World} {H':Hp} {h':Heap} {kvs:List (Key×V)} {vs:List (Key×Value)} (z:kvs.length<=sizeLine) (hd:(a==sysModules)=false) (rel:KV kvs vs) (dd:h'.DictOf (dO P w) a vs) :
  fB P w H' h' a (.dK kvs):=⟨z,hd,vs,rel,dd⟩
end
theorem zG {X:Cx} {pins:List (Addr×Obj)} {σ:St} {H:Hp} {s:Shared} {a:Addr} {y:V} {o:Option V} (I:Inv X pins σ H s) (g:J3 H a y o):s.TypeIs (.ref a) "dict":=by
 rcases g with ⟨kvs,k,e,_,_⟩|⟨kvs,k,b,e,_,_,_⟩
 ·obtain ⟨_,_,vs,_,dd⟩:=MF I.hok e;exact dd.typeIs
 ·obtain ⟨_,_,xs,_,dd⟩:=MJ I.hok e;exact dd.typeIs
theorem R6 {P:Program} {w:World} {H:Hp} (h:Heap) (hb:sysModules<h.objs.size):fB P w H (h.push {cls:=.type "dict",data:=.dict #[]}) h.objs.size (.dK []):=
 ⟨Nat.zero_le _,beq_eq_false_iff_ne.mpr (Ne.symm (Nat.ne_of_lt hb)),[],.nil,Heap.DictOf.new h⟩
def CJ:List (TE×TE)->St->Hp->(List (V×V)->Hp->Prop)->Prop
 | [],_,H,Q=>Q [] H
 | (tk,tv)::r,σ,H,Q=>tk σ H fun x H1=>tv σ H1 fun y H2=>CJ r σ H2 fun ps H3=>Q ((x,y)::ps) H3
abbrev VV:List (V×V)->List (Value×Value)->Prop:=Paired fun p q=>RelV p.1 q.1/\RelV p.2 q.2
def PPs (X:Cx) (pos:Pos) (keys:List (Option Expr)) (values:List Expr) (trs:List (TE×TE)):Prop:=
 ∀(pins:List (Addr×Obj)) (s:Shared) (σ:St) (H:Hp) (Q:List (V×V)->Hp->Prop),Inv X pins σ H s->CJ trs σ H Q->
  wpAny (model X.prog X.w) X.A (evalPairs (pairTrees keys values X.env pos)) (fun vs s'=>∃ps H',Inv X pins σ H' s'/\VV ps vs/\Q ps H') X.xe s
theorem Y0 {X:Cx} {pos:Pos}:PPs X pos [] [] []:=fun pins s σ H Q I h=>pairTrees_nil_walk ⟨[],H,I,.nil,h⟩
theorem nT {X:Cx} {pos:Pos} {k v:Expr} {ks:List (Option Expr)} {vs:List Expr} {tk tv:TE} {trs:List (TE×TE)} (hk:PE X k tk) (hv:PE X v tv) (hr:PPs X pos ks vs trs) :
  PPs X pos (some k::ks) (v::vs) ((tk,tv)::trs):=fun pins s σ H Q I h=>
 pairTrees_cons_walk (thn (hk pins s σ H _ I h) fun u s1 ⟨x,H1,I1,rx,q1⟩=>thn (hv pins s1 σ H1 _ I1 q1) fun w2 s2 ⟨y,H2,I2,ry,q2⟩=>
  thn (hr pins s2 σ H2 _ I2 q2) fun ws s3 ⟨ps,H3,I3,rel,q3⟩=>⟨(x,y)::ps,H3,I3,.cons ⟨rx,ry⟩ rel,q3⟩)
def oG (kvs more:List (Key×V)):List (Key×V):=more.foldl (fun acc kv=>putK acc kv.1 kv.2) kvs
theorem KV.merge:∀{more:List (Key×V)} {rs:List (Key×Value)} {kvs:List (Key×V)} {vs:List (Key×Value)},KV more rs->KV kvs vs->KV (oG kvs more) (merged vs rs):=by
 intro more rs kvs vs r;unfold KV at r;induction r generalizing kvs vs with
 | nil=>intro q;exact q
 | @cons p q ps qs h t ih=>
  intro r0;have e:KV (putK kvs p.1 p.2) (stored vs q.1 q.2):=by
   have:=r0.put p.1 h.2;rw [<-h.1];exact this
  exact ih e
theorem j6:∀(more kvs:List (Key×V)),(oG kvs more).length<=kvs.length+more.length
 | [],kvs=>by show kvs.length<=kvs.length+0;lia
 | p::r,kvs=>by
  have h1:=j6 r (putK kvs p.1 p.2);have h2:=zF kvs p.1 p.2;show (oG (putK kvs p.1 p.2) r).length<=_;rw [List.length_cons];lia
theorem uX {P:Program} {w:World}:∀{kvs:List (Key×V)} {ws:List (Value×Value)},VV (kvs.map fun kv=>(kV kv.1,kv.2)) ws->∃rs,Carries (dO P w) ws rs/\KV kvs rs
 | [],_,r=>by rw [List.map_nil] at r;cases r;exact ⟨[],True.intro,.nil⟩
 | p::kvs,_,r=>by
  rw [List.map_cons] at r;cases r with
  | @cons a b as bs h t=>
   obtain ⟨rs,c,q⟩:=uX (P:=P) (w:=w) t;obtain ⟨b1,b2⟩:=b;exact ⟨(p.1,b2)::rs,⟨L_ h.1,rfl,c⟩,.cons ⟨rfl,h.2⟩ q⟩
def aEv (trs:List (TE×TE)):TE:=fun σ H Q=>∀p,H p=none->CJ trs σ (upd H p (.dK [])) fun ps H2=>H2 p=some (.dK [])/\∃kvs:List (Key×V),ps=kvs.map (fun kv=>(kV kv.1,kv.2))/\kvs.length<=15/\Q (.ref p) (upd H2 p (.dK (oG [] kvs)))
theorem Y4 {X:Cx} {pos:Pos} {keys:List (Option Expr)} {values:List Expr} {trs:List (TE×TE)} (h:PPs X pos keys values trs) (hall:keys.all (·.isSome)=true) (hl:keys.length=values.length) (h0:keys≠[])
  (h15:keys.length<=15):PE X (.Dict keys values pos) (aEv trs):=by
 intro pins s σ H Q I q;have hn:=I.hok.fresh (Nat.le_refl s.heap.objs.size);have I1:=I.laid (a:=s.heap.objs.size) (o:=.dK []) (h':=s.heap.push {cls:=.type "dict",data:=.dict #[]}) (t':=s.toks) (fun _ _ q=>Heap.get?_push_of_some _ q) (Nat.le_refl _) (R6 s.heap I.big);refine wpAny_Dict_walk (knd:=dO X.prog X.w) hall hl h0 h15 (thn (h pins _ σ _ _ I1 (q _ hn)) fun ws s2 ⟨ps,H2,I2,rel,e,kvs,ep,lk,q2⟩=>?_);subst ep;obtain ⟨rs,c,rk⟩:=uX (P:=X.prog) (w:=X.w) rel;obtain ⟨z,hd,vs0,r0,dd⟩:=R5 I2.hok e;cases r0;refine ⟨rs,c,dd,fun h' dd' hs=>⟨.ref s.heap.objs.size,_,?_,rfl,q2⟩⟩;have hz:(oG [] kvs).length<=sizeLine:=by
  have h1:=j6 kvs [];rw [List.length_nil] at h1;rw [sizeLine_eq];lia
 have he:∃q,h'.get? s.heap.objs.size=some q:=let ⟨q,_,_,hq,_⟩:=dd';⟨q,hq⟩
 exact YZ I2 (by rw [e];exact True.intro) hs he (aCe hz hd (rk.merge .nil) dd')
end L2
namespace Att
open PySem PySem.W PySem.Calls PyProof.Rows
theorem oH {P:Params} {h:Heap}:∀(ns:List Int) (vs:List Value),WellAll P h vs (ns.map WData.int)->IntsAre vs ns:=by
 intro ns;induction ns with
 | nil=>
  intro vs w;rw [List.map_nil] at w;cases w;exact .nil
 | cons n ns ih=>
  intro vs w;rw [List.map_cons] at w;cases w with
  | cons a b=>
   cases a;exact .cons _ _ (ih _ b)
theorem MN {l:OpenLaw} {n:Nat} (hn:l.most=some n) {P:Params} {h:Heap} {args:List WData} {vals:List Value}
  (hpre:l.row.toRowW.claim.pre args=true) (hwl:WellAll P h vals args) :
  ∃a vs ns,vals=[Value.ref a]/\args=[WData.list (ns.map WData.int)]/\h.get? a=some {cls:=.type "list",data:=.seq vs.toArray}/\IntsAre vs ns/\ns.length<=n:=by
 have hsh:WShape.hasAll [] args [.list .int]=true:=(pre_splitW hpre).1;have hc:l.pre.holds [] {args:=args}=true:=(pre_splitW hpre).2;obtain ⟨d,r,rfl,h1,h2⟩:=hasAllW_cons hsh;obtain rfl:=hasAllW_nil h2;obtain ⟨xs,rfl,h3⟩:=hasW_list h1;obtain ⟨ns,rfl⟩:=items_int h3;have hlen:ns.length<=n:=by
  unfold OpenLaw.pre at hc;have h4:(WTm.not (.lt (.lit (.int (n:Int))) (.len (.arg 0)))).holds [] {args:=[.list (ns.map .int)]}=true:=by
   have h4:=(holds_andW hc).1;rw [hn] at h4;exact h4
  have h5:=condW_of h4 (w_not (w_lt w_lit (w_len_list (w_arg rfl))));rw [List.length_map] at h5;refine Nat.le_of_not_lt fun q=>?_
  have q':(n:Int)<((ns.length:Nat):Int):=by lia
  first
   | (rw [decide_eq_true q'] at h5;exact absurd h5 (by decide))
   | (simp at h5;lia)
 cases hwl with
 | cons w1 w2=>
  cases w2;cases w1 with
  | list ho hall=>exact ⟨_,_,ns,rfl,rfl,ho,oH ns _ hall,hlen⟩
theorem MP (l:OpenLaw) (args:List WData):l.row.toRowW.claim.post args (.bool true) args=true:=
 postW_of (r:=l.row.toRowW) (X:=(true==true))
  (show WShape.has [] (.bool true) .bool=true by first|rfl|decide|simp [WShape.has,WShape.arms,WShape.armsAll])
  (show (WTm.eq .res (.lit (.bool true))).value [] {args:=args,res:=some (.bool true),after:=args}=some (.bool (true==true)) from w_eq_bool (w_res rfl) w_lit) rfl
theorem zH {l:OpenLaw} {n:Nat} {q:Program} {loose:List Str} {XP:(Str->Option Value)->Heap->Prop} {YP:World->Heap->Prop} {d:DefRec}
  (hn:l.most=some n) (hdf:d.params.defaults=[])
  (call:∀(w:World) (s₀ s₁:Shared) (mg mb:Str->Option Value) (fa:Addr) (o:Obj) (pm cd doc:Value) (a:Addr) (vs:List Value) (ns:List Int),
   Ground q loose [] XP w s₀ mg mb s₁.heap->YP w s₁.heap->
   s₁.heap.get? fa=some o->o.data=.func (docDef d.name d.params d.body d.scope pm cd doc)->s₁.heap.CodeRec cd d.name->mg d.name=some (.ref fa)->
   s₁.heap.get? a=some {cls:=.type "list",data:=.seq vs.toArray}->IntsAre vs ns->ns.length<=n->s₁.gens=#[]->
   codeAny (model l.prog w) callerA (.call (.ref fa) ⟨[.ref a],[]⟩) (fun r s'=>r=.ok (.ret (.bool true))/\OldK s₁.heap s'.heap/\s'.os=s₁.os/\AllBare s'.gens) s₁) :
  WalkO q loose XP YP l.row.toRowW d [] (fun f vs=>PySem.call f vs):=by
 intro w s₀ s₁ mg mb G Y fa o pm cd doc dV kV ho hd hcd hD hmg hg args vals as hpre hlay hrd hwl hlo;obtain rfl:dV=.none:=Dflts.none hD hdf;obtain rfl:kV=.none:=Dflts.noKw hD;obtain ⟨a,vs,ns,rfl,rfl,hobj,hints,hlen⟩:=MN hn hpre hwl;refine enter_call (codeAny_mono (call w s₀ s₁ mg mb fa o pm cd doc a vs ns G Y ho (fd_plain hd) hcd hmg hobj hints hlen hg) fun r s' hq=>?_);obtain ⟨rfl,h2,h3,h4⟩:=hq;exact ⟨.inl ⟨.bool true,.bool true,[],rfl,fun _=>rfl,.bool true,MP l _,fun _=>⟨List.Pairwise.nil,fun _ hm=>(nomatch hm)⟩⟩,h2,h3,h4⟩
end Att
namespace L2
open PySem PySem.Spec PyProof.Rows
theorem xH:∀{vs:List Value} {ns:List Int},IntsAre vs ns->Vals (ns.map V.int) vs
 | _,_,.nil=>.nil
 | _,_,.cons n t h=>.cons ⟨t,rfl⟩ (xH h)
def Only (H:Hp):Prop:=∀b,H b=none\/∃o xs,H b=some (.frz o (.lst xs))
theorem R7 {P:Program} {w:World} {K:PySem.W.Frag} {mg mb:Str->Option Value} {CX:CXT} {k:Nat} {fa a:Addr} {fd:FuncData} {x:Str} {sp:Sp} {s₁:Shared} {vs:List Value} {ns:List Int}
  (KX:K.In s₁.heap) (hns:s₁.heap.Ns mainGlobals mg) (hb:s₁.heap.Ns builtinsNs mb) (hbb:∀x:Str,x ≠ "__name__"->mb x=bootBuiltins x) (hlim:s₁.heap.NoLimit) (hg:s₁.gens=#[])
  (ha:s₁.heap.get? a=some {cls:=.type "list",data:=.seq vs.toArray}) (hi:IntsAre vs ns) (hl:ns.length<=sizeLine) (hr:jK k callerA)
  (F:∀base:Heap,K.In base->base.Ns mainGlobals mg->uU P w K mg base CX k fa fd [x] sp) (hbind:∀(s:Shared) (u:Value),BindsTo s fd ⟨[u],[]⟩ [(x,u)])
  (hsp:∀H:Hp,Only H->SqL K H a (ns.map V.int)->sp [.ref a] H (fun v _=>v=.bl true) fun _ _ _=>False)
  (hCX:∀H e s',CX [] H s₁ (fun _ _ _=>False) e s'->False) :
  codeAny (model P w) callerA (.call (.ref fa) ⟨[.ref a],[]⟩) (fun r s'=>r=.ok (.ret (.bool true))/\OldK s₁.heap s'.heap/\s'.os=s₁.os/\AllBare s'.gens) s₁:=by
 have rv:=xH hi;have lenV:=hi.length
 -- from an abstract heap in which nothing but the script may be tracked
 have core:∀H:Hp,Only H->SqL K H a (ns.map V.int)->HOk P w H s₁.heap->(∀b,H b≠none->b=a)->(H a≠none->K.lookup a=none)->
   codeAny (model P w) callerA (.call (.ref fa) ⟨[.ref a],[]⟩) (fun r s'=>r=.ok (.ret (.bool true))/\OldK s₁.heap s'.heap/\s'.os=s₁.os/\AllBare s'.gens) s₁:=by
  intro H hO hS hok hA hK;have base_of:∀{b:Addr} {o:Obj},s₁.heap.get? b=some o->H b=none->(RP s₁.heap H).get? b=some o:=fun e n=>RQ e n
  have noA:∀{b:Addr} {o:Obj} {es:Array DictEntry} {ep:Nat},s₁.heap.get? b=some o->o.data=.dict es ep->H b=none:=fun {b o es ep} e d=>by
   cases q:H b with
   | none=>rfl
   | some u=>
    have e':b=a:=hA b (by rw [q];simp);subst e';rw [ha] at e;cases e;have d':Data.seq vs.toArray _=Data.dict es ep:=d;cases d'
  have nsK:∀{b:Addr} {m:Str->Option Value},s₁.heap.Ns b m->(RP s₁.heap H).Ns b m:=fun {b m} ⟨o,es,ep,e,d,r⟩=>⟨o,es,ep,base_of e (noA e d),d,r⟩
  have hKb:K.In (RP s₁.heap H):=fun b o e=>base_of (KX b o e) (by
   cases q:H b with
   | none=>rfl
   | some u=>
    have e':b=a:=hA b (by rw [q];simp);subst e';rw [hK (by rw [q];simp)] at e;cases e)
  have hM:Mod K mg (RP s₁.heap H):=⟨hKb,nsK hns,⟨mb,nsK hb,hbb⟩,let ⟨mc,h1,h2⟩:=hlim;⟨mc,nsK h1,h2⟩⟩
  have e0:YK P w K mg (RP s₁.heap H) callerA [] s₁ H:=⟨rfl,hM,fun b o e=>YB e,Nat.le_of_eq (J_ _ _),trivial,fun b hb=>absurd (show b∈([]:List Addr) from hb) (by simp),hok,.of_eq hg⟩
  refine codeAny_mono ((F _ hKb (nsK hns)).run callerA [] s₁ H ⟨[.ref a],[]⟩ [.ref a] [.ref a] _ _ hr e0 (hbind s₁ (.ref a)) (.cons rfl .nil) (hsp H hO hS)) fun r s' h=>?_
  cases r with
  | error e=>exact (hCX H e s' h).elim
  | ok fl=>
   cases fl with
   | next=>exact False.elim h
   | brk=>exact False.elim h
   | cont=>exact False.elim h
   | ret u=>
    obtain ⟨v,H',os,bare,un,hok',r',q⟩:=h;have q':v=.bl true:=q;subst q';obtain rfl:u=Value.bool true:=r';refine ⟨rfl,OldK.of_keep fun b o e=>?_,os,bare⟩;cases q:H b with
    | none=>exact un.keep b o e q (by intro z;exact absurd (show b∈([]:List Addr) from z) (by simp)) (by simp)
    | some u=>
     rcases hO b with z|⟨ob,xs,z⟩
     ·rw [q] at z;cases z
     ·have z2:=un.frzs b ob _ z;obtain ⟨e1,_⟩:=hok b _ z;obtain ⟨e2,_⟩:=hok' b _ z2;rw [e] at e1;cases e1;exact e2
 cases hk:K.lookup a with
 | some o=>
  -- the script is one of the module's own objects
  have e:=KX a o hk;rw [ha] at e;cases e;refine core (fun _=>none) (fun _=>.inl rfl) (.inr ⟨_,vs.toArray,_,hk,rfl,rfl,rfl,by rw [List.size_toArray,lenV];exact hl,by simpa using rv⟩) (fun b u z=>by have z':(none:Option HO)=some u:=z;cases z') (fun b z=>absurd rfl z) fun z=>absurd rfl z
 | none=>
  refine core (fun b=>if b=a then some (.frz {cls:=.type "list",data:=.seq vs.toArray} (.lst (ns.map V.int))) else none) (fun b=>?_) (.inl (.inr ⟨{cls:=.type "list",data:=.seq vs.toArray},if_pos rfl⟩)) (fun b u z=>?_) (fun b z=>?_) fun _=>hk
  ·by_cases hb:b=a
   ·exact .inr ⟨_,_,if_pos hb⟩
   ·exact .inl (if_neg hb)
  ·by_cases hb:b=a
   ·have z':=(if_pos hb).symm.trans z;cases z';subst hb;exact ⟨ha,by rw [List.length_map];exact hl,vs,_,rv,ha⟩
   ·have z':=(if_neg hb).symm.trans z;cases z'
  ·by_cases hb:b=a
   ·exact hb
   ·exact absurd (if_neg hb) z
theorem Y5 {l:PySem.W.OpenLaw} {n k:Nat} {q:Program} {loose:List Str} {XP:(Str->Option Value)->Heap->Prop} {YP:World->Heap->Prop} {d:DefRec} {K:Params->PySem.W.Frag} {CX:World->CXT} {sp:World->Sp} {x:Str}
  (hn:l.most=some n) (hn2:n<=sizeLine) (hdf:d.params.defaults=[]) (hr:jK k callerA)
  (hY:∀(w:World) (h:Heap),YP w h->(K w.params).In h)
  (F:∀(w:World) (mg:Str->Option Value) (fa:Addr) (h:Heap),(K w.params).In h->h.Ns mainGlobals mg->mg d.name=some (.ref fa)->
   ∃fd:FuncData,(∀(s:Shared) (u:Value),BindsTo s fd ⟨[u],[]⟩ [(x,u)])/\
    ∀base:Heap,(K w.params).In base->base.Ns mainGlobals mg->uU l.prog w (K w.params) mg base (CX w) k fa fd [x] (sp w))
  (hsp:∀(w:World) (H:Hp) (a:Addr) (ns:List Int),ns.length<=n->Only H->SqL (K w.params) H a (ns.map V.int)->sp w [.ref a] H (fun v _=>v=.bl true) fun _ _ _=>False)
  (hCX:∀(w:World) (H:Hp) (s:Shared) (e:Value) (s':Shared),CX w [] H s (fun _ _ _=>False) e s'->False) :
  PySem.W.WalkO q loose XP YP l.row.toRowW d [] (fun f vs=>PySem.call f vs):=by
 refine Att.zH hn hdf fun w s₀ s₁ mg mb fa o pm cd doc a vs ns G Y ho hd hcd hmg hobj hints hlen hg=>?_
 have KX:=hY w _ Y;obtain ⟨fd,hb,hF⟩:=F w mg fa _ KX G.T.g hmg;exact R7 KX G.T.g G.T.b G.T.builtins G.T.nolimit hg hobj hints (Nat.le_trans hlen hn2) hr hF hb (fun H hO hS=>hsp w H a ns hlen hO hS) fun H e s'=>hCX w H s₁ e s'
noncomputable def jB (s:Stmt):Arguments:=match s with
 | .FunctionDef _ a _ _ _ _ _ _ _ _=>a
 | _=>{posonlyargs:=[],args:=[],vararg:=none,kwonlyargs:=[],kw_defaults:=[],kwarg:=none,defaults:=[]}
noncomputable def fC (s:Stmt):List Stmt:=match s with
 | .FunctionDef _ _ b _ _ _ _ _ _ _=>b
 | _=>[]
noncomputable def aU (s:Stmt):Scope:=match s with
 | .FunctionDef _ _ _ _ _ _ sc _ _ _=>sc
 | _=>{kind:=.function,names:=[],isGenerator:=false,isCoroutine:=false}
noncomputable abbrev CX0:CXT:=fun _ _ _ _ _ _=>False
noncomputable abbrev E0:XK:=fun _ _ _=>False
theorem aEw {X:Cx}:K8 CX0 X E0:=fun _ _ _ _ _ _ _ h=>h.elim
structure Fun (K:PySem.W.Frag) (x qual:Str) (st:Stmt) (f:Addr) (fd:FuncData):Prop where
 ex:∃(oc:Value) (od:Option Addr) (kV doc pm:Value) (an:Option Addr) (cdv ct:Value) (osl:Array (Option Value)),
  fd=PySem.W.fnOf x qual (jB st) (fC st) (aU st) .none kV doc pm an cdv ct/\K.lookup f=some ⟨oc,od,.func fd,osl⟩/\PySem.W.codeIn K cdv qual=true
 kp:PySem.W.keepIn K (.ref f)=true
section
variable {P:Program} {w:World} {K:PySem.W.Frag} {mg:Str->Option Value} {base:Heap}
theorem Fun.ok {x qual:Str} {st:Stmt} {f:Addr} {fd:FuncData} {N ps:List Str} {k:Nat} {sp:Sp} (F:Fun K x qual st f fd) (S:cJ N ps (aU st)) (len:∀vs H Q E,sp vs H Q E->vs.length=ps.length)
  (hbody:∀(cdv:Value) (A:Around) (outer:List Env) (s:Shared) (H:Hp) (vs:List V) (Q:VK) (E:XK),jK k (A.deeper (envOfC qual (aU st) s.heap.objs.size f cdv))->sp vs H Q E->
   ∃t,PSs (uB CX0 P w K mg base N qual (aU st) f cdv A outer s H E).nox (fC st) t/\t {nx:=fun _ H'=>Q .non H',rt:=Q} (start N vs) H):uU P w K mg base CX0 (k+1) f fd ps sp:=by
 obtain ⟨oc,od,kV,doc,pm,an,cdv,ct,osl,rfl,lk,hcd⟩:=F.ex;refine aC5 lk hcd S len fun A outer s H vs Q E hr hsp=>?_
 obtain ⟨t,h,q⟩:=hbody cdv A outer s H vs Q E hr hsp;exact ⟨t,h.nox,q⟩
theorem Fun.binds {x qual:Str} {st:Stmt} {f:Addr} {fd:FuncData} {ps:List Str} (F:Fun K x qual st f fd)
  (h:∀(kV doc pm:Value) (an:Option Addr) (cdv ct:Value) (us:List Value),us.length=ps.length->bindArgs (PySem.W.fnOf x qual (jB st) (fC st) (aU st) .none kV doc pm an cdv ct) ⟨us,[]⟩=pure (ps.zip us)):Binds K fd ps []:=by
 obtain ⟨oc,od,kV,doc,pm,an,cdv,ct,osl,rfl,lk,hcd⟩:=F.ex;exact .all (h kV doc pm an cdv ct)
theorem CK {x qual:Str} {st:Stmt} {f:Addr} {oc:Value} {od an:Option Addr} {osl:Array (Option Value)} {kV doc pm cdv ct:Value} (l:K.lookup f=some ⟨oc,od,.func (PySem.W.fnOf x qual (jB st) (fC st) (aU st) .none kV doc pm an cdv ct),osl⟩)
  (c:PySem.W.codeIn K cdv qual=true) (k:PySem.W.keepIn K (.ref f)=true):Fun K x qual st f (PySem.W.fnOf x qual (jB st) (fC st) (aU st) .none kV doc pm an cdv ct):=⟨⟨oc,od,kV,doc,pm,an,cdv,ct,osl,rfl,l,c⟩,k⟩
end
def cN (H H':Hp):Prop:=∀b o,H b=some o->H' b=some o
theorem cN.refl (H:Hp):cN H H:=fun _ _ h=>h
theorem cN.trans {H H1 H2:Hp} (a:cN H H1) (b:cN H1 H2):cN H H2:=fun c o h=>b c o (a c o h)
theorem cN.free {H H':Hp} (e:cN H H') {l:Addr} (h:H' l=Option.none):H l=Option.none:=by
 cases q:H l with
 | none=>rfl
 | some o=>
  rw [e l o q] at h;cases h
end L2
namespace Mi
open PySem
inductive D where
 | uD|non|bl (b:Bool)|int (i:Int)|str (x:Str)
 | tup (xs:List D)|lst (xs:List D)|dct (kvs:List (D×D))|scr (xs:List D)|fdc (kvs:List (D×D))|cel (a:Nat) (xs:List D)|exc (c:Str) (fs:List (Str×Int))|ins (c:Str) (fs:List (Str×D))
 deriving Inhabited
mutual
noncomputable def D.pure:D->Bool
 | .tup xs=>D.bU xs
 | .lst _=>false
 | .dct _=>false
 | .uD=>false
 | .scr xs=>D.bU xs
 | .fdc _=>false
 | .cel _ _=>false
 | .exc _ _=>false
 | .ins _ _=>false
 | _=>true
noncomputable def D.bU:List D->Bool
 | []=>true
 | x::xs=>x.pure&&D.bU xs
end
mutual
noncomputable def eqD:D->D->Bool
 | .non,.non=>true
 | .bl a,.bl b=>a==b
 | .int a,.int b=>a==b
 | .bl a,.int b=>(if a then (1:Int) else 0)==b
 | .int a,.bl b=>a==(if b then (1:Int) else 0)
 | .str a,.str b=>a==b
 | .tup xs,.tup ys=>zJ xs ys
 | .lst xs,.lst ys=>zJ xs ys
 | _,_=>false
noncomputable def zJ:List D->List D->Bool
 | [],[]=>true
 | x::xs,y::ys=>eqD x y&&zJ xs ys
 | _,_=>false
end
mutual
noncomputable def D.cQ:Nat->D->Bool
 | n+1,.tup xs=>D.eV n xs
 | n+1,.lst xs=>D.eV n xs
 | 0,.tup _=>false
 | 0,.lst _=>false
 | _,.dct _=>false
 | _,.uD=>false
 | _,.scr _=>false
 | _,.fdc _=>false
 | _,.cel _ _=>false
 | _,.exc _ _=>false
 | _,.ins _ _=>false
 | _,_=>true
noncomputable def D.eV:Nat->List D->Bool
 | _,[]=>true
 | n,x::xs=>D.cQ n x&&D.eV n xs
end
inductive gJ where|lt|le|gt|ge
 deriving DecidableEq
noncomputable def gJ.int:gJ->Int->Int->Bool
 | .lt,a,b=>decide (a<b)|.le,a,b=>decide (a<=b)|.gt,a,b=>decide (b<a)|.ge,a,b=>decide (b<=a)
noncomputable def gJ.nat:gJ->Nat->Nat->Bool
 | .lt,a,b=>decide (a<b)|.le,a,b=>decide (a<=b)|.gt,a,b=>decide (b<a)|.ge,a,b=>decide (b<=a)
noncomputable def R8 (a b:Str):Bool:=decide (a.cps.toList<b.cps.toList)
def gJ.str:gJ->Str->Str->Bool
 | .lt,a,b=>R8 a b|.le,a,b=>!R8 b a|.gt,a,b=>R8 b a|.ge,a,b=>!R8 a b
mutual
noncomputable def xJ (o:gJ):D->D->Option Bool
 | .int a,.int b=>some (o.int a b)
 | .str a,.str b=>some (o.str a b)
 | .tup xs,.tup ys=>fH o xs ys
 | _,_=>none
noncomputable def fH (o:gJ):List D->List D->Option Bool
 | [],ys=>some (o.nat 0 ys.length)
 | x::xs,[]=>some (o.nat (x::xs).length 0)
 | x::xs,y::ys=>if eqD x y then fH o xs ys else xJ o x y
end
inductive Res (α:Type) where
 | ok (a:α)|err (c:Str) (as:List D)|bad
noncomputable def Res.bind {α β:Type}:Res α->(α->Res β)->Res β
 | .ok a,f=>f a
 | .err c as,_=>.err c as
 | .bad,_=>.bad
noncomputable instance:Monad Res where
 pure:=.ok
 bind:=Res.bind
@[simp] theorem Res.aO {α β:Type} (a:α) (f:α->Res β):((Res.ok a) >>= f)=f a:=rfl
@[simp] theorem Res.aE3 {α β:Type} (c:Str) (as:List D) (f:α->Res β):((Res.err c as:Res α) >>= f)=.err c as:=rfl
@[simp] theorem Res.aE4 {α β:Type} (f:α->Res β):((Res.bad:Res α) >>= f)=.bad:=rfl
@[simp] theorem Res.pure_eq {α:Type} (a:α):(pure a:Res α)=.ok a:=rfl
theorem Res.Y6 {α β:Type} {m:Res α} {f:α->Res β} {b:β} (h:(m >>= f)=.ok b):∃a,m=.ok a/\f a=.ok b:=by
 cases m with
 | ok a=>exact ⟨a,rfl,h⟩
 | err c as=>cases h
 | bad=>cases h
noncomputable def Res.ofOpt {α:Type}:Option α->Res α
 | some a=>.ok a
 | none=>.bad
@[simp] theorem Res.aB9 {α:Type} (a:α):Res.ofOpt (some a)=.ok a:=rfl
theorem Res.fY {α:Type} {o:Option α} {a:α} (h:Res.ofOpt o=.ok a):o=some a:=by
 cases o with
 | none=>cases h
 | some b=>cases h;rfl
noncomputable def lim:Nat:=1000000
inductive Bop where|add|sub|mul|fdiv|mod|pow
 deriving DecidableEq
inductive Cop where|eq|ne|ord (o:gJ)|isin|notin|isN|notN
 deriving DecidableEq
noncomputable def j7 (i:Int):Bool:=decide (-(2 ^ 64)<i)&&decide (i<2 ^ 64)
def aP:Bop->D->D->Res D
 | .add,.int a,.int b=>.ok (.int (a+b))
 | .sub,.int a,.int b=>.ok (.int (a-b))
 | .mul,.int a,.int b=>if j7 a||j7 b then .ok (.int (a*b)) else .bad
 | .fdiv,.int a,.int b=>if decide (0<b)&&decide (b<1073741824) then .ok (.int (a / b)) else .bad
 | .mod,.int a,.int b=>if decide (0<b) then .ok (.int (a % b)) else .bad
 | .pow,.int a,.int b=>if decide (0<=b)&&decide (b<=1000000)&&decide (a.natAbs<2 ^ 64) then .ok (.int (a ^ b.toNat)) else .bad
 | .add,.str a,.str b=>if decide (a.length+b.length<=lim) then .ok (.str (a++b)) else .bad
 | .add,.lst a,.lst b=>if decide (a.length+b.length<=lim)&&D.bU a&&D.bU b then .ok (.lst (a++b)) else .bad
 | _,_,_=>.bad
def aEx:D->Res Bool
 | .non=>.ok false
 | .bl b=>.ok b
 | .int i=>.ok (i != 0)
 | .str x=>if decide (x.length<=lim) then .ok ((x.length:Int) != 0) else .bad
 | .tup xs=>.ok (!xs.isEmpty)
 | .lst xs=>.ok (!xs.isEmpty)
 | .dct kvs=>.ok (!kvs.isEmpty)
 | .uD=>.bad
 | .fdc _=>.bad
 | .cel _ _=>.bad
 | .exc _ _=>.bad
 | .ins _ _=>.bad
 | .scr xs=>.ok (!xs.isEmpty)
noncomputable def oJ:D->Bool
 | .int _=>true
 | .str _=>true
 | _=>false
def keyOk:D->Bool
 | .int _=>true
 | .str _=>true
 | .tup xs=>xs.all oJ
 | _=>false
noncomputable def isTup:D->Bool
 | .tup _=>true
 | _=>false
def dX:List (D×D)->D->Option D
 | [],_=>none
 | (k,v)::r,q=>if eqD k q then some v else dX r q
def putD:List (D×D)->D->D->List (D×D)
 | [],q,w=>[(q,w)]
 | (k,v)::r,q,w=>if eqD k q then (k,w)::r else (k,v)::putD r q w
def aBa (kvs:List (D×D)) (k:D):Bool:=keyOk k&&kvs.all (fun p=>isTup p.1==isTup k)
noncomputable def bB:Nat:=12
def bO:Cop->D->D->Res D
 | .eq,a,b=>if a.cQ bB&&b.cQ bB then .ok (.bl (eqD a b)) else .bad
 | .ne,a,b=>if a.cQ bB&&b.cQ bB then .ok (.bl (!eqD a b)) else .bad
 | .ord o,a,b=>if a.cQ bB&&b.cQ bB then (match xJ o a b with|some k=>.ok (.bl k)|none=>.bad) else .bad
 | .isin,a,.tup ys=>if a.cQ bB&&D.eV bB ys then .ok (.bl (ys.any fun y=>eqD y a)) else .bad
 | .isin,a,.lst ys=>if a.cQ bB&&D.eV bB ys then .ok (.bl (ys.any fun y=>eqD y a)) else .bad
 | .isin,a,.dct kvs=>if aBa kvs a then .ok (.bl (dX kvs a).isSome) else .bad
 | .notin,a,.tup ys=>if a.cQ bB&&D.eV bB ys then .ok (.bl (!(ys.any fun y=>eqD y a))) else .bad
 | .notin,a,.lst ys=>if a.cQ bB&&D.eV bB ys then .ok (.bl (!(ys.any fun y=>eqD y a))) else .bad
 | .notin,a,.dct kvs=>if aBa kvs a then .ok (.bl (!(dX kvs a).isSome)) else .bad
 | .isN,.scr _,.non=>.bad
 | .notN,.scr _,.non=>.bad
 | .isN,.fdc _,.non=>.bad
 | .notN,.fdc _,.non=>.bad
 | .isN,.cel _ _,.non=>.bad
 | .notN,.cel _ _,.non=>.bad
 | .isN,.non,.non=>.ok (.bl true)
 | .isN,a,.non=>.ok (.bl false)
 | .notN,.non,.non=>.ok (.bl false)
 | .notN,a,.non=>.ok (.bl true)
 | _,_,_=>.bad
noncomputable def ixD (n:Nat) (i:Int):Option Nat:=if 0<=i then (if i<n then some i.toNat else none) else if -(n:Int)<=i then some (i+n).toNat else none
def getD (d i:D):Res D:=
 match d,i with
 | .tup xs,.int i=>Res.ofOpt ((ixD xs.length i).bind fun j=>xs[j]?)
 | .lst xs,.int i=>Res.ofOpt ((ixD xs.length i).bind fun j=>xs[j]?)
 | .scr xs,.int i=>Res.ofOpt ((ixD xs.length i).bind fun j=>xs[j]?)
 | .cel _ xs,.int i=>Res.ofOpt ((ixD xs.length i).bind fun j=>xs[j]?)
 | .str x,.int i=>if decide (x.length<=lim) then Res.ofOpt (((ixD x.cps.toList.length i).bind fun j=>x.cps.toList[j]?).map fun c=>D.str ⟨#[c]⟩) else .bad
 | .dct kvs,k=>if keyOk k then Res.ofOpt (dX kvs k) else .bad
 | .fdc kvs,k=>if keyOk k then Res.ofOpt (dX kvs k) else .bad
 | _,_=>.bad
noncomputable def J4 (n d:Nat):Option Int->Nat
 | none=>d
 | some v=>if v<0 then (max (v+(n:Int)) 0).toNat else (min v (n:Int)).toNat
def cutD {α:Type} (xs:List α) (lo hi:Option Int):List α:=(xs.drop (J4 xs.length 0 lo)).take (J4 xs.length xs.length hi-J4 xs.length 0 lo)
inductive Ty where|int|str|bool|list|tuple|dict
 deriving DecidableEq
noncomputable def MT:Ty->D->Res Bool
 | _,.uD=>.bad
 | _,.scr _=>.bad
 | _,.fdc _=>.bad
 | _,.cel _ _=>.bad
 | _,.exc _ _=>.bad
 | _,.ins _ _=>.bad
 | .int,.int _=>.ok true
 | .int,.bl _=>.ok true
 | .bool,.bl _=>.ok true
 | .str,.str _=>.ok true
 | .tuple,.tup _=>.ok true
 | .list,.lst _=>.ok true
 | .dict,.dct _=>.ok true
 | _,_=>.ok false
noncomputable def oK (i:Int):Bool:=decide (-(2 ^ 62)<=i)&&decide (i<2 ^ 62)
noncomputable def asB:D->Res Bool
 | .bl b=>.ok b
 | _=>.bad
noncomputable def asI:D->Res Int
 | .int i=>.ok i
 | _=>.bad
inductive Fl where
 | nx (ρ:List D)|rt (d:D)|bk (ρ:List D)|ct (ρ:List D)
noncomputable def aG2:Fl->Res D
 | .rt d=>.ok d
 | .nx _=>.ok .non
 | _=>.bad
noncomputable abbrev FE:=List D->Res D
noncomputable abbrev FT:=List D->Res Bool
noncomputable abbrev FA:=List D->Res (List D)
noncomputable def fU (i:Nat):FE:=fun ρ=>match ρ.getD i .uD with|.uD=>.bad|d=>.ok d
noncomputable def bC (d:D):FE:=fun _=>.ok d
abbrev dN:FE := fU 0
abbrev cH:FE := fU 1
abbrev e_:FE := fU 2
abbrev iW:FE := fU 3
abbrev mX:FE := fU 4
abbrev zK:FE := fU 5
abbrev WD:FE := fU 7
abbrev yW:FE := fU 6
abbrev jW:FE := fU 8
abbrev J5:FE := bC (.int 5)
abbrev j8:FE := bC (.int 2)
abbrev iY:FE := bC (.int 0)
abbrev eE:FE := bC (.int 1)
abbrev R9:FE := bC (.int 8)
abbrev aBb:FE := bC (.int 7)
abbrev mY:FE := bC (.int 3)
abbrev WF:FE := bC (.int 9)
abbrev yX:FE := bC (.int 6)
abbrev R_:FE := bC (.int 26)
abbrev Y7:FE := bC (.int 48)
abbrev RN:FE := bC (.int 4)
abbrev SJ:FE := bC (.int 25)
noncomputable def b2 (f:D->D->Res D) (a b:FE):FE:=fun ρ=>do let x <- a ρ;let y <- b ρ;f x y
noncomputable def b1 (f:D->Res D) (a:FE):FE:=fun ρ=>do let x <- a ρ;f x
def bTB (a:FE):FT:=fun ρ=>do let x <- a ρ;asB x
noncomputable def SM (a:FT):FT:=fun ρ=>do let x <- a ρ;pure (!x)
noncomputable def J6 (a b:FT):FT:=fun ρ=>do let x <- a ρ;if x then b ρ else pure false
noncomputable def bOr (a b:FT):FT:=fun ρ=>do let x <- a ρ;if x then pure true else b ρ
def aCf (a:FE):FE:=fun ρ=>do let x <- a ρ;let k <- asB x;pure (.bl (!k))
def uC (a b:FE):FE:=fun ρ=>do let x <- a ρ;let k <- asB x;if k then b ρ else pure (.bl false)
def bCh (f g:D->D->Res D) (a b c:FE):FE:=fun ρ=>do let x <- a ρ;let y <- b ρ;let z <- f x y;let k <- asB z;if k then (do let u <- c ρ;g y u) else pure (.bl false)
noncomputable def aZ:FA:=fun _=>.ok []
noncomputable def aD (a:FE) (b:FA):FA:=fun ρ=>do let x <- a ρ;let xs <- b ρ;pure (x::xs)
def Y8 (a:FA):FE:=fun ρ=>do let xs <- a ρ;if decide (xs.length<=lim) then pure (.tup xs) else .bad
def fG (a:FA):FE:=fun ρ=>do let xs <- a ρ;if decide (xs.length<=lim) then pure (.lst xs) else .bad
noncomputable def aW (f:List D->Res D) (a:FA):FE:=fun ρ=>do let xs <- a ρ;f xs
noncomputable def bM (f:D->List D->Res D) (o:FE) (a:FA):FE:=fun ρ=>do let x <- o ρ;let xs <- a ρ;f x xs
def bK (a:FE):List D->Res (Option Int):=fun ρ=>do let x <- a ρ;let i <- asI x;pure (some i)
noncomputable def cG:List D->Res (Option Int):=fun _=>.ok none
def aGq:D->Res Bool
 | .dct _=>.bad
 | .scr _=>.bad
 | .fdc _=>.bad
 | d=>aEx d
def bTr (a:FE):FT:=fun ρ=>do let x <- a ρ;aGq x
noncomputable def aCg:D->Res D
 | .int i=>.ok (.int (-i))
 | _=>.bad
def aE5:D->Option Int->Option Int->Res D
 | .lst xs,lo,hi=>if D.bU xs then .ok (.lst (cutD xs lo hi)) else .bad
 | .scr xs,lo,hi=>if D.bU xs then .ok (.lst (cutD xs lo hi)) else .bad
 | .tup xs,lo,hi=>if !D.bU xs||decide (J4 xs.length 0 lo=0/\J4 xs.length xs.length hi=xs.length) then .bad else .ok (.tup (cutD xs lo hi))
 | _,_,_=>.bad
def iZ:List D->Res D
 | [.tup xs]=>.ok (.int xs.length)
 | [.lst xs]=>.ok (.int xs.length)
 | [.scr xs]=>.ok (.int xs.length)
 | [.cel _ xs]=>.ok (.int xs.length)
 | [.str x]=>if decide (x.length<=lim) then .ok (.int x.length) else .bad
 | _=>.bad
noncomputable def aCh (kvs:List (D×D)):List D:=kvs.map (·.1)
def M3:List D->Res D
 | [.tup xs]=>if D.bU xs then .ok (.lst xs) else .bad
 | [.lst xs]=>if D.bU xs then .ok (.lst xs) else .bad
 | [.dct kvs]=>if kvs.all (fun p=>!isTup p.1) then .ok (.lst (aCh kvs)) else .bad
 | _=>.bad
noncomputable def j9:List D->Res D
 | [.tup xs]=>.ok (.tup xs)
 | [.lst xs]=>.ok (.tup xs)
 | _=>.bad
noncomputable def Ty.nm:Ty->String
 | .int => "int" | .str => "str" | .bool => "bool" | .list => "list" | .tuple => "tuple" | .dict => "dict"
def Y9 (t:Ty) (d:D):Res D:=do let k <- MT t d;pure (.bl k)
noncomputable def dC (n:Nat) (f:List D->Res D):List D->Res D:=fun ds=>if decide (ds.length=n) then f ds else .bad
noncomputable abbrev FI:=List D->Res (List D×Bool)
noncomputable def CN:D->Res (List D)
 | .lst xs=>.ok xs
 | .tup xs=>.ok xs
 | _=>.bad
def IV:List D->Res (List D×Bool)
 | [.int n]=>if oK n then .ok ((List.range n.toNat).map fun (k:Nat)=>D.int (0+(k:Int)),true) else .bad
 | _=>.bad
noncomputable def M4 (f:FA) (g:List D->Res (List D×Bool)):FI:=fun ρ=>do let xs <- f ρ;g xs
noncomputable def CP (n:Nat) (ρ:List D):List D:=(List.range n).map fun i=>ρ.getD i .uD
noncomputable def M5:D->Res (List D):=fun d=>.ok [d]
def mZ (n:Nat) (t:D->Res (List D)) (c:FT) (f:FE) (k:Bool) (ρ:List D) (acc:List D) (x:D):Res (List D):=do
 let bs <- t x
 let ok <- c (CP n ρ++bs)
 if ok then (do
  let y <- f (CP n ρ++bs)
  if k||y.pure then pure (acc++[y]) else .bad)
 else pure acc
noncomputable def gQ (g:List D->D->Res (List D)):List D->List D->Res (List D)
 | acc,[]=>.ok acc
 | acc,x::xs=>do let a <- g acc x;gQ g a xs
def vO (n:Nat) (it:FI) (t:D->Res (List D)) (c:FT) (f:FE) (k:Bool):FE:=fun ρ=>do
 let xs <- it ρ
 if decide (xs.1.length<=lim) then (do
  let ys <- gQ (mZ n t c f k ρ) [] xs.1
  pure (.lst ys)) else .bad
noncomputable def lL:FT:=fun _=>.ok true
noncomputable abbrev FS:=List D->Res Fl
def inner:D->Bool
 | .lst xs=>D.bU xs
 | .dct kvs=>D.bU (kvs.map (·.2))
 | .cel _ xs=>D.bU xs
 | _=>false
noncomputable def d_:FS:=fun ρ=>.ok (.nx ρ)
noncomputable def bI (f g:FS):FS:=fun ρ=>do
 let r <- f ρ
 match r with
 | .nx ρ'=>g ρ'
 | r=>.ok r
def dI (o:Bool) (i:Nat) (f:FE) (k:Bool):FS:=fun ρ=>do
 let d <- f ρ
 if (if o then k&&inner d else k||d.pure) then .ok (.nx (ρ.set i d)) else .bad
noncomputable def sIf (c:FT) (f g:FS):FS:=fun ρ=>do
 let k <- c ρ
 if k then f ρ else g ρ
noncomputable def fJ (f:FE) (k:Bool):FS:=fun ρ=>do
 let d <- f ρ
 if k||d.pure then .ok (.rt d) else .bad
def Y_ (i:Nat):FS:=fun ρ=>do
 let d <- fU i ρ
 .ok (.rt d)
noncomputable def rtX:Nat:=1000000
def ZC (i:Nat) (f:FE):FS:=fun ρ=>do
 let d <- f ρ
 match ρ.getD i .uD with
 | .lst xs=>if decide (xs.length<lim)&&d.pure then .ok (.nx (ρ.set i (.lst (xs++[d])))) else .bad
 | _=>.bad
def SN (i:Nat) (f:FE) (g:FE):FS:=fun ρ=>do
 let j <- f ρ
 let d <- g ρ
 match ρ.getD i .uD,j with
 | .lst xs,.int j=>if decide (xs.length<lim)&&d.pure&&decide (0<=j)&&decide (j<=xs.length) then .ok (.nx (ρ.set i (.lst (xs.take j.toNat++d::xs.drop j.toNat)))) else .bad
 | _,_=>.bad
noncomputable def xK:List Nat->List D->List D->List D
 | i::is,d::ds,ρ=>xK is ds (ρ.set i d)
 | _,_,ρ=>ρ
def tgN (is:List Nat):D->List D->Res (List D)
 | .tup ds,ρ=>if decide (ds.length=is.length) then .ok (xK is ds ρ) else .bad
 | _,_=>.bad
noncomputable def uE (t:D->List D->Res (List D)) (body:FS):List D->List D->Res Fl
 | [],ρ=>.ok (.nx ρ)
 | x::xs,ρ=>do
  let ρ1 <- t x ρ
  let r <- body ρ1
  match r with
  | .nx ρ'=>uE t body xs ρ'
  | .ct ρ'=>uE t body xs ρ'
  | .bk ρ'=>.ok (.nx ρ')
  | .rt d=>.ok (.rt d)
def M6 (it:FI) (t:D->List D->Res (List D)) (body:FS):FS:=fun ρ=>do
 let xs <- it ρ
 if xs.2 then uE t body xs.1 ρ else .bad
def fnS (n m:Nat) (f:FS):List D->Res D:=fun ds=>do
 let r <- f (ds++List.replicate (m-n) .uD)
 aG2 r
end Mi
namespace Mi
open PySem L2
class KFrag where
 K:PySem.W.Frag
variable [KFrag]
def ZD (H:Hp) (a:Addr) (xs:List V):Prop:=(∃o,H a=some (.frz o (.lst xs)))\/
 ∃(o:Obj) (its:Array Value) (n:Nat),KFrag.K.lookup a=some o/\o.cls=.type "list"/\o.dict=none/\o.data=.seq its n/\its.size<=sizeLine/\Vals xs its.toList
theorem ZD.sq {H:Hp} {a:Addr} {xs:List V} {K:PySem.W.Frag} (h:ZD H a xs) (hK:KFrag.K=K):SqL K H a xs:=by
 subst hK;rcases h with ⟨o,h⟩|h
 ·exact .inl (.inr ⟨o,h⟩)
 ·exact .inr h
noncomputable def kD:Key->D
 | .inl i=>.int i
 | .inr x=>.str x
noncomputable def wQ:HO->Bool
 | .lst _=>true
 | .dK _=>true
 | .dT _=>true
 | _=>false
def XO (a C:Addr) (dx:Option Addr) (h:Heap):Prop:=∃o,h.get? a=some o/\o.cls=.ref C/\o.dict=dx/\∃vs,o.data=.fields vs
def XD (dx:Addr) (fs:List (Str×Int)) (h:Heap):Prop:=∃mA,h.Ns1 dx mA/\PySem.Within mA (fs.map (·.1))/\∀f,match fs.lookup f with
 | some t=>∃tk,mA f=some (.int t tk)
 | none=>mA f=none
def XDs (H:Hp) (fs:List (Str×Int)):Option Addr->Prop
 | none=>fs=[]
 | some d=>H d=some (.ext (XD d fs))
mutual
inductive Rep (P:Addr->Prop) (H:Hp):V->D->Prop
 | non:Rep P H .non .non
 | bl (b:Bool):Rep P H (.bl b) (.bl b)
 | int (i:Int):Rep P H (.int i) (.int i)
 | str (x:Str):Rep P H (.str x) (.str x)
 | tup {a:Addr} {xs:List V} {ds:List D}:H a=some (.tup xs)->bV P H xs ds->Rep P H (.ref a) (.tup ds)
 | lst {a:Addr} {xs:List V} {ds:List D}:H a=some (.lst xs)->P a->bV P H xs ds->Rep P H (.ref a) (.lst ds)
 | cel {a:Addr} {xs:List V} {ds:List D}:H a=some (.lst xs)->P a->bV P H xs ds->Rep P H (.ref a) (.cel a ds)
 | frz {a:Addr} {xs:List V} {ds:List D}:ZD H a xs->bV P H xs ds->Rep P H (.ref a) (.scr ds)
 | dK {a:Addr} {kvs:List (Key×V)} {ds:List (D×D)}:H a=some (.dK kvs)->P a->m7 P H kvs ds->(kvs.map (·.1)).Nodup->Rep P H (.ref a) (.dct ds)
 | dT {a:Addr} {kvs:List (List Key×V)} {ds:List (D×D)}:H a=some (.dT kvs)->P a->uA P H kvs ds->(kvs.map (·.1)).Nodup->Rep P H (.ref a) (.dct ds)
 | fdK {a:Addr} {o:Obj} {kvs:List (Key×V)} {ds:List (D×D)}:H a=some (.frz o (.dK kvs))->m7 P H kvs ds->(kvs.map (·.1)).Nodup->Rep P H (.ref a) (.fdc ds)
 | fdT {a:Addr} {o:Obj} {kvs:List (List Key×V)} {ds:List (D×D)}:H a=some (.frz o (.dT kvs))->uA P H kvs ds->(kvs.map (·.1)).Nodup->Rep P H (.ref a) (.fdc ds)
 | exc {a C:Addr} {dx:Option Addr} {c:Str} {fs:List (Str×Int)}:PySem.W.nsIn KFrag.K mainGlobals c=some (some (.ref C))->H a=some (.ext (XO a C dx))->XDs H fs dx->Rep P H (.ref a) (.exc c fs)
 | ins {a C dx:Addr} {c:Str} {vs:List (Str×V)} {fs:List (Str×D)}:PySem.W.nsIn KFrag.K mainGlobals c=some (some (.ref C))->H a=some (.ins C dx vs)->CQ P H vs fs->Rep P H (.ref a) (.ins c fs)
inductive CQ (P:Addr->Prop) (H:Hp):List (Str×V)->List (Str×D)->Prop
 | nil:CQ P H [] []
 | cons {f:Str} {v:V} {d:D} {r:List (Str×V)} {ds:List (Str×D)}:Rep P H v d->CQ P H r ds->CQ P H ((f,v)::r) ((f,d)::ds)
inductive bV (P:Addr->Prop) (H:Hp):List V->List D->Prop
 | nil:bV P H [] []
 | cons {v:V} {d:D} {vs:List V} {ds:List D}:Rep P H v d->bV P H vs ds->bV P H (v::vs) (d::ds)
inductive m7 (P:Addr->Prop) (H:Hp):List (Key×V)->List (D×D)->Prop
 | nil:m7 P H [] []
 | cons {k:Key} {v:V} {d:D} {r:List (Key×V)} {ds:List (D×D)}:Rep P H v d->m7 P H r ds->m7 P H ((k,v)::r) ((kD k,d)::ds)
inductive uA (P:Addr->Prop) (H:Hp):List (List Key×V)->List (D×D)->Prop
 | nil:uA P H [] []
 | cons {k:List Key} {v:V} {d:D} {r:List (List Key×V)} {ds:List (D×D)}:Rep P H v d->uA P H r ds->uA P H ((k,v)::r) ((.tup (k.map kD),d)::ds)
end
def SQ (P:Addr->Prop) (H H':Hp):Prop:=∀a o,H a=some o->(P a\/wQ o=false)->H' a=some o
theorem SQ.same {P:Addr->Prop} {H H':Hp} (h:cN H H'):SQ P H H':=fun a o e _=>h a o e
mutual
theorem Rep.keep {P P':Addr->Prop} {H H':Hp} (k:SQ P H H') (m:∀a,P a->P' a):∀{v:V} {d:D},Rep P H v d->Rep P' H' v d
 | _,_,.non=>.non
 | _,_,.bl b=>.bl b
 | _,_,.int i=>.int i
 | _,_,.str x=>.str x
 | _,_,.tup e r=>.tup (k _ _ e (.inr rfl)) (bV.keep k m r)
 | _,_,.lst e p r=>.lst (k _ _ e (.inl p)) (m _ p) (bV.keep k m r)
 | _,_,.cel e p r=>.cel (k _ _ e (.inl p)) (m _ p) (bV.keep k m r)
 | _,_,.frz e r=>.frz (e.imp (fun ⟨o,e⟩=>⟨o,k _ _ e (.inr rfl)⟩) id) (bV.keep k m r)
 | _,_,.dK e p r n=>.dK (k _ _ e (.inl p)) (m _ p) (m7.keep k m r) n
 | _,_,.dT e p r n=>.dT (k _ _ e (.inl p)) (m _ p) (uA.keep k m r) n
 | _,_,.fdK e r n=>.fdK (k _ _ e (.inr rfl)) (m7.keep k m r) n
 | _,_,.fdT e r n=>.fdT (k _ _ e (.inr rfl)) (uA.keep k m r) n
 | _,_,.exc (dx:=dx) n e q=>.exc n (k _ _ e (.inr rfl)) (match dx,q with|none,q=>q|some _,q=>k _ _ q (.inr rfl))
 | _,_,.ins n e r=>.ins n (k _ _ e (.inr rfl)) (CQ.keep k m r)
theorem CQ.keep {P P':Addr->Prop} {H H':Hp} (k:SQ P H H') (m:∀a,P a->P' a):∀{v:List (Str×V)} {d:List (Str×D)},CQ P H v d->CQ P' H' v d
 | _,_,.nil=>.nil
 | _,_,.cons r t=>.cons (Rep.keep k m r) (CQ.keep k m t)
theorem bV.keep {P P':Addr->Prop} {H H':Hp} (k:SQ P H H') (m:∀a,P a->P' a):∀{v:List V} {d:List D},bV P H v d->bV P' H' v d
 | _,_,.nil=>.nil
 | _,_,.cons r t=>.cons (Rep.keep k m r) (bV.keep k m t)
theorem m7.keep {P P':Addr->Prop} {H H':Hp} (k:SQ P H H') (m:∀a,P a->P' a):∀{v:List (Key×V)} {d:List (D×D)},m7 P H v d->m7 P' H' v d
 | _,_,.nil=>.nil
 | _,_,.cons r t=>.cons (Rep.keep k m r) (m7.keep k m t)
theorem uA.keep {P P':Addr->Prop} {H H':Hp} (k:SQ P H H') (m:∀a,P a->P' a):∀{v:List (List Key×V)} {d:List (D×D)},uA P H v d->uA P' H' v d
 | _,_,.nil=>.nil
 | _,_,.cons r t=>.cons (Rep.keep k m r) (uA.keep k m t)
end
theorem Rep.mono {P P':Addr->Prop} {H:Hp} {v:V} {d:D} (r:Rep P H v d) (m:∀a,P a->P' a):Rep P' H v d:=r.keep (fun _ _ e _=>e) m
theorem bV.mono {P P':Addr->Prop} {H:Hp} {v:List V} {d:List D} (r:bV P H v d) (m:∀a,P a->P' a):bV P' H v d:=r.keep (fun _ _ e _=>e) m
theorem Rep.same {P:Addr->Prop} {H H':Hp} {v:V} {d:D} (r:Rep P H v d) (s:cN H H'):Rep P H' v d:=r.keep (.same s) fun _ h=>h
theorem bV.same {P:Addr->Prop} {H H':Hp} {v:List V} {d:List D} (r:bV P H v d) (s:cN H H'):bV P H' v d:=r.keep (.same s) fun _ h=>h
mutual
theorem Rep.cP {P P':Addr->Prop} {H:Hp}:∀{v:V} {d:D},Rep P H v d->d.pure=true->Rep P' H v d
 | _,_,.non,_=>.non
 | _,_,.bl b,_=>.bl b
 | _,_,.int i,_=>.int i
 | _,_,.str x,_=>.str x
 | _,_,.tup e r,h=>.tup e (bV.cP r (by rw [D.pure] at h;exact h))
 | _,_,.lst _ _ _,h=>by rw [D.pure] at h;cases h
 | _,_,.cel _ _ _,h=>by rw [D.pure] at h;cases h
 | _,_,.frz e r,h=>.frz e (bV.cP r (by rw [D.pure] at h;exact h))
 | _,_,.dK _ _ _ _,h=>by rw [D.pure] at h;cases h
 | _,_,.dT _ _ _ _,h=>by rw [D.pure] at h;cases h
 | _,_,.fdK _ _ _,h=>by rw [D.pure] at h;cases h
 | _,_,.fdT _ _ _,h=>by rw [D.pure] at h;cases h
 | _,_,.exc _ _ _,h=>by rw [D.pure] at h;cases h
 | _,_,.ins _ _ _,h=>by rw [D.pure] at h;cases h
theorem bV.cP {P P':Addr->Prop} {H:Hp}:∀{v:List V} {d:List D},bV P H v d->D.bU d=true->bV P' H v d
 | _,_,.nil,_=>.nil
 | _,_,.cons r t,h=>by
  rw [D.bU,Bool.and_eq_true] at h;exact .cons (Rep.cP r h.1) (bV.cP t h.2)
end
theorem bV.length {P:Addr->Prop} {H:Hp}:∀{v:List V} {d:List D},bV P H v d->v.length=d.length
 | _,_,.nil=>rfl
 | _,_,.cons _ t=>by rw [List.length_cons,List.length_cons,bV.length t]
theorem bV.get {P:Addr->Prop} {H:Hp}:∀{vs:List V} {ds:List D} {i:Nat} {d:D},bV P H vs ds->ds[i]?=some d->∃v,vs[i]?=some v/\Rep P H v d
 | _,_,_,_,.nil,e=>by simp at e
 | _,_,0,_,.cons r _,e=>by simp at e;subst e;exact ⟨_,rfl,r⟩
 | _,_,i+1,d,.cons _ t,e=>by
  obtain ⟨v,h1,h2⟩:=bV.get (i:=i) (d:=d) t (by simpa using e);exact ⟨v,by simpa using h1,h2⟩
theorem bV.append {P:Addr->Prop} {H:Hp}:∀{vs ws:List V} {ds es:List D},bV P H vs ds->bV P H ws es->bV P H (vs++ws) (ds++es)
 | _,_,_,_,.nil,s=>s
 | _,_,_,_,.cons r t,s=>.cons r (bV.append t s)
theorem bV.take {P:Addr->Prop} {H:Hp}:∀{vs:List V} {ds:List D} (n:Nat),bV P H vs ds->bV P H (vs.take n) (ds.take n)
 | _,_,0,_=>.nil
 | _,_,_+1,.nil=>.nil
 | _,_,n+1,.cons r t=>.cons r (bV.take n t)
theorem bV.drop {P:Addr->Prop} {H:Hp}:∀{vs:List V} {ds:List D} (n:Nat),bV P H vs ds->bV P H (vs.drop n) (ds.drop n)
 | _,_,0,r=>r
 | _,_,_+1,.nil=>.nil
 | _,_,n+1,.cons _ t=>bV.drop n t
theorem bV.set {P:Addr->Prop} {H:Hp} {v:V} {d:D} (r:Rep P H v d):∀{vs:List V} {ds:List D} (n:Nat),bV P H vs ds->bV P H (vs.set n v) (ds.set n d)
 | _,_,_,.nil=>.nil
 | _,_,0,.cons _ t=>.cons r t
 | _,_,n+1,.cons q t=>.cons q (bV.set r n t)
theorem bV.snoc {P:Addr->Prop} {H:Hp} {vs:List V} {ds:List D} {v:V} {d:D} (t:bV P H vs ds) (r:Rep P H v d):bV P H (vs++[v]) (ds++[d]):=t.append (.cons r .nil)
theorem Rep.uD {P:Addr->Prop} {H:Hp} {v:V}:¬Rep P H v .uD:=fun h=>by cases h
abbrev All:Addr->Prop:=fun _=>True
abbrev New (H:Hp):Addr->Prop:=fun a=>H a=none
theorem Rep.all {P:Addr->Prop} {H:Hp} {v:V} {d:D} (r:Rep P H v d):Rep All H v d:=r.mono fun _ _=>trivial
theorem bV.all {P:Addr->Prop} {H:Hp} {v:List V} {d:List D} (r:bV P H v d):bV All H v d:=r.mono fun _ _=>trivial
theorem cN.new {H H':Hp} (s:cN H H'):∀a,New H' a->New H a:=fun a h=>s.free h
theorem cN.upd {H:Hp} {a:Addr} {o:HO} (h:H a=none):cN H (upd H a o):=fun b u e=>by rw [aR (bQ e h)];exact e
def ER (H:Hp) (σ:St) (ρ:List D):Prop:=∀i,ρ.getD i .uD≠.uD->∃v,σ[i]?=some (some v)/\Rep All H v (ρ.getD i .uD)
theorem ER.same {H H':Hp} {σ:St} {ρ:List D} (e:ER H σ ρ) (s:cN H H'):ER H' σ ρ:=fun i h=>by
 obtain ⟨v,h1,h2⟩:=e i h;exact ⟨v,h1,h2.same s⟩
theorem PE.imp {X:Cx} {e:PySem.Expr} {t t':TE} (h:PE X e t) (i:∀σ H Q,t' σ H Q->t σ H Q):PE X e t':=fun pins s σ H Q I q=>h pins s σ H Q I (i σ H Q q)
theorem PT.imp {X:Cx} {e:PySem.Expr} {t t':TT} (h:PT X e t) (i:∀σ H Q,t' σ H Q->t σ H Q):PT X e t':=fun pins s σ H Q I q=>h pins s σ H Q I (i σ H Q q)
theorem PA.imp {X:Cx} {e:List PySem.Expr} {t t':TA} (h:PA X e t) (i:∀σ H Q,t' σ H Q->t σ H Q):PA X e t':=fun pos pins s σ H Q I q=>h pos pins s σ H Q I (i σ H Q q)
end Mi
namespace L2
open PySem PySem.Spec PyProof.Rows
noncomputable def m9 (own:List Str) (x:Str):Str:=if own.contains x then x++(" " : Str) else x
def clF (env:Env):List (Str×NameKind)->List (Str×Addr)->List (Str×Addr)
 | [],acc=>acc
 | (n,k)::r,acc=>clF env r (if k==.free then (n,(env.cells.lookup n).getD 0)::acc else acc)
theorem lM {env:Env}:∀(names:List (Str×NameKind)) (acc:List (Str×Addr)),(∀y∈names,y.2=.free->∃c,env.cells.lookup y.1=some c)->
  (forIn names acc fun x cs=>(match x with
   | (name,kind)=>if (kind==.free)=true then cellOf env name >>= fun c=>pure (ForInStep.yield ((name,c)::cs)) else pure (ForInStep.yield cs):Sem (ForInStep (List (Str×Addr)))))=(pure (clF env names acc):Sem _)
 | [],acc,_=>by rw [List.forIn_nil];rfl
 | (n,k)::r,acc,h=>by
  rw [List.forIn_cons];by_cases hk:(k==.free)=true
  ·have hk':k=.free:=by simpa using hk
   obtain ⟨c,e⟩:=h (n,k) (List.mem_cons_self ..) hk';have e':cellOf env n=pure c:=by
    unfold cellOf;have e2:env.cells.lookup n=some c:=e;rw [e2]
   dsimp only;rw [if_pos hk,e',pure_bind,pure_bind];dsimp only;rw [lM r _ fun y hy=>h y (List.mem_cons_of_mem _ hy)];have e2:env.cells.lookup n=some c:=e;simp only [clF,hk,if_true,e2,Option.getD_some]
  ·dsimp only;rw [if_neg hk,pure_bind];dsimp only;rw [lM r _ fun y hy=>h y (List.mem_cons_of_mem _ hy)];simp only [clF,hk,Bool.false_eq_true,if_false]
theorem IW {env:Env} {scope:Scope} (h:∀y∈scope.names,y.2=.free->∃c,env.cells.lookup y.1=some c):closureFor scope env=pure (clF env scope.names []):=by
 unfold closureFor;have:=lM (env:=env) scope.names [] h;simp only [bind_pure] at *;exact this
theorem zL {env:Env}:∀{names:List (Str×NameKind)} {acc:List (Str×Addr)} {x:Str} {c:Addr},(∀y∈names,y.2=.free->∃c,env.cells.lookup y.1=some c)->(∀x c,acc.lookup x=some c->env.cells.lookup x=some c)->
  (clF env names acc).lookup x=some c->env.cells.lookup x=some c
 | [],acc,x,c,_,h,e=>h x c e
 | (n,k)::r,acc,x,c,q,h,e=>by
  unfold clF at e;refine zL (fun y hy=>q y (List.mem_cons_of_mem _ hy)) (fun y d hy=>?_) e;by_cases hk:(k==.free)=true
  ·rw [if_pos hk,List.lookup_cons] at hy;obtain ⟨c',e'⟩:=q (n,k) (List.mem_cons_self ..) (by simpa using hk);have e2:env.cells.lookup n=some c':=e';cases hyn:y==n with
   | true=>
    rw [hyn] at hy;have:y=n:=by simpa using hyn
    subst this;rw [e2] at hy;simp only [Option.getD_some] at hy;rw [e2];exact hy
   | false=>rw [hyn] at hy;exact h y d hy
  ·rw [if_neg hk] at hy;exact h y d hy
theorem M7 {env:Env}:∀{names:List (Str×NameKind)} {acc:List (Str×Addr)} {x:Str},(∃c,acc.lookup x=some c)->∃c,(clF env names acc).lookup x=some c
 | [],_,_,h=>h
 | (n,k)::r,acc,x,⟨c,h⟩=>by
  unfold clF;refine M7 ?_;by_cases hk:(k==.free)=true
  ·rw [if_pos hk,List.lookup_cons];cases x==n with
   | true=>exact ⟨_,rfl⟩
   | false=>exact ⟨c,h⟩
  ·rw [if_neg hk];exact ⟨c,h⟩
theorem zM {env:Env}:∀{names:List (Str×NameKind)} {acc:List (Str×Addr)} {x:Str},(x,NameKind.free)∈names->∃c,(clF env names acc).lookup x=some c
 | (n,k)::r,acc,x,h=>by
  unfold clF;rcases List.mem_cons.mp h with e|h
  ·cases e;refine M7 ?_;rw [if_pos (by decide),List.lookup_cons];simp
  ·exact zM h
structure j_ (N:List Str) (sc scope:Scope) (own:List Str):Prop where
 kind:scope.kind=.function
 nocell:∀y∈scope.names,y.2≠.cell
 names:∀y∈scope.names,y.2=.local->scope.names.lookup y.1=some .local
 free:∀y∈scope.names,y.2=.free->sc.names.lookup y.1=some .cell\/sc.names.lookup y.1=some .free
 ownl:∀x∈own,scope.names.lookup x=some .local
 hid:∀x∈own,scope.names.lookup (x++(" " : Str))=none
 loc:∀y∈scope.names,y.2=.local->y.1∈own\/y.1∉N
structure jQ (X X':Cx) (scope:Scope) (own:List Str):Prop where
 prog:X'.prog=X.prog
 w:X'.w=X.w
 K:X'.K=X.K
 mg:X'.mg=X.mg
 base:X'.base=X.base
 A:X'.A=X.A
 N:X'.N=X.N.map (m9 own)++own
 scope:X'.env.scope=relabel scope X.env
 calm:X'.calm=X.calm
 xe:X'.xe=fun _ _=>False
def CT (X:Cx) (scope:Scope) (cl:List (Str×Addr)) (C:Addr) (own:List Str) (s₂:Shared) (H₂:Hp) (fp:List Addr):Cx:=
 {X with N:=X.N.map (m9 own)++own,s₀:=s₂,H₀:=H₂,env:=compEnvC scope cl C X.env,outer:=X.stack,stack:=X.stack,ex:=fp,fn:=fun _=>false,pn:=[],xe:=fun _ _=>False}
theorem M8 {X:Cx} {scope:Scope} {cl:List (Str×Addr)} {C:Addr} {own:List Str} {s₂:Shared} {H₂:Hp} {fp:List Addr}:jQ X (CT X scope cl C own s₂ H₂ fp) scope own:=
 ⟨rfl,rfl,rfl,rfl,rfl,rfl,rfl,rfl,rfl,rfl⟩
def Ext (σ σ2:St):Prop:=σ2.length=σ.length/\∀(i:Nat) v,σ[i]?=some (some v)->σ2[i]?=some (some v)
def ZF (wi:TI) (g:TG) (tc:TT) (te:TE) (m:Nat):TE:=fun σ H Q=>wi σ H fun J H1=>∀p,H1 p=none->
 ∃W:Nat->Nat->List V->Hp->Prop,(∃n,W 0 n [] (upd H1 p (.lst [])))/\∀i n ys H,W i n ys H->H p=some (.lst ys)/\((J.stop i H/\Q (.ref p) H)\/(J.go i H/\ys.length<sizeLine/\
  ∀x H2,J.yld i H x H2->g x (σ++List.replicate m none) H2 fun σ2 H3=>Ext (σ++List.replicate m none) σ2/\tc σ2 H3 fun b H4=>if b=true then te σ2 H4 fun y H5=>H5 p=some (.lst ys)/\∃n',n'<n/\W (i+1) n' (ys++[y]) (upd H5 p (.lst (ys++[y])))
   else ∃n',n'<n/\W (i+1) n' ys H4))
section
variable {X:Cx} {scope:Scope} {own:List Str}
theorem Inv.comp {pins:List (Addr×Obj)} {σ:St} {H2:Hp} {s2:Shared} {fp:List Addr} {h1:Heap} {t1:Nat} (I:Inv X pins σ H2 s2) (S:j_ X.N X.env.scope scope own) (hf:∀b∈fp,KZ X pins H2 b)
  (hfx:∀b∈fp,b<s2.heap.objs.size) (hns:h1.Ns (s2.heap.objs.size+1) (fun _=>none))
  (hk:∀b o,s2.heap.get? b=some o->h1.get? b=some o) (hacc:h1.get? s2.heap.objs.size=some {cls:=.type "list",data:=.seq #[]}) :
  Inv (CT X scope (clF X.env scope.names []) (s2.heap.objs.size+1) own s2 H2 fp) [] (σ++List.replicate own.length none) (upd H2 s2.heap.objs.size (.lst [])) {s2 with heap:=h1,toks:=t1}:=by
 have hD:H2 s2.heap.objs.size=none:=I.hok.fresh (Nat.le_refl _);have hC:H2 (s2.heap.objs.size+1)=none:=I.hok.fresh (Nat.le_succ _);have cells:∀y∈scope.names,y.2=.free->∃c,X.env.cells.lookup y.1=some c:=fun y hy hk=>I.ok.has y.1 (S.free y hy hk)
 have sub:∀x c,(clF X.env scope.names []).lookup x=some c->X.env.cells.lookup x=some c:=fun x c e=>zL cells (fun _ _ h=>by simp at h) e
 have relk:∀x,(relabel scope X.env).names.lookup x=some .cell\/(relabel scope X.env).names.lookup x=some .free->(x,NameKind.free)∈scope.names:=by
  intro x hx;have go:∀(l:List (Str×NameKind)),(∀y∈l,y.2≠.cell)->((l.map fun (n,k)=>if (k==NameKind.free&&X.env.scope.kind==.function&&X.env.kindOf n==some .cell) then (n,NameKind.cell) else (n,k)).lookup x=some .cell\/(l.map fun (n,k)=>if (k==NameKind.free&&X.env.scope.kind==.function&&X.env.kindOf n==some .cell) then (n,NameKind.cell) else (n,k)).lookup x=some .free)->(x,NameKind.free)∈l:=by
   intro l;induction l with
   | nil=>intro _ h;rcases h with h|h <;> simp at h
   | cons p l ih=>
    obtain ⟨n,k⟩:=p;intro nc h;rw [List.map_cons] at h;dsimp only at h;by_cases hc:(k==NameKind.free&&X.env.scope.kind==.function&&X.env.kindOf n==some .cell)=true
    ·rw [if_pos hc] at h;rw [List.lookup_cons] at h;cases e:x==n with
     | true=>
      have:x=n:=by simpa using e
      subst this;simp only [Bool.and_eq_true] at hc;have:k=.free:=by simpa using hc.1.1
      subst this;exact List.mem_cons_self ..
     | false=>
      rw [e] at h;exact List.mem_cons_of_mem _ (ih (fun y hy=>nc y (List.mem_cons_of_mem _ hy)) h)
    ·rw [if_neg hc] at h;rw [List.lookup_cons] at h;cases e:x==n with
     | true=>
      have:x=n:=by simpa using e
      subst this;rw [e] at h;dsimp only at h;rcases h with h|h
      ·exact absurd (Option.some.inj h) (nc (x,k) (List.mem_cons_self ..))
      ·have:=Option.some.inj h;subst this;exact List.mem_cons_self ..
     | false=>
      rw [e] at h;exact List.mem_cons_of_mem _ (ih (fun y hy=>nc y (List.mem_cons_of_mem _ hy)) h)
  exact go scope.names S.nocell hx
 have hne:s2.heap.objs.size≠s2.heap.objs.size+1:=Nat.ne_of_lt (Nat.lt_succ_self _);have hlt:∀b o,s2.heap.get? b=some o->b<s2.heap.objs.size:=fun b o e=>Heap.lt_size e
 have hstk:∀b∈frs X.stack,b<s2.heap.objs.size:=fun b hb=>by
  obtain ⟨_,o,ho,_⟩:=I.stack.mem hb;exact hlt b o ho
 refine ⟨⟨I.mod,?_,I.ok.glob,I.ok.blt,Nat.le_succ _,fun x y c e1 e2=>I.ok.inj x y c (sub x c e1) (sub y c e2),fun x hx=>?_,fun _ _ h=>(by cases h),I.ok.hd,I.ok.frames,.inl rfl,fun b hb=>?_,fun b o e=>I.bs b o e,?_,fun b o e hb=>?_,fun b hb hz=>?_,I.stack,I.zB⟩,
  rfl,I.bare,Un.laid hk (Nat.le_refl _) hD,?_,fun x c e=>?_,?_,fun x c e=>?_,fun p hp=>(by simp [CT] at hp),?_,?_⟩
 ·exact S.kind
 ·have hx':(relabel scope X.env).names.lookup x=some .cell\/(relabel scope X.env).names.lookup x=some .free:=hx;exact zM (relk x hx')
 ·refine ⟨Nat.ne_of_lt (Nat.lt_succ_of_lt (hfx b hb)),fun x c e z=>?_⟩;exact (hf b hb).2.2.2.2.1 x c (sub x c e) z
 ·exact Nat.le_trans I.ok.bsz I.sz
 ·rcases (hf b hb).2.2.2.1 with z|z
  ·exact I.ok.noex b o e z
  ·exact absurd (Nat.lt_of_lt_of_le (Heap.lt_size e) (Nat.le_trans I.ok.bsz z)) (Nat.lt_irrefl _)
 ·rcases List.mem_cons.mp (I.BW b hz) with z'|z'
  ·exact (hf b hb).2.1 z'
  ·exact (hf b hb).2.2.1 z'
 ·refine ⟨_,hns,fun i x v e1 e2 e3=>?_⟩;have hi:i<σ.length:=by
   rcases Nat.lt_or_ge i σ.length with h|h
   ·exact h
   ·rw [List.getElem?_append_right h,List.getElem?_replicate] at e2;split at e2 <;> cases e2
  rw [List.getElem?_append_left hi] at e2;have hiN:i<X.N.length:=by rw [<-I.len];exact hi
  have e1':(X.N.map (m9 own))[i]?=some x:=by
   have:(X.N.map (m9 own)++own)[i]?=some x:=e1;rwa [List.getElem?_append_left (by rw [List.length_map];exact hiN)] at this
  rw [List.getElem?_map] at e1';obtain ⟨y,hy,ey⟩:=Option.map_eq_some_iff.mp e1';have hyN:y∈X.N:=List.mem_of_getElem? hy;have e3':(relabel scope X.env).names.lookup x=some .local\/(relabel scope X.env).names.lookup x=some .cell\/(relabel scope X.env).names.lookup x=some .free:=e3;have keys:∀z k,(relabel scope X.env).names.lookup z=some k->∃k',scope.names.lookup z=some k'/\(k=.local->k'=.local):=by
   intro z k;show (scope.names.map fun (n,k)=>if (k==NameKind.free&&X.env.scope.kind==.function&&X.env.kindOf n==some .cell) then (n,NameKind.cell) else (n,k)).lookup z=some k->_;generalize scope.names=l;induction l with
   | nil=>intro h;simp at h
   | cons p l ih=>
    obtain ⟨n,k0⟩:=p;intro h;rw [List.map_cons] at h;dsimp only at h;by_cases hc:(k0==NameKind.free&&X.env.scope.kind==.function&&X.env.kindOf n==some .cell)=true
    ·rw [if_pos hc,List.lookup_cons] at h;rw [List.lookup_cons];cases e:z==n with
     | true=>
      rw [e] at h;dsimp only at h;cases h;exact ⟨k0,rfl,fun q=>by cases q⟩
     | false=>rw [e] at h;exact ih h
    ·rw [if_neg hc,List.lookup_cons] at h;rw [List.lookup_cons];cases e:z==n with
     | true=>
      rw [e] at h;dsimp only at h;cases h;exact ⟨_,rfl,fun q=>q⟩
     | false=>rw [e] at h;exact ih h
  by_cases hown:own.contains y=true
  ·exfalso;have ex:x=y++(" " : Str):=by rw [<-ey];unfold m9;rw [if_pos hown]
   have hn:=S.hid y (by simpa using hown);rw [<-ex] at hn;rcases e3' with q|q|q
   all_goals
    obtain ⟨k',hk',_⟩:=keys _ _ q;rw [hn] at hk';cases hk'
  ·have ex:x=y:=by rw [<-ey];unfold m9;rw [if_neg hown]
   subst ex;rcases e3' with q|q
   ·exfalso;obtain ⟨k',hk',hl⟩:=keys _ _ q;have:=hl rfl;subst this;rcases S.loc _ (PySem.mem_of_lookup hk') rfl with z|z
    ·exact hown (by simpa using z)
    ·exact z hyN
   ·have hfr:=relk x q;have hv:=S.free _ hfr rfl;obtain ⟨m,_,hl⟩:=I.loc;obtain ⟨u,ru,lk⟩:=hl i x v hy e2 (.inr hv);refine ⟨u,ru,.inr ⟨q,?_⟩⟩;rcases lk with ⟨z,_⟩|⟨_,c,hc,o,ho,hd⟩
    ·have z':X.env.scope.names.lookup x=some .local:=z;rcases hv with hv|hv <;> (rw [z'] at hv;cases hv)
    ·obtain ⟨c',hc'⟩:=zM (env:=X.env) (acc:=[]) hfr;have:=sub x c' hc';rw [hc] at this;cases this;exact ⟨c,hc',o,hk c o ho,hd⟩
 ·obtain ⟨v,z⟩:=I.cell x c (sub x c e);obtain ⟨o,ho,hd⟩:=z;exact ⟨v,o,hk c o ho,hd⟩
 ·show upd H2 _ _ (s2.heap.objs.size+1)=none;rw [aR (Ne.symm hne)];exact hC
 ·obtain ⟨v,o,ho,_⟩:=I.cell x c (sub x c e);show upd H2 _ _ c=none;rw [aR (Nat.ne_of_lt (hlt c o ho))];exact I.freeC x c (sub x c e)
 ·exact I.hok.laid hk (Nat.le_refl _) ⟨Nat.zero_le _,[],0,.nil,hacc⟩
 ·show (σ++List.replicate own.length none).length=(X.N.map (m9 own)++own).length;rw [List.length_append,List.length_append,List.length_replicate,List.length_map,I.len]
end
section
variable {X:Cx} {scope:Scope} {own:List Str}
def cI (X':Cx) (σ:St) (fp:List Addr) (tn:Nat->Heap->Prop) (W:Nat->Nat->List V->Hp->Prop) (n:Nat) (s:Shared):Prop:=∃i ys H',Inv X' [] σ H' s/\tn i s.heap/\(∀b∈fp,H' b=none)/\W i n ys H'
abbrev cE (X X':Cx) (use:Option (Value->Sem Unit)) (QQ:Value->Shared->Prop) (p:Addr):Value->Shared->Prop:=notedBy (model X.prog X.w) X.A X'.env fun e s'=>compPost (model X.prog X.w) X.A X.xe use QQ (.ref p) (p+1) (.error e) s'
def cB (X':Cx) (σ:St) (fp:List Addr) (tn:Nat->Heap->Prop) (W:Nat->Nat->List V->Hp->Prop) (n i:Nat) (h:Heap):Prop:=∀{ys':List V} {H9:Hp} {s9:Shared} {σ9:St},Ext σ σ9->Inv X' ([]++n6 fp h) σ9 H9 s9->(∃n',n'<n/\W (i+1) n' ys' H9)->∃m,m<n/\cI X' σ fp tn W m s9
theorem ZG {elt iter tg:Expr} {ifs:List Expr} {wi:TI} {g:TG} {tc:TT} {te:TE} {pos ps:Pos} {use:Option (Value->Sem Unit)} {QQ:Value->Shared->Prop} {pins:List (Addr×Obj)} {s:Shared} {σ:St} {H:Hp} {R:VK} (S:j_ X.N X.env.scope scope own) (hcalm:X.calm=true) (hi:PI X tg iter wi)
  (hg:∀X',jQ X X' scope own->PG X' tg g) (hc:(ifs=[]/\tc=fun _ H Q=>Q true H)\/∃c,ifs=[c]/\∀X',jQ X X' scope own->PT X' c tc) (he:∀X',jQ X X' scope own->PE X' elt te)
  (hs:∀x,foldedSetIterable iter X.env x=pure x) (I:Inv X pins σ H s) (h:ZF wi g tc te own.length σ H R)
  (last:∀{p C:Addr} {H5:Hp} {s6:Shared} {m6:Str->Option Value},Inv X pins σ H5 s6->KZ X pins H5 C->s6.heap.Ns C m6->R (.ref p) H5->compPost (model X.prog X.w) X.A X.xe use QQ (.ref p) C (.ok .next) s6) :
  wpAny (model X.prog X.w) X.A (comprehension (.ListComp elt [⟨tg,iter,ifs,0⟩] scope pos) scope X.env ps (newList []) false (eval iter X.env) use) QQ X.xe s:=by
 have cells:∀y∈scope.names,y.2=.free->∃c,X.env.cells.lookup y.1=some c:=fun y hy hk=>I.ok.has y.1 (S.free y hy hk)
 refine wpAny_comprehension_free rfl hs (IW cells) S.kind S.names (thn (hi pins s σ H _ I h) fun xv s1 h1=>thn h1 fun itv s2 h2=>?_);obtain ⟨it,fp,tn,J,H2,e,I2,T,st2,f2,hW⟩:=h2;subst e;have hD:H2 s2.heap.objs.size=none:=I2.hok.fresh (Nat.le_refl _);obtain ⟨W,⟨n0,w0⟩,turn⟩:=hW _ hD;have hfx:∀b∈fp,b<s2.heap.objs.size:=fun b hb=>by
  obtain ⟨o,ho,_⟩:=T.obj 0 _ st2 b hb;exact Heap.lt_size ho
 refine wpAny_newObj_type (wpAny_newFunctionEnv S.nocell (by intro y hy;simp at hy) (fun h₁ hns₁ hsb₁=>?_) S.kind);dsimp only at hns₁ hsb₁ ⊢;have hC:(s2.heap.push {cls:=.type "list",dict:=none,data:=.seq ([]:List Value).toArray}).objs.size=s2.heap.objs.size+1:=Heap.size_push ..;have hne:s2.heap.objs.size≠s2.heap.objs.size+1:=Nat.ne_of_lt (Nat.lt_succ_self _);rw [hC] at hns₁ hsb₁ ⊢;have old:∀b o,s2.heap.get? b=some o->h₁.get? b=some o:=fun b o e=>hsb₁.extBut b o (Nat.ne_of_lt (Nat.lt_succ_of_lt (Heap.lt_size e))) (Heap.get?_push_of_some _ (Heap.get?_push_of_some _ e))
 have hacc:h₁.get? s2.heap.objs.size=some {cls:=.type "list",data:=.seq #[]}:=hsb₁.extBut _ _ hne (Heap.get?_push_of_some _ (Heap.get?_push_size _ rfl));have I4:=Inv.comp (t1:=s2.toks+([]:List (Str×Value)).length) I2 S f2 hfx hns₁ old hacc;generalize hX':CT X scope (clF X.env scope.names []) (s2.heap.objs.size+1) own s2 H2 fp=X' at I4;have cc:jQ X X' scope own:=by rw [<-hX'];exact M8
 have eenv:X'.env=compEnvC scope (clF X.env scope.names []) (s2.heap.objs.size+1) X.env:=by rw [<-hX'];rfl
 have eA:X'.A=X.A:=cc.A;have ep:X'.prog=X.prog:=cc.prog;have ew:X'.w=X.w:=cc.w;have efs:X'.fs=frs X.stack:=by rw [<-hX'];rfl
 have eex:X'.ex=fp:=by rw [<-hX'];rfl
 have es0:X'.s₀=s2:=by rw [<-hX'];rfl
 have eH0:X'.H₀=H2:=by rw [<-hX'];rfl
 have epn:X'.pn=[]:=by rw [<-hX'];rfl
 have eK:X'.K=X.K:=cc.K;have exe:=cc.xe;have ecalm:X'.calm=true:=cc.calm.trans hcalm
 -- the iterator's records within the block
 have fpok:∀{H':Hp},(∀b∈fp,H' b=none)->∀b∈fp,KZ X' [] H' b:=fun {H'} hn b hb=>by
  obtain ⟨_,f1,f3,_,f5,_⟩:=f2 b hb;refine ⟨hn b hb,?_,?_,.inl (by rw [eex];exact hb),fun x c e=>?_,fun p hp=>by rw [epn] at hp;simp at hp⟩
  ·rw [eenv];exact Nat.ne_of_lt (Nat.lt_succ_of_lt (hfx b hb))
  ·rw [efs];intro z;rcases List.mem_cons.mp (I2.BW b z) with z|z
   ·exact f1 z
   ·exact f3 z
  ·rw [eenv] at e;exact f5 x c (zL cells (fun _ _ h=>by simp at h) e)
 have st4:tn 0 h₁:=T.keep _ _ _ st2 fun b _ o e=>old b o e
 have fr4:∀b∈fp,(upd H2 s2.heap.objs.size (.lst [])) b=none:=fun b hb=>by rw [aR (Nat.ne_of_lt (hfx b hb))];exact (f2 b hb).1
 have loop:∀s4:Shared,s4={s2 with heap:=h₁,toks:=s2.toks+([]:List (Str×Value)).length}->
   codeAny (model X.prog X.w) X.A (.compLoop (.ListComp elt [⟨tg,iter,ifs,0⟩] scope pos) 0 (.ref it) (.ref s2.heap.objs.size) X'.env)
    (compPost (model X.prog X.w) X.A X.xe use QQ (.ref s2.heap.objs.size) (s2.heap.objs.size+1)) s4:=by
  rintro s4 rfl;have put:∀(n i:Nat) (ys:List V) (s7:Shared) (σ8:St) (H8:Hp) (s8:Shared),cB X' (σ++List.replicate own.length none) fp tn W n i s7.heap->Inv X' ([]++n6 fp s7.heap) σ8 H8 s8->Ext (σ++List.replicate own.length none) σ8->ys.length<sizeLine->(te σ8 H8 fun y H5=>H5 s2.heap.objs.size=some (.lst ys)/\∃n',n'<n/\W (i+1) n' (ys++[y]) (upd H5 s2.heap.objs.size (.lst (ys++[y]))))->
    wpAny (model X.prog X.w) X.A (eval elt X'.env) (fun x s₄=>wpAny (model X.prog X.w) X.A (call (.builtin "list.append") [.ref s2.heap.objs.size,x]) (fun _ s₅=>∃m,m<n/\cI X' (σ++List.replicate own.length none) fp tn W m s₅) (cE X X' use QQ s2.heap.objs.size) s₄) (cE X X' use QQ s2.heap.objs.size) s8:=by
   intro n i ys s7 σ8 H8 s8 back I8 ext8 hlen q8;have he':=he X' cc _ s8 _ H8 _ I8 q8;rw [ep,ew,eA,exe] at he';refine wpAny_mono he' (fun yv s10 ⟨y,H10,I10,r10,p10,q10⟩=>?_) fun _ _ z=>False.elim z
   have hm:=oF (X:=X') _ s10 σ8 H10 (.ref s2.heap.objs.size) [y] (.ref s2.heap.objs.size) [yv] (fun _ H11=>∃n',n'<n/\W (i+1) n' (ys++[y]) H11) I10 rfl (.cons r10 .nil) ⟨s2.heap.objs.size,ys,y,rfl,rfl,p10,hlen,q10⟩;rw [ep,ew,eA,exe] at hm;exact wpAny_mono hm (fun _ s11 ⟨_,H11,I11,_,q11⟩=>back ext8 I11 q11) fun _ _ z=>False.elim z
  have key:∀(PO:Nat->Shared->Prop),(∀(n i:Nat) (ys:List V) (s7:Shared) (σ8:St) (H8:Hp) (s8:Shared),cB X' (σ++List.replicate own.length none) fp tn W n i s7.heap->Inv X' ([]++n6 fp s7.heap) σ8 H8 s8->Ext (σ++List.replicate own.length none) σ8->ys.length<sizeLine->(tc σ8 H8 fun b H4=>if b=true then te σ8 H4 fun y H5=>H5 s2.heap.objs.size=some (.lst ys)/\∃n',n'<n/\W (i+1) n' (ys++[y]) (upd H5 s2.heap.objs.size (.lst (ys++[y]))) else ∃n',n'<n/\W (i+1) n' ys H4)->PO n s8)->
    ∀n s5,(cI X' (σ++List.replicate own.length none) fp tn W n s5)->wpAny (model X.prog X.w) X.A (pyNext (.ref it)) (fun r s₁=>match r with
     | none=>compPost (model X.prog X.w) X.A X.xe use QQ (.ref s2.heap.objs.size) (s2.heap.objs.size+1) (.ok .next) s₁
     | some v=>wpAny (model X.prog X.w) X.A (letOwnedTupleGo tg (.ref it) v) (fun _ s₀=>wpAny (model X.prog X.w) X.A (assign tg X'.env v) (fun _ s₂=>PO n s₂) (cE X X' use QQ s2.heap.objs.size) s₀) (cE X X' use QQ s2.heap.objs.size) s₁) (cE X X' use QQ s2.heap.objs.size) s5:=by
   intro PO hPO;rintro n s5 ⟨i,ys,H5,I5,st5,fr5,w5⟩;obtain ⟨hacc5,tr⟩:=turn i n ys H5 w5;rcases tr with ⟨stop,q⟩|⟨go,hlen,step⟩
   ·have done:=T.done X' ep ew eK ecalm i [] s5 _ H5 (cE X X' use QQ s2.heap.objs.size) I5 (fpok fr5) st5 stop;rw [eA] at done;refine thn done fun r s6 ⟨hr,I6⟩=>?_
    subst hr;obtain ⟨m6,hn6,_⟩:=id I6.loc;rw [eenv] at hn6;have u6:Un (frs X.stack) fp H2 H5 s2.heap s6.heap:=by
     have:=I6.base;rw [efs,eex,eH0,es0] at this;exact this
    have hCn:H5 (s2.heap.objs.size+1)=none:=by
     have:=I6.free;rw [eenv] at this;exact this
    have hok6:HOk X.prog X.w H5 s6.heap:=by
     have:=I6.hok;rw [ep,ew] at this;exact this
    have hos:s6.os=s2.os:=by have:=I6.os;rw [es0] at this;exact this
    obtain ⟨hh,gg,dd,tt,oo⟩:=s6;obtain rfl:oo=s2.os:=hos;have fin:=Inv.call (h':=hh) (g':=gg) (d':=dd) (t':=tt) (ch:=fp) I2 u6 hok6 I6.bare fun b hb=>⟨(f2 b hb).2.2.2.1,(f2 b hb).2.1,(f2 b hb).2.2.2.2.1,(f2 b hb).2.2.2.2.2⟩
    refine last fin ⟨hCn,Nat.ne_of_gt (Nat.lt_succ_of_lt I2.lt),I2.aFs (Nat.le_succ _),.inr (Nat.le_trans I2.sz (Nat.le_succ _)),fun x c e z=>?_,fun p hp z=>?_⟩ hn6 q
    ·obtain ⟨v,qq⟩:=I2.cell x c e;exact absurd (Nat.lt_succ_of_lt qq.lt) (by rw [z];exact Nat.lt_irrefl _)
    ·exact absurd (Nat.lt_succ_of_lt (Heap.lt_size (I2.pin p hp).1)) (by rw [z];exact Nat.lt_irrefl _)
   ·have item:=T.item X' ep ew eK ecalm i [] s5 _ H5 (cE X X' use QQ s2.heap.objs.size) I5 (fpok fr5) st5 go;rw [eA] at item;refine thn item fun r s6 ⟨u,hr,h6⟩=>?_
    subst hr;refine thn h6 fun _ s7 ⟨x,H7,I7,r7,y7,st7,fr7⟩=>?_
    have I7':=I7.pinned (fpok fr7) (T.obj _ _ st7);have hg':=hg X' cc _ s7 _ H7 x u _ I7' r7 (step x H7 y7);rw [ep,ew,eA,exe] at hg';refine wpAny_mono hg' (fun _ s8 ⟨σ8,H8,I8,ext8,q8⟩=>?_) fun _ _ z=>False.elim z
    have back:cB X' (σ++List.replicate own.length none) fp tn W n i s7.heap:=by
     rintro ys' H9 s9 σ9 ex9 I9 ⟨n',hn',w9⟩;refine ⟨n',hn',i+1,ys',H9,(I9.weak ex9.1.symm ex9.2).nO,T.keep _ _ _ st7 fun b hb o e=>(I9.pin (b,o) (List.mem_append_right _ (List.mem_append_right _ (jJ hb e)))).1,fun b hb=>?_,w9⟩;obtain ⟨o,e,d⟩:=T.obj _ _ st7 b hb;exact (I9.pin (b,o) (List.mem_append_right _ (List.mem_append_right _ (jJ hb e)))).2.1
    exact hPO n i ys s7 σ8 H8 s8 back I8 ext8 hlen q8
  rcases hc with ⟨rfl,rfl⟩|⟨c,rfl,hc⟩
  ·refine PySem.W.kcp_loop _ (key _ fun n i ys s7 σ8 H8 s8 back I8 ext8 hlen q8=>?_) n0 ⟨0,[],_,I4,st4,fr4,w0⟩;simp only [if_true] at q8;exact put n i ys s7 σ8 H8 s8 back I8 ext8 hlen q8
  ·refine PySem.W.kct_loop _ (key _ fun n i ys s7 σ8 H8 s8 back I8 ext8 hlen q8=>?_) n0 ⟨0,[],_,I4,st4,fr4,w0⟩;have hc':=hc X' cc _ s8 _ H8 _ I8 q8;rw [ep,ew,eA,exe] at hc';refine wpAny_mono hc' (fun b s9 ⟨H9,I9,q9⟩=>?_) fun _ _ z=>False.elim z
   cases b with
   | false=>
    simp only [Bool.false_eq_true,if_false] at q9 ⊢;exact back ext8 I9 q9
   | true=>
    simp only [if_true] at q9 ⊢;exact put n i ys s7 σ8 H9 s9 back I9 ext8 hlen q9
 have l4:=loop _ rfl;rw [eenv] at l4;exact codeAny_compStart_list l4 (T.self X.A 0 _ _ _ st4 l4)
theorem SX {pins:List (Addr×Obj)} {σ:St} {Q:VK} {p C:Addr} {H5:Hp} {s6:Shared} {m6:Str->Option Value} (f:Inv X pins σ H5 s6) (k:KZ X pins H5 C) (n:s6.heap.Ns C m6) (q:Q (.ref p) H5):compPost (model X.prog X.w) X.A X.xe none (EP X pins σ Q) (.ref p) C (.ok .next) s6:=
 ⟨m6,n,fun h' sb=>⟨.ref p,H5,Inv.turned (t':=s6.toks) f (fun b o hb e=>sb.extBut b o hb e) k.1 k.2.1 k.2.2.2.1 k.2.2.2.2.1 k.2.2.2.2.2,rfl,q⟩⟩
theorem S5 {elt iter tg:Expr} {wi:TI} {g:TG} {te:TE} {pos:Pos} (S:j_ X.N X.env.scope scope own) (hcalm:X.calm=true) (hi:PI X tg iter wi)
  (hg:∀X',jQ X X' scope own->PG X' tg g) (he:∀X',jQ X X' scope own->PE X' elt te)
  (hs:∀x,foldedSetIterable iter X.env x=pure x):PE X (.ListComp elt [⟨tg,iter,[],0⟩] scope pos) (ZF wi g (fun _ H Q=>Q true H) te own.length):=by
 intro pins s σ H Q I h;rw [eval_ListComp];exact ZG S hcalm hi hg (.inl ⟨rfl,rfl⟩) he hs I h SX
end
end L2
namespace Mi
open PySem L2 PySem.SeqAt
variable [KFrag]
theorem gR {X:Cx} {pins:List (Addr×Obj)} {σ:St} {H:Hp} {s:Shared} {a:Addr} {xs:List V} (I:Inv X pins σ H s) (e:H a=some (.tup xs)):∃its:List Value,Vals xs its/\s.heap.IsTuple a its.toArray:=by
 obtain ⟨_,its,r,p⟩:xs.length<=sizeLine/\∃its:List Value,Vals xs its/\iK s.heap a its.toArray:=I.hok a _ e;exact ⟨its,r,p.tup⟩
theorem iM {X:Cx} {pins:List (Addr×Obj)} {σ:St} {H:Hp} {s:Shared} {a:Addr} {xs:List V} (I:Inv X pins σ H s) (e:SqL X.K H a xs):∃its:List Value,Vals xs its/\s.heap.IsList a its.toArray:=by
 obtain ⟨its,r,p,_⟩:=I.list e;exact ⟨its,r,p.isList⟩
theorem Rep.fK {P:Addr->Prop} {H:Hp} {K:PySem.W.Frag} {v:V} {ds:List D} (r:Rep P H v (.lst ds)):∃a xs,v=.ref a/\SqL K H a xs/\bV P H xs ds:=by
 cases r with
 | lst e p r=>exact ⟨_,_,rfl,.inl (.inl e),r⟩
theorem Rep.eZ {P:Addr->Prop} {H:Hp} {v:V} {ds:List D} (r:Rep P H v (.tup ds)):∃a xs,v=.ref a/\H a=some (.tup xs)/\bV P H xs ds:=by
 cases r with
 | tup e r=>exact ⟨_,_,rfl,e,r⟩
mutual
theorem vP:∀(n:Nat) (d:D),d.cQ n=true->eqD d d=true
 | _,.non,_=>rfl
 | _,.bl b,_=>by simp [eqD]
 | _,.int i,_=>by simp [eqD]
 | _,.str x,_=>by simp [eqD]
 | n+1,.tup xs,h=>by rw [D.cQ] at h;rw [eqD];exact oM n xs h
 | n+1,.lst xs,h=>by rw [D.cQ] at h;rw [eqD];exact oM n xs h
 | 0,.tup xs,h=>by simp [D.cQ] at h
 | 0,.lst xs,h=>by simp [D.cQ] at h
 | n,.dct _,h=>by cases n <;> simp [D.cQ] at h
 | n,.uD,h=>by cases n <;> simp [D.cQ] at h
 | n,.scr _,h=>by cases n <;> simp [D.cQ] at h
 | n,.fdc _,h=>by cases n <;> simp [D.cQ] at h
 | n,.exc _ _,h=>by cases n <;> simp [D.cQ] at h
 | n,.ins _ _,h=>by cases n <;> simp [D.cQ] at h
 | n,.cel _ _,h=>by cases n <;> simp [D.cQ] at h
theorem oM:∀(n:Nat) (ds:List D),D.eV n ds=true->zJ ds ds=true
 | _,[],_=>rfl
 | n,d::ds,h=>by
  rw [D.eV,Bool.and_eq_true] at h;rw [zJ,vP n d h.1,oM n ds h.2];rfl
end
mutual
theorem Rep.inj {P P':Addr->Prop} {H:Hp}:∀(n:Nat) {v:V} {d e:D},d.cQ n=true->e.cQ n=true->Rep P H v d->Rep P' H v e->d=e
 | _,_,_,_,_,_,.non,.non=>rfl
 | _,_,_,_,_,_,.bl _,.bl _=>rfl
 | _,_,_,_,_,_,.int _,.int _=>rfl
 | _,_,_,_,_,_,.str _,.str _=>rfl
 | n+1,_,.tup ds,_,h,h',.tup e1 r1,q=>by
  cases q with
  | tup e2 r2=>
   rw [e1] at e2;cases e2;rw [D.cQ] at h h';rw [bV.inj n h h' r1 r2]
  | lst e2 _ _=>rw [e1] at e2;cases e2
  | frz e2 _=>simp [D.cQ] at h'
  | fdK e2 _ _=>simp [D.cQ] at h'
  | cel e2 _ _=>simp [D.cQ] at h'
  | fdT e2 _ _=>simp [D.cQ] at h'
  | exc _ _ _=>simp [D.cQ] at h'
  | ins _ _ _=>simp [D.cQ] at h'
  | dK e2 _ _ _=>rw [e1] at e2;cases e2
  | dT e2 _ _ _=>rw [e1] at e2;cases e2
 | n+1,_,.lst ds,_,h,h',.lst e1 p r1,q=>by
  cases q with
  | tup e2 r2=>rw [e1] at e2;cases e2
  | lst e2 _ r2=>
   rw [e1] at e2;cases e2;rw [D.cQ] at h h';rw [bV.inj n h h' r1 r2]
  | frz e2 _=>simp [D.cQ] at h'
  | fdK e2 _ _=>simp [D.cQ] at h'
  | cel e2 _ _=>simp [D.cQ] at h'
  | fdT e2 _ _=>simp [D.cQ] at h'
  | exc _ _ _=>simp [D.cQ] at h'
  | ins _ _ _=>simp [D.cQ] at h'
  | dK e2 _ _ _=>rw [e1] at e2;cases e2
  | dT e2 _ _ _=>rw [e1] at e2;cases e2
 | 0,_,.tup ds,_,h,_,_,_=>by simp [D.cQ] at h
 | 0,_,.lst ds,_,h,_,_,_=>by simp [D.cQ] at h
 | n,_,.dct _,_,h,_,_,_=>by cases n <;> simp [D.cQ] at h
 | n,_,.scr _,_,h,_,_,_=>by cases n <;> simp [D.cQ] at h
 | n,_,.fdc _,_,h,_,_,_=>by cases n <;> simp [D.cQ] at h
 | n,_,.exc _ _,_,h,_,_,_=>by cases n <;> simp [D.cQ] at h
 | n,_,.ins _ _,_,h,_,_,_=>by cases n <;> simp [D.cQ] at h
 | n,_,.cel _ _,_,h,_,_,_=>by cases n <;> simp [D.cQ] at h
theorem bV.inj {P P':Addr->Prop} {H:Hp}:∀(n:Nat) {v:List V} {d e:List D},D.eV n d=true->D.eV n e=true->bV P H v d->bV P' H v e->d=e
 | _,_,_,_,_,_,.nil,.nil=>rfl
 | n,_,_,_,h,h',.cons r t,.cons r' t'=>by
  rw [D.eV,Bool.and_eq_true] at h h';rw [Rep.inj n h.1 h'.1 r r',bV.inj n h.2 h'.2 t t']
end
theorem lN:∀(xs ys:List D),zJ xs ys=((List.range (min xs.length ys.length)).all (fun j=>eqD (xs.getD j .non) (ys.getD j .non))&&xs.length==ys.length)
 | [],[]=>by simp [zJ]
 | [],y::ys=>by simp [zJ]
 | x::xs,[]=>by simp [zJ]
 | x::xs,y::ys=>by
  have e:min (x::xs).length (y::ys).length=min xs.length ys.length+1:=by simp only [List.length_cons];lia
  rw [zJ,lN xs ys,e,List.range_succ_eq_map,List.all_cons,List.all_map,Bool.and_assoc]
  congr 1
  simp [Function.comp_def]
theorem gU {n:Nat}:∀{ds:List D} {j:Nat},D.eV n ds=true->j<ds.length->(ds.getD j .non).cQ n=true
 | [],j,_,h=>by simp at h
 | d::ds,0,h,_=>by rw [D.eV,Bool.and_eq_true] at h;exact h.1
 | d::ds,j+1,h,hj=>by
  rw [D.eV,Bool.and_eq_true] at h;simpa using gU (ds:=ds) (j:=j) h.2 (by simpa using hj)
theorem bV.getD {P:Addr->Prop} {H:Hp} {vs:List V} {ds:List D} {j:Nat} (r:bV P H vs ds) (hj:j<ds.length):∃v,vs[j]?=some v/\Rep P H v (ds.getD j .non):=by
 obtain ⟨v,h1,h2⟩:=r.get (i:=j) (d:=ds.getD j .non) (by simp [hj]);exact ⟨v,h1,h2⟩
section
variable {X:Cx} {pins:List (Addr×Obj)} {σ:St} {H:Hp} {s:Shared}
theorem oN {A:Around} {x y:V} {a b:D} {u v:Value} (ha:a.cQ 0=true) (hb:b.cQ 0=true) (rx:Rep All H x a) (ry:Rep All H y b) (ru:RelV x u) (rv:RelV y v):RcAt A s u v (eqD a b)/\RcNeAt A s u v (!eqD a b)/\EqAt A s u v (eqD a b):=by
 cases rx with
 | non=>
  cases ru;cases ry with
  | non=>cases rv;exact ⟨RcAt.none_none,RcNeAt.none_none,EqAt.same _⟩
  | bl _=>cases rv;exact ⟨RcAt.none_bool _,RcNeAt.none_bool _,EqAt.none_bool _⟩
  | int _=>obtain ⟨t,rfl⟩:=rv;exact ⟨RcAt.none_int _ _,RcNeAt.none_int _ _,EqAt.none_int _ _⟩
  | str _=>obtain ⟨t,rfl⟩:=rv;exact ⟨RcAt.none_str _ _,RcNeAt.none_str _ _,EqAt.none_str _ _⟩
  | _=>simp [D.cQ] at hb
 | bl _=>
  cases ru;cases ry with
  | non=>cases rv;exact ⟨RcAt.bool_none _,RcNeAt.bool_none _,EqAt.bool_none _⟩
  | bl _=>cases rv;exact ⟨RcAt.bool_bool _ _,RcNeAt.bool_bool _ _,EqAt.bool_bool _ _⟩
  | int _=>obtain ⟨t,rfl⟩:=rv;exact ⟨RcAt.bool_int _ _ _,RcNeAt.bool_int _ _ _,EqAt.bool_int _ _ _⟩
  | str _=>obtain ⟨t,rfl⟩:=rv;exact ⟨RcAt.bool_str _ _ _,RcNeAt.bool_str _ _ _,EqAt.bool_str _ _ _⟩
  | _=>simp [D.cQ] at hb
 | int _=>
  obtain ⟨t,rfl⟩:=ru;cases ry with
  | non=>cases rv;exact ⟨RcAt.int_none _ _,RcNeAt.int_none _ _,EqAt.int_none _ _⟩
  | bl _=>cases rv;exact ⟨RcAt.int_bool _ _ _,RcNeAt.int_bool _ _ _,EqAt.int_bool _ _ _⟩
  | int _=>obtain ⟨t',rfl⟩:=rv;exact ⟨RcAt.int_int _ _ _ _,RcNeAt.int_int _ _ _ _,EqAt.int_int _ _ _ _⟩
  | str _=>obtain ⟨t',rfl⟩:=rv;exact ⟨RcAt.int_str _ _ _ _,RcNeAt.int_str _ _ _ _,EqAt.int_str _ _ _ _⟩
  | _=>simp [D.cQ] at hb
 | str _=>
  obtain ⟨t,rfl⟩:=ru;cases ry with
  | non=>cases rv;exact ⟨RcAt.str_none _ _,RcNeAt.str_none _ _,EqAt.str_none _ _⟩
  | bl _=>cases rv;exact ⟨RcAt.str_bool _ _ _,RcNeAt.str_bool _ _ _,EqAt.str_bool _ _ _⟩
  | int _=>obtain ⟨t',rfl⟩:=rv;exact ⟨RcAt.str_int _ _ _ _,RcNeAt.str_int _ _ _ _,EqAt.str_int _ _ _ _⟩
  | str _=>obtain ⟨t',rfl⟩:=rv;exact ⟨RcAt.str_str _ _ _ _,RcNeAt.str_str _ _ _ _,EqAt.str_str _ _ _ _⟩
  | _=>simp [D.cQ] at hb
 | _=>simp [D.cQ] at ha
theorem CV (I:Inv X pins σ H s):∀(n:Nat) (A:Around) {x y:V} {a b:D} {u v:Value},A.units+n<cLine->a.cQ n=true->b.cQ n=true->Rep All H x a->Rep All H y b->RelV x u->RelV y v->
  RcAt A s u v (eqD a b)/\RcNeAt A s u v (!eqD a b)/\EqAt A s u v (eqD a b):=by
 intro n;induction n with
 | zero=>exact fun A=>fun _ ha hb rx ry ru rv=>oN ha hb rx ry ru rv
 | succ n ih=>
  intro A x y a b u v hu ha hb rx ry ru rv;have hu0:A.units<cLine:=by lia
  have hu1:A.in1.units+n<cLine:=by show A.units+1+n<cLine;lia
  have itm:∀{xs ys:List V} {ds es:List D} {i1 i2:List Value},D.eV n ds=true->D.eV n es=true->bV All H xs ds->bV All H ys es->Vals xs i1->Vals ys i2->∀j (g1:j<i1.toArray.size) (g2:j<i2.toArray.size),EqAt A.in1 s i1.toArray[j] i2.toArray[j] (eqD (ds.getD j .non) (es.getD j .non)):=by
   intro xs ys ds es i1 i2 ha hb r1 r2 vr1 vr2 j g1 g2;have z1:i1.toArray.size=ds.length:=by rw [List.size_toArray,<-vr1.length,r1.length]
   have z2:i2.toArray.size=es.length:=by rw [List.size_toArray,<-vr2.length,r2.length]
   obtain ⟨v1,w1,rr1⟩:=r1.getD (j:=j) (by lia);obtain ⟨v2,w2,rr2⟩:=r2.getD (j:=j) (by lia);obtain ⟨u1,k1,l1⟩:=vr1.get w1;obtain ⟨u2,k2,l2⟩:=vr2.get w2;have m1:i1.toArray[j]=u1:=by
    rw [List.getElem?_eq_getElem (by simpa using g1)] at k1;simpa using Option.some.inj k1
   have m2:i2.toArray[j]=u2:=by
    rw [List.getElem?_eq_getElem (by simpa using g2)] at k2;simpa using Option.some.inj k2
   rw [m1,m2];exact (ih A.in1 hu1 (gU ha (by lia)) (gU hb (by lia)) rr1 rr2 l1 l2).2.2
  cases a with
  | non=>
   cases b with
   | tup es=>
    cases rx;cases ru;obtain ⟨q,ys,rfl,e2,r2⟩:=ry.eZ;cases rv;obtain ⟨its2,vr2,h2⟩:=gR I e2;exact ⟨RcAt.none_tuple h2 hu0,RcNeAt.none_tuple h2 hu0,EqAt.none_tuple h2 hu0⟩
   | lst es=>
    cases rx;cases ru;obtain ⟨q,ys,rfl,e2,r2⟩:=ry.fK (K:=X.K);cases rv;obtain ⟨its2,vr2,h2⟩:=iM I e2;exact ⟨RcAt.none_list h2 hu0,RcNeAt.none_list h2 hu0,EqAt.none_list h2 hu0⟩
   | _=>first|exact oN rfl rfl rx ry ru rv|exact absurd ry Rep.uD|simp [D.cQ] at hb
  | bl _=>
   cases b with
   | tup es=>
    cases rx;cases ru;obtain ⟨q,ys,rfl,e2,r2⟩:=ry.eZ;cases rv;obtain ⟨its2,vr2,h2⟩:=gR I e2;exact ⟨RcAt.bool_tuple _ h2 hu0,RcNeAt.bool_tuple _ h2 hu0,EqAt.bool_tuple _ h2 hu0⟩
   | lst es=>
    cases rx;cases ru;obtain ⟨q,ys,rfl,e2,r2⟩:=ry.fK (K:=X.K);cases rv;obtain ⟨its2,vr2,h2⟩:=iM I e2;exact ⟨RcAt.bool_list _ h2 hu0,RcNeAt.bool_list _ h2 hu0,EqAt.bool_list _ h2 hu0⟩
   | _=>first|exact oN rfl rfl rx ry ru rv|exact absurd ry Rep.uD|simp [D.cQ] at hb
  | int _=>
   cases b with
   | tup es=>
    cases rx;obtain ⟨t1,rfl⟩:=ru;obtain ⟨q,ys,rfl,e2,r2⟩:=ry.eZ;cases rv;obtain ⟨its2,vr2,h2⟩:=gR I e2;exact ⟨RcAt.int_tuple _ _ h2 hu0,RcNeAt.int_tuple _ _ h2 hu0,EqAt.int_tuple _ _ h2 hu0⟩
   | lst es=>
    cases rx;obtain ⟨t1,rfl⟩:=ru;obtain ⟨q,ys,rfl,e2,r2⟩:=ry.fK (K:=X.K);cases rv;obtain ⟨its2,vr2,h2⟩:=iM I e2;exact ⟨RcAt.int_list _ _ h2 hu0,RcNeAt.int_list _ _ h2 hu0,EqAt.int_list _ _ h2 hu0⟩
   | _=>first|exact oN rfl rfl rx ry ru rv|exact absurd ry Rep.uD|simp [D.cQ] at hb
  | str _=>
   cases b with
   | tup es=>
    cases rx;obtain ⟨t1,rfl⟩:=ru;obtain ⟨q,ys,rfl,e2,r2⟩:=ry.eZ;cases rv;obtain ⟨its2,vr2,h2⟩:=gR I e2;exact ⟨RcAt.str_tuple _ _ h2 hu0,RcNeAt.str_tuple _ _ h2 hu0,EqAt.str_tuple _ _ h2 hu0⟩
   | lst es=>
    cases rx;obtain ⟨t1,rfl⟩:=ru;obtain ⟨q,ys,rfl,e2,r2⟩:=ry.fK (K:=X.K);cases rv;obtain ⟨its2,vr2,h2⟩:=iM I e2;exact ⟨RcAt.str_list _ _ h2 hu0,RcNeAt.str_list _ _ h2 hu0,EqAt.str_list _ _ h2 hu0⟩
   | _=>first|exact oN rfl rfl rx ry ru rv|exact absurd ry Rep.uD|simp [D.cQ] at hb
  | tup ds=>
   obtain ⟨p,xs,rfl,e1,r1⟩:=rx.eZ;cases ru;obtain ⟨its1,vr1,h1⟩:=gR I e1;rw [D.cQ] at ha;cases b with
   | non=>cases ry;cases rv;exact ⟨RcAt.tuple_none h1 hu0,RcNeAt.tuple_none h1 hu0,EqAt.tuple_none h1 hu0⟩
   | bl _=>cases ry;cases rv;exact ⟨RcAt.tuple_bool _ h1 hu0,RcNeAt.tuple_bool _ h1 hu0,EqAt.tuple_bool _ h1 hu0⟩
   | int _=>cases ry;obtain ⟨t2,rfl⟩:=rv;exact ⟨RcAt.tuple_int _ _ h1 hu0,RcNeAt.tuple_int _ _ h1 hu0,EqAt.tuple_int _ _ h1 hu0⟩
   | str _=>cases ry;obtain ⟨t2,rfl⟩:=rv;exact ⟨RcAt.tuple_str _ _ h1 hu0,RcNeAt.tuple_str _ _ h1 hu0,EqAt.tuple_str _ _ h1 hu0⟩
   | tup es=>
    obtain ⟨q,ys,rfl,e2,r2⟩:=ry.eZ;cases rv;obtain ⟨its2,vr2,h2⟩:=gR I e2;rw [D.cQ] at hb;have z1:its1.toArray.size=ds.length:=by rw [List.size_toArray,<-vr1.length,r1.length]
    have z2:its2.toArray.size=es.length:=by rw [List.size_toArray,<-vr2.length,r2.length]
    have he:=itm ha hb r1 r2 vr1 vr2;have ee:eqD (.tup ds) (.tup es)=((List.range (min its1.toArray.size its2.toArray.size)).all (fun j=>eqD (ds.getD j .non) (es.getD j .non))&&its1.toArray.size==its2.toArray.size):=by
     rw [eqD,lN,z1,z2]
    have r0:=RcAt.tuples h1 h2 hu0 he;have r0':=RcNeAt.tuples h1 h2 hu0 he;rw [<-ee] at r0 r0';refine ⟨r0,r0',?_⟩;by_cases hpq:p=q
    ·subst hpq;have hab:(D.tup ds)=(.tup es):=Rep.inj (n+1) (by rw [D.cQ];exact ha) (by rw [D.cQ];exact hb) rx ry;rw [<-hab,vP (n+1) _ (by rw [D.cQ];exact ha)];exact EqAt.same _
    ·exact EqAt.of_refs hpq r0
   | lst es=>
    obtain ⟨q,ys,rfl,e2,r2⟩:=ry.fK (K:=X.K);cases rv;obtain ⟨its2,vr2,h2⟩:=iM I e2;exact ⟨RcAt.tuple_list h1 h2 hu0,RcNeAt.tuple_list h1 h2 hu0,EqAt.tuple_list h1 h2 hu0⟩
   | _=>first|exact absurd ry Rep.uD|simp [D.cQ] at hb
  | lst ds=>
   obtain ⟨p,xs,rfl,e1,r1⟩:=rx.fK (K:=X.K);cases ru;obtain ⟨its1,vr1,h1⟩:=iM I e1;rw [D.cQ] at ha;cases b with
   | non=>cases ry;cases rv;exact ⟨RcAt.list_none h1 hu0,RcNeAt.list_none h1 hu0,EqAt.list_none h1 hu0⟩
   | bl _=>cases ry;cases rv;exact ⟨RcAt.list_bool _ h1 hu0,RcNeAt.list_bool _ h1 hu0,EqAt.list_bool _ h1 hu0⟩
   | int _=>cases ry;obtain ⟨t2,rfl⟩:=rv;exact ⟨RcAt.list_int _ _ h1 hu0,RcNeAt.list_int _ _ h1 hu0,EqAt.list_int _ _ h1 hu0⟩
   | str _=>cases ry;obtain ⟨t2,rfl⟩:=rv;exact ⟨RcAt.list_str _ _ h1 hu0,RcNeAt.list_str _ _ h1 hu0,EqAt.list_str _ _ h1 hu0⟩
   | tup es=>
    obtain ⟨q,ys,rfl,e2,r2⟩:=ry.eZ;cases rv;obtain ⟨its2,vr2,h2⟩:=gR I e2;exact ⟨RcAt.list_tuple h1 h2 hu0,RcNeAt.list_tuple h1 h2 hu0,EqAt.list_tuple h1 h2 hu0⟩
   | lst es=>
    obtain ⟨q,ys,rfl,e2,r2⟩:=ry.fK (K:=X.K);cases rv;obtain ⟨its2,vr2,h2⟩:=iM I e2;rw [D.cQ] at hb;have z1:its1.toArray.size=ds.length:=by rw [List.size_toArray,<-vr1.length,r1.length]
    have z2:its2.toArray.size=es.length:=by rw [List.size_toArray,<-vr2.length,r2.length]
    have he:=itm ha hb r1 r2 vr1 vr2;have r00:RcAt A s (.ref p) (.ref q) (eqD (.lst ds) (.lst es))/\RcNeAt A s (.ref p) (.ref q) (!eqD (.lst ds) (.lst es)):=by
     rw [eqD,lN];by_cases hz:ds.length=es.length
     ·have r0:=RcAt.lists h1 h2 (by lia) hu0 he;have r0':=RcNeAt.lists h1 h2 (by lia) hu0 he;rw [z1] at r0 r0';rw [show min ds.length es.length=ds.length by lia,show (ds.length==es.length)=true by simpa using hz,Bool.and_true];exact ⟨r0,r0'⟩
     ·have hz':(its1.toArray.size != its2.toArray.size)=true:=by rw [z1,z2];simpa using hz
      rw [show (ds.length==es.length)=false by simpa using hz,Bool.and_false];exact ⟨RcAt.lists_lengths h1 h2 hz' hu0,RcNeAt.lists_lengths h1 h2 hz' hu0⟩
    obtain ⟨r0,r0'⟩:=r00;refine ⟨r0,r0',?_⟩;by_cases hpq:p=q
    ·subst hpq;have hab:(D.lst ds)=(.lst es):=Rep.inj (n+1) (by rw [D.cQ];exact ha) (by rw [D.cQ];exact hb) rx ry;rw [<-hab,vP (n+1) _ (by rw [D.cQ];exact ha)];exact EqAt.same _
    ·exact EqAt.of_refs hpq r0
   | _=>first|exact absurd ry Rep.uD|simp [D.cQ] at hb
  | _=>first|exact absurd rx Rep.uD|simp [D.cQ] at ha
end
end Mi
namespace Mi
open PySem L2 PySem.SeqAt
open PySem.AutoSeq1 (wpAny_loadPart')
open PySem.MeetsSeq PySem.MeetsSeq2 PySem.MeetsSeq3
variable [KFrag]
noncomputable def gJ.op:gJ->CmpOp
 | .lt=>.Lt|.le=>.LtE|.gt=>.Gt|.ge=>.GtE
def CW (op:CmpOp) (A:Around) (s:Shared) (u v:Value) (b:Bool):Prop:=
 ∀(prog:Program) (w:World) (E:Value->Shared->Prop) (Q:Value->Shared->Prop),Q (.bool b) s->wpAny (model prog w) A (richCompare op u v) Q E s
def C2 (o:gJ) (A:Around) (s:Shared) (vs ws:List Value) (xs ys:List D):Prop:=
 vs.length=xs.length/\ws.length=ys.length/\∀(j:Nat) (v w:Value) (x y:D),vs[j]?=some v->ws[j]?=some w->xs[j]?=some x->ys[j]?=some y->
  EqAt A s v w (eqD x y)/\(eqD x y=false->∀k,xJ o x y=some k->CW o.op A s v w k)
theorem C2.tail {o:gJ} {A:Around} {s:Shared} {v w:Value} {vs ws:List Value} {x y:D} {xs ys:List D} (h:C2 o A s (v::vs) (w::ws) (x::xs) (y::ys)):C2 o A s vs ws xs ys:=
 ⟨by simpa using h.1,by simpa using h.2.1,fun j a b c d e1 e2 e3 e4=>h.2.2 (j+1) a b c d (by simpa using e1) (by simpa using e2) (by simpa using e3) (by simpa using e4)⟩
theorem I_ (l b:Addr) (items items2:Array Value) (n n2:Nat) (dd dd2:Option Addr) (sl sl2:Array (Option Value)) (xs ys:List D) (res:Bool) (hr:fH .lt xs ys=some res) :
  Meets (Builtin.«tuple.__lt__» ⟨[.ref l,.ref b],[]⟩)
   (fun A R s=>s.heap.get? l=some {cls:=.type "tuple",dict:=dd,data:=.seq items n,slots:=sl}/\s.heap.get? b=some {cls:=.type "tuple",dict:=dd2,data:=.seq items2 n2,slots:=sl2}/\
    C2 .lt A.in1 s items.toList items2.toList xs ys/\R (.ok (.ret (.bool res))) s):=
 .of_wp fun prog w A R s h=>by
  obtain ⟨hp,g,d,tk,os⟩:=s;obtain ⟨hl,hb,hC,h⟩:=h;have f2:=AutoSeq1.sub_tuple_tuple;have z1:items.size=xs.length:=by rw [<-hC.1];simp
  have z2:items2.size=ys.length:=by rw [<-hC.2.1];simp
  wp_walk using wpAny_loadPart' hl,wpAny_loadPart' hb,wpAny_forIn_list _ (fun rest b s'=>b.1=none/\s'=⟨hp,g,d,tk,os⟩/\∃(vs ws:List Value) (xs' ys':List D),rest=vs.zip ws/\
   C2 .lt A.in1 ⟨hp,g,d,tk,os⟩ vs ws xs' ys'/\xs'.length+items2.size=ys'.length+items.size/\fH .lt xs' ys'=some res) _
  case turn=>
   rintro ⟨y,x⟩ rest b s' ⟨hb',rfl,vs,ws,xs',ys',hz,hC',hlen,hR⟩;cases vs with
   | nil=>rw [List.zip_nil_left] at hz;cases hz
   | cons v vs=>
    cases ws with
    | nil=>rw [List.zip_nil_right] at hz;cases hz
    | cons w' ws=>
     rw [List.zip_cons_cons] at hz;injection hz with hyx hrest
     injection hyx with hy hx
     subst hy hx;cases xs' with
     | nil=>exact absurd hC'.1 (by simp)
     | cons x0 xs'=>
      cases ys' with
      | nil=>exact absurd hC'.2.1 (by simp)
      | cons y0 ys'=>
       rw [fH] at hR;simp only [List.length_cons] at hlen;obtain ⟨he,hlt⟩:=hC'.2.2 0 _ _ _ _ rfl rfl rfl rfl;refine wpAny_bind (he prog w _ _ ?_);cases e:eqD x0 y0 with
       | true=>
        rw [e] at hR;simp only [if_true] at hR
        wp_walk
        exact ⟨rfl,rfl,_,_,_,_,hrest,hC'.tail,by lia,hR⟩
       | false=>
        rw [e] at hR;simp only [Bool.false_eq_true,if_false] at hR;have hri:∀(E:Value->Shared->Prop) (Q:Value->Shared->Prop),Q (.bool res) ⟨hp,g,d,tk,os⟩->wpAny (model prog w) A.in1 (richCompare .Lt _ _) Q E ⟨hp,g,d,tk,os⟩:=fun E Q q=>hlt e res hR prog w E Q q
        wp_walk using hri
        exact ⟨_,rfl,by simpa using h⟩
  case fin=>
   rintro ⟨b1,b2⟩ s' ⟨hb',rfl,vs,ws,xs',ys',hz,hC',hlen,hR⟩;simp only at hb';subst hb';have hv:res=decide (items.size<items2.size):=by
    cases xs' with
    | nil=>
     rw [fH] at hR;have:=Option.some.inj hR;rw [<-this];simp only [List.length_nil] at hlen;simp only [gJ.nat]
     congr 1
     simp only [eq_iff_iff];lia
    | cons x0 xs'=>
     cases ys' with
     | nil=>
      rw [fH] at hR;have:=Option.some.inj hR;rw [<-this];simp only [List.length_nil,List.length_cons] at hlen;simp only [gJ.nat,List.length_cons]
      congr 1
      simp only [eq_iff_iff];lia
     | cons y0 ys'=>
      exfalso;cases vs with
      | nil=>exact absurd hC'.1 (by simp)
      | cons v vs=>
       cases ws with
       | nil=>exact absurd hC'.2.1 (by simp)
       | cons w' ws=>rw [List.zip_cons_cons] at hz;cases hz
   rw [hv] at h
   wp_walk
   exact ⟨_,rfl,by simpa [Builtin.Tuple.tupleCompareSizes] using h⟩
  case h=>
   exact ⟨rfl,rfl,items.toList,items2.toList,xs,ys,rfl,hC,by lia,hr⟩
theorem CW.aCi {A:Around} {s:Shared} {l b:Addr} {items items2:Array Value} {xs ys:List D} {res:Bool} (hl:s.heap.IsTuple l items) (hb:s.heap.IsTuple b items2) (hC:C2 .lt A.in1 s items.toList items2.toList xs ys) (hr:fH .lt xs ys=some res) (hu:A.units<cLine) :
  CW .Lt A s (.ref l) (.ref b) res:=fun prog w E Q h=>by
 obtain ⟨⟨cls,dd,data,sl⟩,ho,hc,n,hd⟩:=id hl;obtain ⟨⟨cls2,dd2,data2,sl2⟩,ho2,hc2,n2,hd2⟩:=id hb;simp only at hc hd hc2 hd2;subst hc hd hc2 hd2;exact richCompare_meets_room (op:=.Lt) ⟨_,ho,rfl⟩ ⟨_,ho2,rfl⟩ PySem.F.slot_tuple_lt PySem.F.entry_tuple_lt (PySem.F.args_tuple_lt_2 _ _) (I_ l b items items2 n n2 dd dd2 sl sl2 xs ys res hr)
  ⟨ho,ho2,hC,show Value.bool res≠Value.notImplemented/\Q (.bool res) s from ⟨(fun x=>nomatch x),h⟩⟩ hu
theorem JB (l b:Addr) (items items2:Array Value) (n n2:Nat) (dd dd2:Option Addr) (sl sl2:Array (Option Value)) (xs ys:List D) (res:Bool) (hr:fH .le xs ys=some res) :
  Meets (Builtin.«tuple.__le__» ⟨[.ref l,.ref b],[]⟩)
   (fun A R s=>s.heap.get? l=some {cls:=.type "tuple",dict:=dd,data:=.seq items n,slots:=sl}/\s.heap.get? b=some {cls:=.type "tuple",dict:=dd2,data:=.seq items2 n2,slots:=sl2}/\
    C2 .le A.in1 s items.toList items2.toList xs ys/\R (.ok (.ret (.bool res))) s):=
 .of_wp fun prog w A R s h=>by
  obtain ⟨hp,g,d,tk,os⟩:=s;obtain ⟨hl,hb,hC,h⟩:=h;have f2:=AutoSeq1.sub_tuple_tuple;have z1:items.size=xs.length:=by rw [<-hC.1];simp
  have z2:items2.size=ys.length:=by rw [<-hC.2.1];simp
  wp_walk using wpAny_loadPart' hl,wpAny_loadPart' hb,wpAny_forIn_list _ (fun rest b s'=>b.1=none/\s'=⟨hp,g,d,tk,os⟩/\∃(vs ws:List Value) (xs' ys':List D),rest=vs.zip ws/\
   C2 .le A.in1 ⟨hp,g,d,tk,os⟩ vs ws xs' ys'/\xs'.length+items2.size=ys'.length+items.size/\fH .le xs' ys'=some res) _
  case turn=>
   rintro ⟨y,x⟩ rest b s' ⟨hb',rfl,vs,ws,xs',ys',hz,hC',hlen,hR⟩;cases vs with
   | nil=>rw [List.zip_nil_left] at hz;cases hz
   | cons v vs=>
    cases ws with
    | nil=>rw [List.zip_nil_right] at hz;cases hz
    | cons w' ws=>
     rw [List.zip_cons_cons] at hz;injection hz with hyx hrest
     injection hyx with hy hx
     subst hy hx;cases xs' with
     | nil=>exact absurd hC'.1 (by simp)
     | cons x0 xs'=>
      cases ys' with
      | nil=>exact absurd hC'.2.1 (by simp)
      | cons y0 ys'=>
       rw [fH] at hR;simp only [List.length_cons] at hlen;obtain ⟨he,hlt⟩:=hC'.2.2 0 _ _ _ _ rfl rfl rfl rfl;refine wpAny_bind (he prog w _ _ ?_);cases e:eqD x0 y0 with
       | true=>
        rw [e] at hR;simp only [if_true] at hR
        wp_walk
        exact ⟨rfl,rfl,_,_,_,_,hrest,hC'.tail,by lia,hR⟩
       | false=>
        rw [e] at hR;simp only [Bool.false_eq_true,if_false] at hR;have hri:∀(E:Value->Shared->Prop) (Q:Value->Shared->Prop),Q (.bool res) ⟨hp,g,d,tk,os⟩->wpAny (model prog w) A.in1 (richCompare .LtE _ _) Q E ⟨hp,g,d,tk,os⟩:=fun E Q q=>hlt e res hR prog w E Q q
        wp_walk using hri
        exact ⟨_,rfl,by simpa using h⟩
  case fin=>
   rintro ⟨b1,b2⟩ s' ⟨hb',rfl,vs,ws,xs',ys',hz,hC',hlen,hR⟩;simp only at hb';subst hb';have hv:res=decide (items.size<=items2.size):=by
    cases xs' with
    | nil=>
     rw [fH] at hR;have:=Option.some.inj hR;rw [<-this];simp only [List.length_nil] at hlen;simp only [gJ.nat]
     congr 1
     simp only [eq_iff_iff];lia
    | cons x0 xs'=>
     cases ys' with
     | nil=>
      rw [fH] at hR;have:=Option.some.inj hR;rw [<-this];simp only [List.length_nil,List.length_cons] at hlen;simp only [gJ.nat,List.length_cons]
      congr 1
      simp only [eq_iff_iff];lia
     | cons y0 ys'=>
      exfalso;cases vs with
      | nil=>exact absurd hC'.1 (by simp)
      | cons v vs=>
       cases ws with
       | nil=>exact absurd hC'.2.1 (by simp)
       | cons w' ws=>rw [List.zip_cons_cons] at hz;cases hz
   rw [hv] at h
   wp_walk
   exact ⟨_,rfl,by simpa [Builtin.Tuple.tupleCompareSizes] using h⟩
  case h=>
   exact ⟨rfl,rfl,items.toList,items2.toList,xs,ys,rfl,hC,by lia,hr⟩
theorem CW.aCj {A:Around} {s:Shared} {l b:Addr} {items items2:Array Value} {xs ys:List D} {res:Bool} (hl:s.heap.IsTuple l items) (hb:s.heap.IsTuple b items2) (hC:C2 .le A.in1 s items.toList items2.toList xs ys) (hr:fH .le xs ys=some res) (hu:A.units<cLine) :
  CW .LtE A s (.ref l) (.ref b) res:=fun prog w E Q h=>by
 obtain ⟨⟨cls,dd,data,sl⟩,ho,hc,n,hd⟩:=id hl;obtain ⟨⟨cls2,dd2,data2,sl2⟩,ho2,hc2,n2,hd2⟩:=id hb;simp only at hc hd hc2 hd2;subst hc hd hc2 hd2;exact richCompare_meets_room (op:=.LtE) ⟨_,ho,rfl⟩ ⟨_,ho2,rfl⟩ PySem.F.slot_tuple_le PySem.F.entry_tuple_le (PySem.F.args_tuple_le_2 _ _) (JB l b items items2 n n2 dd dd2 sl sl2 xs ys res hr)
  ⟨ho,ho2,hC,show Value.bool res≠Value.notImplemented/\Q (.bool res) s from ⟨(fun x=>nomatch x),h⟩⟩ hu
theorem JC (l b:Addr) (items items2:Array Value) (n n2:Nat) (dd dd2:Option Addr) (sl sl2:Array (Option Value)) (xs ys:List D) (res:Bool) (hr:fH .gt xs ys=some res) :
  Meets (Builtin.«tuple.__gt__» ⟨[.ref l,.ref b],[]⟩)
   (fun A R s=>s.heap.get? l=some {cls:=.type "tuple",dict:=dd,data:=.seq items n,slots:=sl}/\s.heap.get? b=some {cls:=.type "tuple",dict:=dd2,data:=.seq items2 n2,slots:=sl2}/\
    C2 .gt A.in1 s items.toList items2.toList xs ys/\R (.ok (.ret (.bool res))) s):=
 .of_wp fun prog w A R s h=>by
  obtain ⟨hp,g,d,tk,os⟩:=s;obtain ⟨hl,hb,hC,h⟩:=h;have f2:=AutoSeq1.sub_tuple_tuple;have z1:items.size=xs.length:=by rw [<-hC.1];simp
  have z2:items2.size=ys.length:=by rw [<-hC.2.1];simp
  wp_walk using wpAny_loadPart' hl,wpAny_loadPart' hb,wpAny_forIn_list _ (fun rest b s'=>b.1=none/\s'=⟨hp,g,d,tk,os⟩/\∃(vs ws:List Value) (xs' ys':List D),rest=vs.zip ws/\
   C2 .gt A.in1 ⟨hp,g,d,tk,os⟩ vs ws xs' ys'/\xs'.length+items2.size=ys'.length+items.size/\fH .gt xs' ys'=some res) _
  case turn=>
   rintro ⟨y,x⟩ rest b s' ⟨hb',rfl,vs,ws,xs',ys',hz,hC',hlen,hR⟩;cases vs with
   | nil=>rw [List.zip_nil_left] at hz;cases hz
   | cons v vs=>
    cases ws with
    | nil=>rw [List.zip_nil_right] at hz;cases hz
    | cons w' ws=>
     rw [List.zip_cons_cons] at hz;injection hz with hyx hrest
     injection hyx with hy hx
     subst hy hx;cases xs' with
     | nil=>exact absurd hC'.1 (by simp)
     | cons x0 xs'=>
      cases ys' with
      | nil=>exact absurd hC'.2.1 (by simp)
      | cons y0 ys'=>
       rw [fH] at hR;simp only [List.length_cons] at hlen;obtain ⟨he,hlt⟩:=hC'.2.2 0 _ _ _ _ rfl rfl rfl rfl;refine wpAny_bind (he prog w _ _ ?_);cases e:eqD x0 y0 with
       | true=>
        rw [e] at hR;simp only [if_true] at hR
        wp_walk
        exact ⟨rfl,rfl,_,_,_,_,hrest,hC'.tail,by lia,hR⟩
       | false=>
        rw [e] at hR;simp only [Bool.false_eq_true,if_false] at hR;have hri:∀(E:Value->Shared->Prop) (Q:Value->Shared->Prop),Q (.bool res) ⟨hp,g,d,tk,os⟩->wpAny (model prog w) A.in1 (richCompare .Gt _ _) Q E ⟨hp,g,d,tk,os⟩:=fun E Q q=>hlt e res hR prog w E Q q
        wp_walk using hri
        exact ⟨_,rfl,by simpa using h⟩
  case fin=>
   rintro ⟨b1,b2⟩ s' ⟨hb',rfl,vs,ws,xs',ys',hz,hC',hlen,hR⟩;simp only at hb';subst hb';have hv:res=decide (items2.size<items.size):=by
    cases xs' with
    | nil=>
     rw [fH] at hR;have:=Option.some.inj hR;rw [<-this];simp only [List.length_nil] at hlen;simp only [gJ.nat]
     congr 1
     simp only [eq_iff_iff];lia
    | cons x0 xs'=>
     cases ys' with
     | nil=>
      rw [fH] at hR;have:=Option.some.inj hR;rw [<-this];simp only [List.length_nil,List.length_cons] at hlen;simp only [gJ.nat,List.length_cons]
      congr 1
      simp only [eq_iff_iff];lia
     | cons y0 ys'=>
      exfalso;cases vs with
      | nil=>exact absurd hC'.1 (by simp)
      | cons v vs=>
       cases ws with
       | nil=>exact absurd hC'.2.1 (by simp)
       | cons w' ws=>rw [List.zip_cons_cons] at hz;cases hz
   rw [hv] at h
   wp_walk
   exact ⟨_,rfl,by simpa [Builtin.Tuple.tupleCompareSizes] using h⟩
  case h=>
   exact ⟨rfl,rfl,items.toList,items2.toList,xs,ys,rfl,hC,by lia,hr⟩
theorem CW.aCk {A:Around} {s:Shared} {l b:Addr} {items items2:Array Value} {xs ys:List D} {res:Bool} (hl:s.heap.IsTuple l items) (hb:s.heap.IsTuple b items2) (hC:C2 .gt A.in1 s items.toList items2.toList xs ys) (hr:fH .gt xs ys=some res) (hu:A.units<cLine) :
  CW .Gt A s (.ref l) (.ref b) res:=fun prog w E Q h=>by
 obtain ⟨⟨cls,dd,data,sl⟩,ho,hc,n,hd⟩:=id hl;obtain ⟨⟨cls2,dd2,data2,sl2⟩,ho2,hc2,n2,hd2⟩:=id hb;simp only at hc hd hc2 hd2;subst hc hd hc2 hd2;exact richCompare_meets_room (op:=.Gt) ⟨_,ho,rfl⟩ ⟨_,ho2,rfl⟩ PySem.F.slot_tuple_gt PySem.F.entry_tuple_gt (PySem.F.args_tuple_gt_2 _ _) (JC l b items items2 n n2 dd dd2 sl sl2 xs ys res hr)
  ⟨ho,ho2,hC,show Value.bool res≠Value.notImplemented/\Q (.bool res) s from ⟨(fun x=>nomatch x),h⟩⟩ hu
theorem JD (l b:Addr) (items items2:Array Value) (n n2:Nat) (dd dd2:Option Addr) (sl sl2:Array (Option Value)) (xs ys:List D) (res:Bool) (hr:fH .ge xs ys=some res) :
  Meets (Builtin.«tuple.__ge__» ⟨[.ref l,.ref b],[]⟩)
   (fun A R s=>s.heap.get? l=some {cls:=.type "tuple",dict:=dd,data:=.seq items n,slots:=sl}/\s.heap.get? b=some {cls:=.type "tuple",dict:=dd2,data:=.seq items2 n2,slots:=sl2}/\
    C2 .ge A.in1 s items.toList items2.toList xs ys/\R (.ok (.ret (.bool res))) s):=
 .of_wp fun prog w A R s h=>by
  obtain ⟨hp,g,d,tk,os⟩:=s;obtain ⟨hl,hb,hC,h⟩:=h;have f2:=AutoSeq1.sub_tuple_tuple;have z1:items.size=xs.length:=by rw [<-hC.1];simp
  have z2:items2.size=ys.length:=by rw [<-hC.2.1];simp
  wp_walk using wpAny_loadPart' hl,wpAny_loadPart' hb,wpAny_forIn_list _ (fun rest b s'=>b.1=none/\s'=⟨hp,g,d,tk,os⟩/\∃(vs ws:List Value) (xs' ys':List D),rest=vs.zip ws/\
   C2 .ge A.in1 ⟨hp,g,d,tk,os⟩ vs ws xs' ys'/\xs'.length+items2.size=ys'.length+items.size/\fH .ge xs' ys'=some res) _
  case turn=>
   rintro ⟨y,x⟩ rest b s' ⟨hb',rfl,vs,ws,xs',ys',hz,hC',hlen,hR⟩;cases vs with
   | nil=>rw [List.zip_nil_left] at hz;cases hz
   | cons v vs=>
    cases ws with
    | nil=>rw [List.zip_nil_right] at hz;cases hz
    | cons w' ws=>
     rw [List.zip_cons_cons] at hz;injection hz with hyx hrest
     injection hyx with hy hx
     subst hy hx;cases xs' with
     | nil=>exact absurd hC'.1 (by simp)
     | cons x0 xs'=>
      cases ys' with
      | nil=>exact absurd hC'.2.1 (by simp)
      | cons y0 ys'=>
       rw [fH] at hR;simp only [List.length_cons] at hlen;obtain ⟨he,hlt⟩:=hC'.2.2 0 _ _ _ _ rfl rfl rfl rfl;refine wpAny_bind (he prog w _ _ ?_);cases e:eqD x0 y0 with
       | true=>
        rw [e] at hR;simp only [if_true] at hR
        wp_walk
        exact ⟨rfl,rfl,_,_,_,_,hrest,hC'.tail,by lia,hR⟩
       | false=>
        rw [e] at hR;simp only [Bool.false_eq_true,if_false] at hR;have hri:∀(E:Value->Shared->Prop) (Q:Value->Shared->Prop),Q (.bool res) ⟨hp,g,d,tk,os⟩->wpAny (model prog w) A.in1 (richCompare .GtE _ _) Q E ⟨hp,g,d,tk,os⟩:=fun E Q q=>hlt e res hR prog w E Q q
        wp_walk using hri
        exact ⟨_,rfl,by simpa using h⟩
  case fin=>
   rintro ⟨b1,b2⟩ s' ⟨hb',rfl,vs,ws,xs',ys',hz,hC',hlen,hR⟩;simp only at hb';subst hb';have hv:res=decide (items2.size<=items.size):=by
    cases xs' with
    | nil=>
     rw [fH] at hR;have:=Option.some.inj hR;rw [<-this];simp only [List.length_nil] at hlen;simp only [gJ.nat]
     congr 1
     simp only [eq_iff_iff];lia
    | cons x0 xs'=>
     cases ys' with
     | nil=>
      rw [fH] at hR;have:=Option.some.inj hR;rw [<-this];simp only [List.length_nil,List.length_cons] at hlen;simp only [gJ.nat,List.length_cons]
      congr 1
      simp only [eq_iff_iff];lia
     | cons y0 ys'=>
      exfalso;cases vs with
      | nil=>exact absurd hC'.1 (by simp)
      | cons v vs=>
       cases ws with
       | nil=>exact absurd hC'.2.1 (by simp)
       | cons w' ws=>rw [List.zip_cons_cons] at hz;cases hz
   rw [hv] at h
   wp_walk
   exact ⟨_,rfl,by simpa [Builtin.Tuple.tupleCompareSizes] using h⟩
  case h=>
   exact ⟨rfl,rfl,items.toList,items2.toList,xs,ys,rfl,hC,by lia,hr⟩
theorem CW.aCl {A:Around} {s:Shared} {l b:Addr} {items items2:Array Value} {xs ys:List D} {res:Bool} (hl:s.heap.IsTuple l items) (hb:s.heap.IsTuple b items2) (hC:C2 .ge A.in1 s items.toList items2.toList xs ys) (hr:fH .ge xs ys=some res) (hu:A.units<cLine) :
  CW .GtE A s (.ref l) (.ref b) res:=fun prog w E Q h=>by
 obtain ⟨⟨cls,dd,data,sl⟩,ho,hc,n,hd⟩:=id hl;obtain ⟨⟨cls2,dd2,data2,sl2⟩,ho2,hc2,n2,hd2⟩:=id hb;simp only at hc hd hc2 hd2;subst hc hd hc2 hd2;exact richCompare_meets_room (op:=.GtE) ⟨_,ho,rfl⟩ ⟨_,ho2,rfl⟩ PySem.F.slot_tuple_ge PySem.F.entry_tuple_ge (PySem.F.args_tuple_ge_2 _ _) (JD l b items items2 n n2 dd dd2 sl sl2 xs ys res hr)
  ⟨ho,ho2,hC,show Value.bool res≠Value.notImplemented/\Q (.bool res) s from ⟨(fun x=>nomatch x),h⟩⟩ hu
section
variable {X:Cx} {pins:List (Addr×Obj)} {σ:St} {H:Hp} {s:Shared}
theorem ZJ (I:Inv X pins σ H s) (o:gJ):∀(n:Nat) (A:Around) {x y:V} {a b:D} {u v:Value} {k:Bool},A.units+n<cLine->a.cQ n=true->b.cQ n=true->Rep All H x a->Rep All H y b->RelV x u->RelV y v->
  xJ o a b=some k->CW o.op A s u v k:=by
 intro n;induction n with
 | zero=>
  intro A x y a b u v k hu ha hb rx ry ru rv hk;cases a with
  | int i=>
   cases b with
   | int j=>
    cases rx;cases ry;obtain ⟨t,rfl⟩:=ru;obtain ⟨t',rfl⟩:=rv;rw [xJ] at hk;have:=Option.some.inj hk;subst this;cases o with
    | lt=>exact fun prog w E Q h=>(PyProof.Rows.lt_int h:wpAny (model prog w) A (compareOp .Lt (.int i t) (.int j t')) Q E s)
    | le=>exact fun prog w E Q h=>(PyProof.Rows.le_int h:wpAny (model prog w) A (compareOp .LtE (.int i t) (.int j t')) Q E s)
    | gt=>exact fun prog w E Q h=>(PyProof.Rows.gt_int h:wpAny (model prog w) A (compareOp .Gt (.int i t) (.int j t')) Q E s)
    | ge=>exact fun prog w E Q h=>(PyProof.Rows.ge_int h:wpAny (model prog w) A (compareOp .GtE (.int i t) (.int j t')) Q E s)
   | _=>simp [xJ] at hk
  | str i=>
   cases b with
   | str j=>
    cases rx;cases ry;obtain ⟨t,rfl⟩:=ru;obtain ⟨t',rfl⟩:=rv;rw [xJ] at hk;have:=Option.some.inj hk;subst this;cases o with
    | lt=>exact fun prog w E Q h=>(PyProof.Rows.lt_str h:wpAny (model prog w) A (compareOp .Lt (.str i t) (.str j t')) Q E s)
    | le=>exact fun prog w E Q h=>(PySem.P.le_str h:wpAny (model prog w) A (compareOp .LtE (.str i t) (.str j t')) Q E s)
    | gt=>exact fun prog w E Q h=>(PySem.P.gt_str h:wpAny (model prog w) A (compareOp .Gt (.str i t) (.str j t')) Q E s)
    | ge=>exact fun prog w E Q h=>(PySem.P.ge_str h:wpAny (model prog w) A (compareOp .GtE (.str i t) (.str j t')) Q E s)
   | _=>simp [xJ] at hk
  | tup _=>simp [D.cQ] at ha
  | _=>cases b <;> simp [xJ] at hk
 | succ n ih=>
  intro A x y a b u v k hu ha hb rx ry ru rv hk;have hu0:A.units<cLine:=by lia
  have hu1:A.in1.units+n<cLine:=by show A.units+1+n<cLine;lia
  cases a with
  | int i=>
   cases b with
   | int j=>
    cases rx;cases ry;obtain ⟨t,rfl⟩:=ru;obtain ⟨t',rfl⟩:=rv;rw [xJ] at hk;have:=Option.some.inj hk;subst this;cases o with
    | lt=>exact fun prog w E Q h=>(PyProof.Rows.lt_int h:wpAny (model prog w) A (compareOp .Lt (.int i t) (.int j t')) Q E s)
    | le=>exact fun prog w E Q h=>(PyProof.Rows.le_int h:wpAny (model prog w) A (compareOp .LtE (.int i t) (.int j t')) Q E s)
    | gt=>exact fun prog w E Q h=>(PyProof.Rows.gt_int h:wpAny (model prog w) A (compareOp .Gt (.int i t) (.int j t')) Q E s)
    | ge=>exact fun prog w E Q h=>(PyProof.Rows.ge_int h:wpAny (model prog w) A (compareOp .GtE (.int i t) (.int j t')) Q E s)
   | _=>simp [xJ] at hk
  | str i=>
   cases b with
   | str j=>
    cases rx;cases ry;obtain ⟨t,rfl⟩:=ru;obtain ⟨t',rfl⟩:=rv;rw [xJ] at hk;have:=Option.some.inj hk;subst this;cases o with
    | lt=>exact fun prog w E Q h=>(PyProof.Rows.lt_str h:wpAny (model prog w) A (compareOp .Lt (.str i t) (.str j t')) Q E s)
    | le=>exact fun prog w E Q h=>(PySem.P.le_str h:wpAny (model prog w) A (compareOp .LtE (.str i t) (.str j t')) Q E s)
    | gt=>exact fun prog w E Q h=>(PySem.P.gt_str h:wpAny (model prog w) A (compareOp .Gt (.str i t) (.str j t')) Q E s)
    | ge=>exact fun prog w E Q h=>(PySem.P.ge_str h:wpAny (model prog w) A (compareOp .GtE (.str i t) (.str j t')) Q E s)
   | _=>simp [xJ] at hk
  | tup ds=>
   cases b with
   | tup es=>
    obtain ⟨p,xs,rfl,e1,r1⟩:=rx.eZ;cases ru;obtain ⟨its1,vr1,h1⟩:=gR I e1;obtain ⟨q,ys,rfl,e2,r2⟩:=ry.eZ;cases rv;obtain ⟨its2,vr2,h2⟩:=gR I e2;rw [D.cQ] at ha hb;rw [xJ] at hk;have hC:∀o',o'=o->C2 o' A.in1 s its1.toArray.toList its2.toArray.toList ds es:=by
     rintro o' rfl;refine ⟨by rw [List.toList_toArray,<-vr1.length,r1.length],by rw [List.toList_toArray,<-vr2.length,r2.length],fun j v w x y a1 a2 a3 a4=>?_⟩;rw [List.toList_toArray] at a1 a2;obtain ⟨v1,w1,rr1⟩:=r1.get a3;obtain ⟨v2,w2,rr2⟩:=r2.get a4;obtain ⟨u1,k1,l1⟩:=vr1.get w1;obtain ⟨u2,k2,l2⟩:=vr2.get w2;rw [a1] at k1;cases k1;rw [a2] at k2;cases k2;have g1:x.cQ n=true:=by
      have:=gU (j:=j) ha (List.getElem?_eq_some_iff.mp a3).1;rwa [List.getD_eq_getElem?_getD,a3] at this
     have g2:y.cQ n=true:=by
      have:=gU (j:=j) hb (List.getElem?_eq_some_iff.mp a4).1;rwa [List.getD_eq_getElem?_getD,a4] at this
     exact ⟨(CV I n A.in1 hu1 g1 g2 rr1 rr2 l1 l2).2.2,fun _ k hk=>ih A.in1 hu1 g1 g2 rr1 rr2 l1 l2 hk⟩
    cases o with
    | lt=>exact CW.aCi h1 h2 (hC .lt rfl) hk hu0
    | le=>exact CW.aCj h1 h2 (hC .le rfl) hk hu0
    | gt=>exact CW.aCk h1 h2 (hC .gt rfl) hk hu0
    | ge=>exact CW.aCl h1 h2 (hC .ge rfl) hk hu0
   | _=>simp [xJ] at hk
  | _=>cases b <;> simp [xJ] at hk
end
end Mi
namespace Mi
open PySem L2 PySem.SeqAt PySem.Spec PyProof.Rows
variable [KFrag]
def kR (H:Hp) (d:D) (fr:Bool) (Q:VK):Prop:=∀v H',cN H H'->Rep All H' v d->(fr=true->Rep (New H) H' v d)->Q v H'
noncomputable def gE (f:FE) (fr:Bool):TE:=fun σ H Q=>∃ρ d,ER H σ ρ/\f ρ=.ok d/\kR H d fr Q
noncomputable def gT (f:FT):TT:=fun σ H Q=>∃ρ b,ER H σ ρ/\f ρ=.ok b/\∀H',cN H H'->Q b H'
noncomputable def gA (f:FA) (fr:Bool):TA:=fun σ H Q=>∃ρ ds,ER H σ ρ/\f ρ=.ok ds/\∀vs H',cN H H'->bV All H' vs ds->(fr=true->bV (New H) H' vs ds)->Q vs H'
theorem kR.self {H:Hp} {d:D} {fr:Bool} {Q:VK} {v:V} (q:kR H d fr Q) (r:Rep All H v d) (r2:fr=true->Rep (New H) H v d):Q v H:=q v H (cN.refl H) r r2
theorem kR.imp {H H':Hp} {d:D} {fr fr':Bool} {Q:VK} (q:kR H d fr Q) (s:cN H H') (h:fr=true->fr'=true):kR H' d fr' Q:=fun v H2 s2 r n=>q v H2 (s.trans s2) r fun hf=>(n (h hf)).mono (cN.new s)
theorem kR.int {H:Hp} {i:Int} {fr:Bool} {Q:VK} (q:kR H (.int i) fr Q):Q (.int i) H:=q.self (.int i) fun _=>.int i
theorem kR.bl {H:Hp} {i:Bool} {fr:Bool} {Q:VK} (q:kR H (.bl i) fr Q):Q (.bl i) H:=q.self (.bl i) fun _=>.bl i
theorem kR.str {H:Hp} {i:Str} {fr:Bool} {Q:VK} (q:kR H (.str i) fr Q):Q (.str i) H:=q.self (.str i) fun _=>.str i
theorem kR.non {H:Hp} {fr:Bool} {Q:VK} (q:kR H .non fr Q):Q .non H:=q.self .non fun _=>.non
noncomputable def r2 (f:D->D->Res D) (fr:Bool):R2:=fun x y H Q=>∃a b d,Rep All H x a/\Rep All H y b/\f a b=.ok d/\kR H d fr Q
def r1 (f:D->Res D) (fr:Bool):V->Hp->VK->Prop:=fun x H Q=>∃a d,Rep All H x a/\f a=.ok d/\kR H d fr Q
def rs (f:List D->Res D) (fr:Bool):List V->Hp->VK->Prop:=fun xs H Q=>∃ds d,bV All H xs ds/\f ds=.ok d/\kR H d fr Q
def rm (f:D->List D->Res D) (fr:Bool):V->List V->Hp->VK->Prop:=fun x xs H Q=>∃a ds d,Rep All H x a/\bV All H xs ds/\f a ds=.ok d/\kR H d fr Q
theorem bH {α β:Type} {m:Res α} {f:α->Res β} {b:β} (h:(do let x <- m;f x)=.ok b):∃a,m=.ok a/\f a=.ok b:=Res.Y6 h
section
variable {X:Cx} {a b e:Expr} {pos:Pos} {fa fb fe:FE} {ra rb re:Bool} {ga:FT}
theorem ER.var {H:Hp} {σ:L2.St} {ρ:List D} {i:Nat} {d:D} (E:ER H σ ρ) (h:fU i ρ=.ok d):∃v,σ[i]?=some (some v)/\Rep All H v d/\ρ.getD i .uD=d:=by
 have:ρ.getD i .uD=d/\d≠.uD:=by
  unfold fU at h;split at h
  ·cases h
  ·cases h;refine ⟨rfl,fun z=>?_⟩;rename_i q;exact q z
 obtain ⟨e1,e2⟩:=this;obtain ⟨v,h1,h2⟩:=E i (by rw [e1];exact e2);exact ⟨v,h1,by rw [e1] at h2;exact h2,e1⟩
theorem aA {i:Nat} {x:Str} (hN:X.N[i]?=some x:=by exact rfl) (hv:Vis X.env.scope x:=by trivial) (hd:nDb x:=by decide) (hcd:nCd x:=by decide):PE X (.Name x pos) (gE (fU i) false):=
 PE.imp (fV hN hv hd hcd) fun σ H Q ⟨ρ,d,E,h,q⟩=>by
  obtain ⟨v,h1,h2,_⟩:=E.var h;exact ⟨v,h1,q.self h2 (fun z=>by cases z)⟩
theorem aC {i j}:PE X (.Constant (.int i) j pos) (gE (bC (.int i)) true):=PE.imp aBl fun σ H Q ⟨ρ,d,E,h,q⟩=>by cases h;exact q.int
theorem ZK {i j}:PE X (.Constant (.bool i) j pos) (gE (bC (.bl i)) true):=PE.imp aEf fun σ H Q ⟨ρ,d,E,h,q⟩=>by cases h;exact q.bl
theorem aQ {i j}:PE X (.Constant (.str i) j pos) (gE (bC (.str i)) true):=PE.imp wU fun σ H Q ⟨ρ,d,E,h,q⟩=>by cases h;exact q.str
theorem uY {j}:PE X (.Constant .none j pos) (gE (bC .non) true):=PE.imp aBm fun σ H Q ⟨ρ,d,E,h,q⟩=>by cases h;exact q.non
theorem two {f:D->D->Res D} {fr:Bool} {σ:L2.St} {H:Hp} {Q:VK} (h:gE (b2 f fa fb) fr σ H Q):tOp (r2 f fr) (gE fa ra) (gE fb rb) σ H Q:=by
 obtain ⟨ρ,d,E,h,q⟩:=h;obtain ⟨x,h1,h⟩:=bH h;obtain ⟨y,h2,h⟩:=bH h;refine ⟨ρ,x,E,h1,fun v H1 s1 rp1 _=>⟨ρ,y,E.same s1,h2,fun u H2 s2 rp2 _=>⟨x,y,d,rp1.same s2,rp2,h,q.imp (s1.trans s2) id⟩⟩⟩
theorem aN {o:Operator} {f:D->D->Res D} {fr:Bool} (ho:OpR X (binaryOp o) (r2 f fr)) (ha:PE X a (gE fa ra)) (hb:PE X b (gE fb rb)):PE X (.BinOp a o b pos) (gE (b2 f fa fb) fr):=PE.imp (aEo ho ha hb) fun _ _ _=>two
theorem M9 {o:CmpOp} {f:D->D->Res D} {fr:Bool} (ho:OpR X (compareOp o) (r2 f fr)) (ha:PE X a (gE fa ra)) (hb:PE X b (gE fb rb)) (hm:behindInMarks o b=false):PE X (.Compare a [o] [b] pos) (gE (b2 f fa fb) fr):=PE.imp (YF ho ha hb hm) fun _ _ _=>two
theorem bN {o:CmpOp} {f:D->D->Res D} {fr:Bool} (ho:OpR X (compareOp o) (r2 f fr)) (ha:PE X a (gE fa ra)) (hb:PE X b (gE fb rb)) (hm:behindInMarks o b=false):PT X (.Compare a [o] [b] pos) (gT (bTB (b2 f fa fb))):=
 PT.imp (YG ho ha hb hm) fun σ H Q ⟨ρ,k,E,h,q⟩=>by
  obtain ⟨d,h1,h2⟩:=bH h;refine two ⟨ρ,d,E,h1,fun v H' s r _=>?_⟩;cases d <;> simp only [asB] at h2 <;> cases h2
  cases r;exact ⟨_,rfl,q H' s⟩
theorem aEy {o:UnaryOp} {f:D->Res D} {fr:Bool} (ho:UnR X (unaryOp o) (r1 f fr)) (ha:PE X a (gE fa ra)):PE X (.UnaryOp o a pos) (gE (b1 f fa) fr):=
 PE.imp (aEp ho ha) fun σ H Q ⟨ρ,d,E,h,q⟩=>by
  obtain ⟨x,h1,h⟩:=bH h;exact ⟨ρ,x,E,h1,fun v H1 s1 rp1 _=>⟨x,d,rp1,h,q.imp s1 id⟩⟩
theorem aEz {f:D->D->Res D} {fr:Bool} (ho:IxR X (r2 f fr)) (ha:PE X a (gE fa ra)) (hb:PE X b (gE fb rb)) (hs:oA b):PE X (.Subscript a b pos) (gE (b2 f fa fb) fr):=PE.imp (YT ho ha hb hs) fun _ _ _=>two
theorem aGr {H:Hp} {v:V} {d:D} {k:Bool} (r:Rep All H v d) (h:aEx d=.ok k) (hd:∀kvs,d≠.dct kvs) (hs:∀xs,d≠.scr xs):aEr X.K v H k:=by
 cases r with
 | non=>cases h;rfl
 | bl b=>cases h;rfl
 | int i=>cases h;rfl
 | str x=>
  simp only [aEx] at h;split at h
  ·rename_i hl;cases h;exact ⟨Nat.le_trans (of_decide_eq_true hl) (by rw [sizeLine_eq];decide),rfl⟩
  ·cases h
 | tup e rr=>cases h;exact .inr (.inl ⟨_,.of e,by cases rr <;> rfl⟩)
 | lst e p rr=>cases h;exact .inl ⟨_,.of e,by cases rr <;> rfl⟩
 | frz e rr=>exact absurd rfl (hs _)
 | dK e p rr n=>exact absurd rfl (hd _)
 | dT e p rr n=>exact absurd rfl (hd _)
 | fdK e rr n=>cases h
 | fdT e rr n=>cases h
 | exc n e q=>cases h
 | ins n e q=>cases h
 | cel e p rr=>cases h
theorem oO (ha:PE X a (gE fa ra)) (he:∀whole,isTrue a X.env whole=(do let v <- whole;standAt a.pos;holding [v] (truthy v)):=by intro _;rfl):PT X a (gT (bTr fa)):=
 PT.imp (RZ ha he) fun σ H Q ⟨ρ,k,E,h,q⟩=>by
  obtain ⟨d,h1,h2⟩:=bH h;refine ⟨ρ,d,E,h1,fun v H' s r _=>⟨k,aGr r ?_ ?_ ?_,q H' s⟩⟩
  ·cases d <;> first|exact h2|cases h2
  ·rintro kvs rfl;cases h2
  ·rintro kvs rfl;cases h2
theorem CZ (ha:PT X a (gT ga)):PT X (.UnaryOp .Not a pos) (gT (SM ga)):=PT.imp (aBp ha) fun σ H Q ⟨ρ,k,E,h,q⟩=>by
  obtain ⟨d,h1,h2⟩:=bH h;cases h2;exact ⟨ρ,d,E,h1,fun H' s=>q H' s⟩
theorem M_ {op} (ha:PE X a (gE fa ra)):PE X (.BoolOp op [a] pos) (gE fa ra):=aBq ha
theorem C_ {d:D} {k:Bool} (h:asB d=.ok k):d=.bl k:=by cases d <;> simp only [asB] at h <;> cases h;rfl
theorem aCm {d:D} {k:Int} (h:asI d=.ok k):d=.int k:=by cases d <;> simp only [asI] at h <;> cases h;rfl
theorem aCn (ha:PE X a (gE fa ra)):PE X (.UnaryOp .Not a pos) (gE (aCf fa) true):=PE.imp (aBs ha) fun σ H Q ⟨ρ,k,E,h,q⟩=>by
  obtain ⟨d,h1,h⟩:=bH h;obtain ⟨z,h2,h⟩:=bH h;cases h;cases C_ h2;exact ⟨ρ,_,E,h1,fun v H' s r _=>by cases r;exact ⟨_,rfl,(q.imp s id).bl⟩⟩
theorem DG {rest:List Expr} (ha:PE X a (gE fa ra)) (hb:PE X (.BoolOp .And (b::rest) pos) (gE fb rb)):PE X (.BoolOp .And (a::b::rest) pos) (gE (uC fa fb) rb):=PE.imp (aBr ha hb) fun σ H Q ⟨ρ,k,E,h,q⟩=>by
  obtain ⟨d,h1,h⟩:=bH h;obtain ⟨z,h2,h3⟩:=bH h;cases C_ h2;refine ⟨ρ,_,E,h1,fun v H' s r _=>?_⟩;cases r;refine ⟨_,rfl,?_⟩;cases z with
  | true=>rw [if_pos rfl];rw [if_pos rfl] at h3;exact ⟨ρ,k,E.same s,h3,q.imp s id⟩
  | false=>rw [if_neg (by simp)];rw [if_neg (by simp)] at h3;cases h3;exact (q.imp s id).bl
theorem aJ:PA X [] (gA aZ true):=PA.imp fW fun σ H Q ⟨ρ,ds,E,h,q⟩=>by cases h;exact q [] H (cN.refl H) .nil fun _=>.nil
theorem aB {es:List Expr} {f:FA} {r:Bool} (he:PE X e (gE fe re)) (hes:PA X es (gA f r)) (hs:starEach (e::es) X.env=(false,eval e X.env)::starEach es X.env:=by rfl):PA X (e::es) (gA (aD fe f) (re&&r)):=PA.imp (b7 he hes hs) fun σ H Q ⟨ρ,ds,E,h,q⟩=>by
  obtain ⟨x,h1,h⟩:=bH h;obtain ⟨xs,h2,h⟩:=bH h;cases h;refine ⟨ρ,x,E,h1,fun v H1 s1 r1 n1=>⟨ρ,xs,E.same s1,h2,fun vs H2 s2 r2 n2=>q _ _ (s1.trans s2) (.cons (r1.same s2) r2) fun hf=>?_⟩⟩;obtain ⟨f1,f2⟩:=(Bool.and_eq_true _ _▸hf:re=true/\r=true)
  exact .cons ((n1 f1).same s2) ((n2 f2).mono (cN.new s1))
theorem DK {es:List Expr} {f:FA} {r:Bool} {x1} (h:PA X es (gA f r)):PE X (.Tuple es x1 pos) (gE (Y8 f) r):=PE.imp (V9 h) fun σ H Q ⟨ρ,d,E,h,q⟩=>by
  obtain ⟨xs,h1,h⟩:=bH h;split at h
  ·rename_i hl;cases h;refine ⟨ρ,xs,E,h1,fun vs H1 s1 r1 n1=>⟨?_,fun p hp=>?_⟩⟩
   ·rw [r1.length];exact Nat.le_trans (of_decide_eq_true hl) (by rw [sizeLine_eq];decide)
   ·have sp:cN H1 (upd H1 p (.tup vs)):=cN.upd hp;exact q _ _ (s1.trans sp) (.tup aH (r1.same sp)) fun hf=>.tup aH ((n1 hf).same sp)
  ·cases h
theorem b8 {es:List Expr} {f:FA} {r:Bool} (h:PA X es (gA f r)):PE X (.List es pos) (gE (fG f) r):=PE.imp (wV h) fun σ H Q ⟨ρ,d,E,h,q⟩=>by
  obtain ⟨xs,h1,h⟩:=bH h;split at h
  ·rename_i hl;cases h;refine ⟨ρ,xs,E,h1,fun vs H1 s1 r1 n1=>⟨?_,fun p hp=>?_⟩⟩
   ·rw [r1.length];exact Nat.le_trans (of_decide_eq_true hl) (by rw [sizeLine_eq];decide)
   ·have sp:cN H1 (upd H1 p (.lst vs)):=cN.upd hp;exact q _ _ (s1.trans sp) (.lst aH trivial (r1.same sp)) fun hf=>.lst aH (s1.free hp) ((n1 hf).same sp)
  ·cases h
end
section
variable {X:Cx} {a b c e:Expr} {pos:Pos} {fa fb fc:FE} {ra rb rc:Bool} {ga gb:FT}
theorem kE {n:Nat} (h:decide (n<=lim)=true):n<=sizeLine:=Nat.le_trans (of_decide_eq_true h) (by rw [sizeLine_eq];decide)
theorem NB {n:Nat} (h:decide (n<lim)=true):n<sizeLine:=Nat.lt_of_lt_of_le (of_decide_eq_true h) (by rw [sizeLine_eq];decide)
theorem Rep.aCo {P:Addr->Prop} {H:Hp} {v:V} {ds:List D} (r:Rep P H v (.lst ds)):∃a xs,v=.ref a/\Rd H a (.lst xs)/\bV P H xs ds:=by
 cases r with
 | lst e p rr=>exact ⟨_,_,rfl,.inl e,rr⟩
theorem PW.imp {X:Cx} {e:PySem.Expr} {t t':TT} (h:PW X e t) (i:∀σ H Q,t' σ H Q->t σ H Q):PW X e t':=fun wh pins s σ H Q I q=>h wh pins s σ H Q I (i σ H Q q)
theorem vQ (ha:PT X a (gT ga)):PW X (.BoolOp .And [a] pos) (gT ga):=YC ha
theorem WK (ha:PT X a (gT ga)):PW X (.BoolOp .Or [a] pos) (gT ga):=aBn ha
theorem uZ {rest:List Expr} (ha:PT X a (gT ga)) (hb:PW X (.BoolOp .And (b::rest) pos) (gT gb)):PW X (.BoolOp .And (a::b::rest) pos) (gT (J6 ga gb)):=PW.imp (aBo ha hb) fun σ H Q ⟨ρ,k,E,h,q⟩=>by
 obtain ⟨z,h1,h3⟩:=bH h;refine ⟨ρ,z,E,h1,fun H' s=>?_⟩;cases z with
 | true=>rw [if_pos rfl];rw [if_pos rfl] at h3;exact ⟨ρ,k,E.same s,h3,fun H2 s2=>q H2 (s.trans s2)⟩
 | false=>rw [if_neg (by simp)];rw [if_neg (by simp)] at h3;cases h3;exact q H' s
theorem aCp {rest:List Expr} (ha:PT X a (gT ga)) (hb:PW X (.BoolOp .Or (b::rest) pos) (gT gb)):PW X (.BoolOp .Or (a::b::rest) pos) (gT (bOr ga gb)):=PW.imp (aEg ha hb) fun σ H Q ⟨ρ,k,E,h,q⟩=>by
 obtain ⟨z,h1,h3⟩:=bH h;refine ⟨ρ,z,E,h1,fun H' s=>?_⟩;cases z with
 | true=>rw [if_pos rfl];rw [if_pos rfl] at h3;cases h3;exact q H' s
 | false=>rw [if_neg (by simp)];rw [if_neg (by simp)] at h3;exact ⟨ρ,k,E.same s,h3,fun H2 s2=>q H2 (s.trans s2)⟩
theorem WL {f g:D->D->Res D} {r r':Bool} {σ:L2.St} {H:Hp} {Q:VK} (h:gE (bCh f g fa fb fc) r' σ H Q):K6 (r2 f r) (r2 g r') (gE fa ra) (gE fb rb) (gE fc rc) σ H Q:=by
 obtain ⟨ρ,d,E,h,q⟩:=h;obtain ⟨x,h1,h⟩:=bH h;obtain ⟨y,h2,h⟩:=bH h;obtain ⟨z,h3,h⟩:=bH h;obtain ⟨k,h4,h7⟩:=bH h;refine ⟨ρ,x,E,h1,fun v H1 s1 rp1 _=>⟨ρ,y,E.same s1,h2,fun u H2 s2 rp2 _=>⟨x,y,z,rp1.same s2,rp2,h3,fun t H3 s3 rp3 _=>?_⟩⟩⟩;have e:=C_ h4;subst e;cases rp3;refine ⟨k,rfl,?_⟩;have s13:=(s1.trans s2).trans s3;cases k with
 | true=>
  rw [if_pos rfl];rw [if_pos rfl] at h7;obtain ⟨w,h5,h6⟩:=bH h7;exact ⟨ρ,w,E.same s13,h5,fun t H4 s4 rp4 _=>⟨y,w,d,(rp2.same s3).same s4,rp4,h6,q.imp (s13.trans s4) id⟩⟩
 | false=>
  rw [if_neg (by simp)];rw [if_neg (by simp)] at h7;cases h7;exact (q.imp s13 id).bl
theorem DN {o o':CmpOp} {f g:D->D->Res D} {r r':Bool} (ho:OpR X (compareOp o) (r2 f r)) (ho':OpR X (compareOp o') (r2 g r')) (ha:PE X a (gE fa ra)) (hb:PE X b (gE fb rb)) (hc:PE X c (gE fc rc))
  (hm:lastMarks [o,o'] [b,c]=false:=by with_unfolding_all rfl):PE X (.Compare a [o,o'] [b,c] pos) (gE (bCh f g fa fb fc) r'):=PE.imp (RW ho ho' ha hb hc hm) fun _ _ _=>WL
theorem nU {o o':CmpOp} {f g:D->D->Res D} {r r':Bool} (ho:OpR X (compareOp o) (r2 f r)) (ho':OpR X (compareOp o') (r2 g r')) (ha:PE X a (gE fa ra)) (hb:PE X b (gE fb rb)) (hc:PE X c (gE fc rc))
  (hm:lastMarks [o,o'] [b,c]=false:=by with_unfolding_all rfl):PT X (.Compare a [o,o'] [b,c] pos) (gT (bTB (bCh f g fa fb fc))):=PT.imp (RX ho ho' ha hb hc hm) fun σ H Q ⟨ρ,k,E,h,q⟩=>by
  obtain ⟨d,h1,h2⟩:=bH h;refine WL ⟨ρ,d,E,h1,fun v H' s r _=>?_⟩;have e:=C_ h2;subst e;cases r;exact ⟨_,rfl,q H' s⟩
theorem aX:OpR X (binaryOp .Add) (r2 (aP .add) true):=by
 intro pins s σ H x y v u Q I rx ry h;obtain ⟨a,b,d,p,q,e,k⟩:=h;cases p with
 | int i=>
  cases q with
  | int j=>cases e;exact aBw pins s σ H _ _ v u Q I rx ry ⟨i,j,rfl,rfl,k.int⟩
  | _=>simp [aP] at e
 | str i=>
  cases q with
  | str j=>
   simp only [aP] at e;split at e
   ·rename_i hl;cases e;exact HS pins s σ H _ _ v u Q I rx ry ⟨i,j,rfl,rfl,kE hl,k.str⟩
   ·cases e
  | _=>simp [aP] at e
 | non=>simp [aP] at e
 | bl _=>simp [aP] at e
 | tup _ _=>simp [aP] at e
 | dK _ _ _ _=>simp [aP] at e
 | dT _ _ _ _=>simp [aP] at e
 | fdK _ _ _=>simp [aP] at e
 | fdT _ _ _=>simp [aP] at e
 | exc _ _ _=>simp [aP] at e
 | ins _ _ _=>simp [aP] at e
 | cel _ _ _=>simp [aP] at e
 | @lst a1 xs ds e1 p1 r1=>
  have hR:Rep All H (.ref a1) (.lst ds):=.lst e1 p1 r1;cases b with
  | lst es=>
   simp only [aP] at e;split at e
   ·rename_i hl;cases e;rw [Bool.and_eq_true,Bool.and_eq_true] at hl;obtain ⟨⟨hl,hp1⟩,hp2⟩:=hl;obtain ⟨l1,xs1,e1',rd1,rr1⟩:=hR.aCo;obtain ⟨l2,xs2,rfl,rd2,rr2⟩:=q.aCo;cases e1';cases rx;cases ry;obtain ⟨z,its,n,vr1,ee1⟩:=rd1.ok I.hok;obtain ⟨z2,its2,n2,vr2,ee2⟩:=rd2.ok I.hok;have hz:xs1.length+xs2.length<=sizeLine:=by rw [rr1.length,rr2.length];exact kE hl
    have t1:=vr1.length;have t2:=vr2.length;refine PySem.P.add_list ee1 ee2 ?_ (by rw [List.size_toArray,List.size_toArray];lia);have ea:its.toArray++its2.toArray=(its++its2).toArray:=by simp
    rw [ea];refine ⟨.ref _,_,I.aG0 (t':=s.toks) (vr1.append vr2) (by rw [List.length_append];lia),rfl,?_⟩;have sp:cN H (upd H s.heap.objs.size (.lst (xs1++xs2))):=cN.upd I.fresh;exact k _ _ sp (.lst aH trivial ((rr1.append rr2).same sp)) fun _=>.lst aH I.fresh (((rr1.cP hp1).append (rr2.cP hp2)).same sp)
   ·cases e
  | _=>simp [aP] at e
 | frz _ _=>simp [aP] at e
theorem zN {f:Value->Value->Sem Value} {C:Int->Int->Prop} {g:Int->Int->V} {op:D->D->Res D} (h:OpR X f (rI C g))
  (hi:∀i j d,op (.int i) (.int j)=.ok d->C i j/\∃k,d=.int k/\g i j=.int k) (hn:∀a b d,op a b=.ok d->(∃i,a=.int i)/\∃j,b=.int j):OpR X f (r2 op true):=by
 intro pins s σ H x y v u Q I rx ry ⟨a,b,d,p,q,e,k⟩;obtain ⟨⟨i,rfl⟩,⟨j,rfl⟩⟩:=hn a b d e;cases p;cases q;obtain ⟨hc,m,rfl,hm⟩:=hi i j d e;exact h pins s σ H _ _ v u Q I rx ry ⟨i,j,rfl,rfl,hc,by rw [hm];exact k.int⟩
theorem xM:OpR X (binaryOp .Sub) (r2 (aP .sub) true):=by
 intro pins s σ H x y v u Q I rx ry ⟨a,b,d,p,q,e,k⟩;cases a <;> cases b <;> simp [aP] at e
 cases p;cases q;subst e;exact aBx pins s σ H _ _ v u Q I rx ry ⟨_,_,rfl,rfl,k.int⟩
theorem aCq:OpR X (binaryOp .Mult) (r2 (aP .mul) true):=by
 refine zN aBy (fun i j d e=>?_) fun a b d e=>?_
 ·simp only [aP] at e;split at e
  ·rename_i hl;cases e;refine ⟨?_,_,rfl,rfl⟩;simp only [j7,Bool.or_eq_true,Bool.and_eq_true,decide_eq_true_eq] at hl;exact hl
  ·cases e
 ·cases a <;> cases b <;> first|exact ⟨⟨_,rfl⟩,_,rfl⟩|simp [aP] at e
theorem eG:OpR X (binaryOp .FloorDiv) (r2 (aP .fdiv) true):=by
 refine zN YD (fun i j d e=>?_) fun a b d e=>?_
 ·simp only [aP] at e;split at e
  ·rename_i hl;cases e;refine ⟨?_,_,rfl,rfl⟩;simp only [Bool.and_eq_true,decide_eq_true_eq] at hl;exact hl
  ·cases e
 ·cases a <;> cases b <;> first|exact ⟨⟨_,rfl⟩,_,rfl⟩|simp [aP] at e
theorem dB:OpR X (binaryOp .Mod) (r2 (aP .mod) true):=by
 refine zN aBz (fun i j d e=>?_) fun a b d e=>?_
 ·simp only [aP] at e;split at e
  ·rename_i hl;cases e;refine ⟨?_,_,rfl,rfl⟩;simp only [Bool.and_eq_true,decide_eq_true_eq] at hl;exact hl
  ·cases e
 ·cases a <;> cases b <;> first|exact ⟨⟨_,rfl⟩,_,rfl⟩|simp [aP] at e
theorem aCr:UnR X (unaryOp .USub) (r1 aCg true):=by
 intro pins s σ H x v Q I rx ⟨a,d,p,e,k⟩;cases a <;> simp [aCg] at e
 subst e;cases p;exact aC0 pins s σ H _ v Q I rx ⟨_,rfl,k.int⟩
theorem dD (hu:X.A.units+20<cLine):OpR X (compareOp .Eq) (r2 (bO .eq) true):=by
 intro pins s σ H x y v u Q I rx ry ⟨a,b,d,p,q,e,k⟩;simp only [bO] at e;split at e
 ·rename_i hl;cases e;rw [Bool.and_eq_true] at hl;exact (CV I bB X.A (by have:bB=12:=rfl;lia) hl.1 hl.2 p q rx ry).1 X.prog X.w X.xe _ ⟨.bl _,H,I,rfl,k.bl⟩
 ·cases e
theorem aF0 (hu:X.A.units+20<cLine):OpR X (compareOp .NotEq) (r2 (bO .ne) true):=by
 intro pins s σ H x y v u Q I rx ry ⟨a,b,d,p,q,e,k⟩;simp only [bO] at e;split at e
 ·rename_i hl;cases e;rw [Bool.and_eq_true] at hl;exact (CV I bB X.A (by have:bB=12:=rfl;lia) hl.1 hl.2 p q rx ry).2.1 X.prog X.w X.xe _ ⟨.bl _,H,I,rfl,k.bl⟩
 ·cases e
theorem NK (o:gJ) (hu:X.A.units+20<cLine):OpR X (compareOp o.op) (r2 (bO (.ord o)) true):=by
 intro pins s σ H x y v u Q I rx ry ⟨a,b,d,p,q,e,k⟩;simp only [bO] at e;split at e
 ·rename_i hl;rw [Bool.and_eq_true] at hl;split at e
  ·rename_i m hm;cases e;have:=ZJ I o bB X.A (by have:bB=12:=rfl;lia) hl.1 hl.2 p q rx ry hm X.prog X.w X.xe _ (show EP X pins σ Q (.bool m) s from ⟨.bl _,H,I,rfl,k.bl⟩);cases o <;> exact this
  ·cases e
 ·cases e
theorem ZL (hu:X.A.units+20<cLine):OpR X (compareOp .Lt) (r2 (bO (.ord .lt)) true):=NK .lt hu
theorem m_ (hu:X.A.units+20<cLine):OpR X (compareOp .LtE) (r2 (bO (.ord .le)) true):=NK .le hu
theorem aF1 (hu:X.A.units+20<cLine):OpR X (compareOp .Gt) (r2 (bO (.ord .gt)) true):=NK .gt hu
theorem aCs:OpR X (compareOp .Is) (r2 (bO .isN) true):=by
 intro pins s σ H x y v u Q I rx ry ⟨a,b,d,p,q,e,k⟩;cases b <;> simp only [bO] at e <;> (try (cases e;done)) <;> (try (split at e <;> cases e;done))
 cases q;refine aC1 pins s σ H x .non v u Q I rx ry ⟨rfl,?_⟩;cases p <;> simp only [bO] at e <;> cases e <;> exact k.bl
end
theorem JF (k q:Key):eqD (kD k) (kD q)=decide (k=q):=by
 cases k <;> cases q <;> simp [kD,eqD,Bool.beq_eq_decide_eq]
theorem WM:∀(k q:List Key),zJ (k.map kD) (q.map kD)=decide (k=q)
 | [],[]=>by simp [zJ]
 | [],_::_=>by simp [zJ]
 | _::_,[]=>by simp [zJ]
 | a::k,b::q=>by
  rw [List.map_cons,List.map_cons,zJ,JF,WM k q];by_cases h:a=b <;> by_cases h':k=q <;> simp [h,h']
theorem aCt (k q:List Key):eqD (.tup (k.map kD)) (.tup (q.map kD))=decide (k=q):=by rw [eqD,WM]
theorem ZM {P:Addr->Prop} {H:Hp} {k:Key}:∀{kvs:List (Key×V)} {ds:List (D×D)},m7 P H kvs ds->(∃v d,uW kvs k=some v/\dX ds (kD k)=some d/\Rep P H v d)\/(uW kvs k=none/\dX ds (kD k)=none)
 | _,_,.nil=>.inr ⟨rfl,rfl⟩
 | _,_,.cons (k:=k') r t=>by
  by_cases h:k'=k
  ·subst h;exact .inl ⟨_,_,nQ rfl,by rw [dX,JF,if_pos (by simp)],r⟩
  ·rw [dX,JF,if_neg (by simpa using h),nR (p:=(k',_)) h];exact ZM t
theorem ZP {P:Addr->Prop} {H:Hp} {k:List Key}:∀{kvs:List (List Key×V)} {ds:List (D×D)},uA P H kvs ds->(∃v d,uW kvs k=some v/\dX ds (.tup (k.map kD))=some d/\Rep P H v d)\/(uW kvs k=none/\dX ds (.tup (k.map kD))=none)
 | _,_,.nil=>.inr ⟨rfl,rfl⟩
 | _,_,.cons (k:=k') r t=>by
  by_cases h:k'=k
  ·subst h;exact .inl ⟨_,_,nQ rfl,by rw [dX,aCt,if_pos (by simp)],r⟩
  ·rw [dX,aCt,if_neg (by simpa using h),nR (p:=(k',_)) h];exact ZP t
theorem vR {H:Hp} {v:V} {d:D} (h:oJ d=true) (r:Rep All H v d):∃k,v=kV k/\d=kD k:=by
 cases r <;> simp [oJ] at h
 ·exact ⟨.inl _,rfl,rfl⟩
 ·exact ⟨.inr _,rfl,rfl⟩
theorem flat_keys {H:Hp}:∀{vs:List V} {ds:List D},ds.all oJ=true->bV All H vs ds->∃ks:List Key,vs=ks.map kV/\ds=ks.map kD
 | _,_,_,.nil=>⟨[],rfl,rfl⟩
 | _,_,h,.cons r t=>by
  rw [List.all_cons,Bool.and_eq_true] at h;obtain ⟨k,rfl,rfl⟩:=vR h.1 r;obtain ⟨ks,rfl,rfl⟩:=flat_keys h.2 t;exact ⟨k::ks,rfl,rfl⟩
theorem kI {H:Hp} {y:V} {k:D} (h:keyOk k=true) (r:Rep All H y k):(∃q,y=kV q/\k=kD q)\/∃(b:Addr) (ks:List Key),y=.ref b/\H b=some (.tup (ks.map kV))/\k=.tup (ks.map kD):=by
 cases k <;> simp [keyOk] at h
 ·exact .inl (vR rfl r)
 ·exact .inl (vR rfl r)
 ·obtain ⟨a,xs,rfl,e,rr⟩:=r.eZ;obtain ⟨ks,rfl,rfl⟩:=flat_keys (List.all_eq_true.mpr h) rr;exact .inr ⟨a,ks,rfl,e,rfl⟩
theorem nW (k:Key):isTup (kD k)=false:=by cases k <;> rfl
section
variable {X:Cx} {pins:List (Addr×Obj)} {σ:L2.St} {H:Hp} {s:Shared} {a:Addr}
theorem vU {o o':HO} (e:H a=some o):upd (upd H a o') a o=H:=by
 rw [X_]
 funext b
 by_cases h:b=a
 ·subst h;rw [aH,e]
 ·rw [aR h]
theorem lO (I:Inv X pins σ H s) (e:H a=some (.dK [])):Inv X pins σ (upd H a (.dT [])) s:=by
 obtain ⟨z,hd,vs,rel,o,es,ep,h1,h2,h3,h4,h5,h6⟩:=R5 I.hok e;cases rel;refine I.write (t':=s.toks) (x:=a) (e:=a) (h':=s.heap) (by rw [e];trivial) (.inl rfl) (fun _ _ _ q=>q) ⟨o,h1⟩ ?_;refine ⟨Nat.zero_le _,hd,[],.nil,o,es,ep,h1,h2,h3,?_,List.nodup_nil⟩;cases h5':es.toList with
 | nil=>rfl
 | cons _ _=>rw [h5'] at h5;cases h5
theorem lQ (I:Inv X pins σ H s) (e:H a=some (.dT [])):Inv X pins σ (upd H a (.dK [])) s:=by
 obtain ⟨z,hd,vs,rel,o,es,ep,h1,h2,h3,h4,h5,h6⟩:=aCd I.hok e;cases rel;refine I.write (t':=s.toks) (x:=a) (e:=a) (h':=s.heap) (by rw [e];trivial) (.inl rfl) (fun _ _ _ q=>q) ⟨o,h1⟩ ?_;have h0:es.toList=[]:=h4;refine ⟨Nat.zero_le _,hd,[],.nil,o,es,ep,h1,h2,h3,?_,?_,List.nodup_nil⟩
 ·intro x hx;have:x∈es.toList:=by simpa using hx
  rw [h0] at this;cases this
 ·rw [h0];exact .nil
theorem DP {P:Addr->Prop}:∀{kvs:List (Key×V)} {ds:List (D×D)},m7 P H kvs ds->∀p∈ds,isTup p.1=false
 | _,_,.nil,_,h=>by cases h
 | _,_,.cons r t,p,h=>by
  rcases List.mem_cons.mp h with rfl|h
  ·exact nW _
  ·exact DP t p h
theorem DQ {P:Addr->Prop}:∀{kvs:List (List Key×V)} {ds:List (D×D)},uA P H kvs ds->∀p∈ds,isTup p.1=true
 | _,_,.nil,_,h=>by cases h
 | _,_,.cons r t,p,h=>by
  rcases List.mem_cons.mp h with rfl|h
  ·rfl
  ·exact DQ t p h
theorem ZQ {x y:V} {ds:List (D×D)} {k:D} (I:Inv X pins σ H s) (rd:Rep All H x (.dct ds)) (rk:Rep All H y k) (hk:aBa ds k=true) :
  ∃H1 a o,x=.ref a/\Inv X pins σ H1 s/\(∀s',Inv X pins σ H1 s'->Inv X pins σ H s')/\J3 H1 a y o/\((o=none/\dX ds k=none)\/∃v d,o=some v/\dX ds k=some d/\Rep All H v d):=by
 unfold aBa at hk;rw [Bool.and_eq_true] at hk;obtain ⟨h1,h2⟩:=hk;cases rd with
 | @dK a kvs ds e _ r n=>
  rcases kI h1 rk with ⟨q,rfl,rfl⟩|⟨b,ks,rfl,eb,rfl⟩
  ·refine ⟨H,a,_,rfl,I,fun _ h=>h,.k e,?_⟩;rcases ZM (k:=q) r with ⟨v,d,g1,g2,g3⟩|⟨g1,g2⟩
   ·exact .inr ⟨v,d,g1,g2,g3⟩
   ·exact .inl ⟨g1,g2⟩
  ·cases r with
   | nil=>
    have e2:=vU (o':=.dT []) e;refine ⟨upd H a (.dT []),a,none,rfl,lO I e,fun s' I'=>?_,.t (k:=ks) aH (by rw [aR (aEe eb e (by intro z;cases z))];exact eb),.inl ⟨rfl,rfl⟩⟩;have:=lQ I' aH;rwa [e2] at this
   | cons r t=>
    rw [List.all_cons,nW] at h2;simp [isTup] at h2
 | @dT a kvs ds e _ r n=>
  rcases kI h1 rk with ⟨q,rfl,rfl⟩|⟨b,ks,rfl,eb,rfl⟩
  ·cases r with
   | nil=>
    have e2:=vU (o':=.dK []) e;refine ⟨upd H a (.dK []),a,none,rfl,lQ I e,fun s' I'=>?_,.k (k:=q) aH,.inl ⟨rfl,rfl⟩⟩;have:=lO I' aH;rwa [e2] at this
   | cons r t=>
    rw [List.all_cons,nW] at h2;simp [isTup] at h2
  ·refine ⟨H,a,_,rfl,I,fun _ h=>h,.t e eb,?_⟩;rcases ZP (k:=ks) r with ⟨v,d,g1,g2,g3⟩|⟨g1,g2⟩
   ·exact .inr ⟨v,d,g1,g2,g3⟩
   ·exact .inl ⟨g1,g2⟩
theorem S6 {x:V} {ds:List (D×D)} {k d:D} (rd:Rep All H x (.dct ds)) (hk:keyOk k=true) (h:dX ds k=some d):aBa ds k=true:=by
 have one:∀{ds:List (D×D)},dX ds k=some d->∃p∈ds,eqD p.1 k=true:=by
  intro ds;induction ds with
  | nil=>intro h;cases h
  | cons p ds ih=>
   intro h;obtain ⟨p1,p2⟩:=p;rw [dX] at h;by_cases hq:eqD p1 k=true
   ·exact ⟨_,List.mem_cons_self ..,hq⟩
   ·rw [if_neg hq] at h;obtain ⟨p,hp,e⟩:=ih h;exact ⟨p,List.mem_cons_of_mem _ hp,e⟩
 obtain ⟨p,hp,he⟩:=one h;unfold aBa;rw [hk,Bool.true_and,List.all_eq_true];intro q hq;have same:isTup p.1=isTup k:=by
  obtain ⟨p1,p2⟩:=p;cases p1 <;> cases k <;> simp [eqD,keyOk,isTup] at he hk ⊢
 cases rd with
 | dK e _ r n=>rw [DP r q hq,<-same,DP r p hp];rfl
 | dT e _ r n=>rw [DQ r q hq,<-same,DQ r p hp];rfl
end
section
variable {X:Cx} {a b e:Expr} {pos:Pos} {fa fb:FE} {ra rb:Bool}
def vV (H:Hp) (u:Value):D:=by
 classical
 exact if h:∃d,d.cQ bB=true/\∃v,RelV v u/\Rep All H v d then Classical.choose h else .non
theorem vW {H:Hp} {u:Value} {v:V} {d:D} (hq:d.cQ bB=true) (rv:RelV v u) (r:Rep All H v d):vV H u=d:=by
 unfold vV;have h:∃d,d.cQ bB=true/\∃v,RelV v u/\Rep All H v d:=⟨d,hq,v,rv,r⟩
 rw [dif_pos h];obtain ⟨h2,v',rv',r'⟩:=Classical.choose_spec h;have:=rv'.inj rv;subst this;exact Rep.inj bB h2 hq r' r
theorem oR {H:Hp} {a:D}:∀{xs:List V} {ds:List D} {its:List Value},D.eV bB ds=true->bV All H xs ds->Vals xs its->(its.any fun u=>eqD (vV H u) a)=ds.any fun y=>eqD y a
 | _,_,_,_,.nil,.nil=>rfl
 | _,_,_,h,.cons r t,.cons v vt=>by
  rw [D.eV,Bool.and_eq_true] at h;rw [List.any_cons,List.any_cons,vW h.1 v r,oR h.2 t vt]
theorem oU {pins:List (Addr×Obj)} {σ:L2.St} {H:Hp} {s:Shared} (I:Inv X pins σ H s) (hu:X.A.units+20<cLine) {a:D} {x:V} {v:Value} (ha:a.cQ bB=true) (rx:Rep All H x a) (rv:RelV x v)
  {xs:List V} {ds:List D} {its:List Value} (h:D.eV bB ds=true) (r:bV All H xs ds) (vr:Vals xs its) (u:Value) (hm:u∈its):EqAt X.A.in1 s u v (eqD (vV H u) a):=by
 obtain ⟨j,hj,e⟩:=List.getElem_of_mem hm;have hj':j<ds.length:=by rw [<-r.length,vr.length];exact hj
 obtain ⟨w,h1,h2⟩:=r.get (i:=j) (d:=ds[j]) (by simp [hj']);obtain ⟨u',h3,h4⟩:=vr.get h1;rw [List.getElem?_eq_getElem hj,e] at h3;cases h3;have hd:ds[j].cQ bB=true:=by
  have:=gU (j:=j) h hj';rwa [List.getD_eq_getElem?_getD,List.getElem?_eq_getElem hj'] at this
 rw [vW hd h4 h2];exact (CV I bB X.A.in1 (by show X.A.units+1+12<cLine;lia) hd ha h2 rx h4 rv).2.2
theorem aF2 (hu:X.A.units+20<cLine):OpR X (compareOp .In) (r2 (bO .isin) true):=by
 intro pins s σ H x y v u Q I rx ry ⟨a,b,d,p,q,e,k⟩;cases b with
 | tup ys=>
  simp only [bO] at e;split at e
  ·rename_i hl;cases e;rw [Bool.and_eq_true] at hl;obtain ⟨l,xs,rfl,ee,rr⟩:=q.eZ;cases ry;obtain ⟨its,vr,pl⟩:=gR I ee;refine in_tupleAt (fun u=>eqD (vV H u) a) pl (fun w hw=>oU I hu hl.1 p rx hl.2 rr vr w (by simpa using hw)) ⟨.bl _,H,I,rfl,?_⟩;rw [show its.toArray.any (fun u=>eqD (vV H u) a)=its.any (fun u=>eqD (vV H u) a) by simp,oR hl.2 rr vr];exact k.bl
  ·cases e
 | lst ys=>
  simp only [bO] at e;split at e
  ·rename_i hl;cases e;rw [Bool.and_eq_true] at hl;obtain ⟨l,xs,rfl,ee,rr⟩:=q.fK (K:=X.K);cases ry;obtain ⟨its,vr,pl⟩:=iM I ee;refine in_listAt (fun u=>eqD (vV H u) a) pl (fun w hw=>oU I hu hl.1 p rx hl.2 rr vr w (by simpa using hw)) ⟨.bl _,H,I,rfl,?_⟩;rw [show its.toArray.any (fun u=>eqD (vV H u) a)=its.any (fun u=>eqD (vV H u) a) by simp,oR hl.2 rr vr];exact k.bl
  ·cases e
 | dct kvs=>
  simp only [bO] at e;split at e
  ·rename_i hl;cases e;obtain ⟨H1,a1,o,rfl,I1,bk,g,hc⟩:=ZQ I q p hl;cases ry;refine aGp (by lia) I1 g rx fun s' I'=>⟨.bl _,H,bk s' I',rfl,?_⟩
   rcases hc with ⟨rfl,h2⟩|⟨w,dd,rfl,h2,_⟩
   ·rw [h2] at k;exact k.bl
   ·rw [h2] at k;exact k.bl
  ·cases e
 | _=>simp [bO] at e
theorem S7 (hu:X.A.units+20<cLine):OpR X (compareOp .NotIn) (r2 (bO .notin) true):=by
 intro pins s σ H x y v u Q I rx ry ⟨a,b,d,p,q,e,k⟩;cases b with
 | tup ys=>
  simp only [bO] at e;split at e
  ·rename_i hl;cases e;rw [Bool.and_eq_true] at hl;obtain ⟨l,xs,rfl,ee,rr⟩:=q.eZ;cases ry;obtain ⟨its,vr,pl⟩:=gR I ee;refine notIn_tupleAt (fun u=>eqD (vV H u) a) pl (fun w hw=>oU I hu hl.1 p rx hl.2 rr vr w (by simpa using hw)) ⟨.bl _,H,I,rfl,?_⟩;rw [show its.toArray.any (fun u=>eqD (vV H u) a)=its.any (fun u=>eqD (vV H u) a) by simp,oR hl.2 rr vr];exact k.bl
  ·cases e
 | lst ys=>
  simp only [bO] at e;split at e
  ·rename_i hl;cases e;rw [Bool.and_eq_true] at hl;obtain ⟨l,xs,rfl,ee,rr⟩:=q.fK (K:=X.K);cases ry;obtain ⟨its,vr,pl⟩:=iM I ee;refine notIn_listAt (fun u=>eqD (vV H u) a) pl (fun w hw=>oU I hu hl.1 p rx hl.2 rr vr w (by simpa using hw)) ⟨.bl _,H,I,rfl,?_⟩;rw [show its.toArray.any (fun u=>eqD (vV H u) a)=its.any (fun u=>eqD (vV H u) a) by simp,oR hl.2 rr vr];exact k.bl
  ·cases e
 | dct kvs=>
  simp only [bO] at e;split at e
  ·rename_i hl;cases e;obtain ⟨H1,a1,o,rfl,I1,bk,g,hc⟩:=ZQ I q p hl;cases ry;refine YX (by lia) I1 g rx fun s' I'=>⟨.bl _,H,bk s' I',rfl,?_⟩
   rcases hc with ⟨rfl,h2⟩|⟨w,dd,rfl,h2,_⟩
   ·rw [h2] at k;exact k.bl
   ·rw [h2] at k;exact k.bl
  ·cases e
 | _=>simp [bO] at e
theorem WN {α:Type} (xs:List α) (i:Int):L2.atI xs i=(ixD xs.length i).bind fun j=>xs[j]?:=rfl
theorem bV.atI {P:Addr->Prop} {H:Hp} {xs:List V} {ds:List D} {i:Int} {d:D} (r:bV P H xs ds) (h:((ixD ds.length i).bind fun j=>ds[j]?)=some d):∃v,L2.atI xs i=some v/\Rep P H v d:=by
 rw [WN,r.length];cases hi:ixD ds.length i with
 | none=>rw [hi] at h;cases h
 | some j=>
  rw [hi] at h;obtain ⟨v,h1,h2⟩:=r.get h;exact ⟨v,h1,h2⟩
theorem oV {X:Cx} {value slice:Expr} {pins:List (Addr×Obj)} {s:Shared} {σ:L2.St} {H:Hp} {a:Addr} {y v':V} {u:Value} {Q:VK} (hu:X.A.units+20<cLine) (I:Inv X pins σ H s) (g:J3 H a y (some v')) (ry:RelV y u) {H':Hp}
  (hs:subscripted slice false (.ref a) u=operate [.ref a,u] (getItem (.ref a) u)) (bk:∀s',Inv X pins σ H s'->Inv X pins σ H' s') (q:Q v' H') :
  wpAny (model X.prog X.w) X.A (subscriptTail value slice (.ref a) u) (EP X pins σ Q) X.xe s:=by
 have hT:=zG I g;unfold subscriptTail;refine wpAny_bind ?_;rw [getitemInPython_of_ne hT.not_modules];refine wpAny_bind (wpAny_specialOf hT PySem.F.slot_dict_getitem.lookup ?_);have fin:wpAny (model X.prog X.w) X.A (subscripted slice false (.ref a) u) (fun r s₃=>wpAny (model X.prog X.w) X.A (letTemporaryGo value (.ref a) r >>= fun _=>pure r) (EP X pins σ Q) X.xe s₃) X.xe s:=by
  rw [hs];exact wpAny_operating (MK (by lia) I g ry fun w' s3 I3 rw'=>wpAny_bind (wpAny_letTemporaryGo (wpAny_pure ⟨v',H',bk s3 I3,rw',q⟩)))
 first
  | exact wpAny_pure (wpAny_bind fin)
  | exact wpAny_bind (wpAny_pure (wpAny_bind fin))
  | exact wpAny_bind fin
theorem DR {k d:D}:∀{ds:List (D×D)},keyOk k=true->dX ds k=some d->∃p∈ds,isTup p.1=isTup k
 | [],_,h=>by cases h
 | (p1,p2)::ds,hk,h=>by
  rw [dX] at h;by_cases hq:eqD p1 k=true
  ·refine ⟨_,List.mem_cons_self ..,?_⟩;cases p1 <;> cases k <;> simp [eqD,keyOk,isTup] at hq hk ⊢
  ·rw [if_neg hq] at h;obtain ⟨p,hp,e⟩:=DR hk h;exact ⟨p,List.mem_cons_of_mem _ hp,e⟩
theorem aF3 {H:Hp} {x y:V} {ds:List (D×D)} {k d:D} (rd:Rep All H x (.fdc ds)) (rk:Rep All H y k) (hk:keyOk k=true) (h:dX ds k=some d):∃a v,x=.ref a/\J3 H a y (some v)/\Rep All H v d:=by
 obtain ⟨p,hp,et⟩:=DR hk h;cases rd with
 | @fdK a o kvs ds e r n=>
  rcases kI hk rk with ⟨q,rfl,rfl⟩|⟨b,ks,rfl,eb,rfl⟩
  ·rcases ZM (k:=q) r with ⟨v,d',g1,g2,g3⟩|⟨g1,g2⟩
   ·rw [g2] at h;cases h;exact ⟨a,v,rfl,.inl ⟨kvs,q,.inr ⟨o,e⟩,rfl,g1.symm⟩,g3⟩
   ·rw [g2] at h;cases h
  ·rw [DP r p hp] at et;cases et
 | @fdT a o kvs ds e r n=>
  rcases kI hk rk with ⟨q,rfl,rfl⟩|⟨b,ks,rfl,eb,rfl⟩
  ·rw [DQ r p hp,nW] at et;cases et
  ·rcases ZP (k:=ks) r with ⟨v,d',g1,g2,g3⟩|⟨g1,g2⟩
   ·rw [g2] at h;cases h;exact ⟨a,v,rfl,.inr ⟨kvs,ks,b,.inr ⟨o,e⟩,rfl,eb,g1.symm⟩,g3⟩
   ·rw [g2] at h;cases h
theorem aF4 (hK:KFrag.K=X.K) (hu:X.A.units+20<cLine):IxR X (r2 getD false):=by
 intro value slice pins s σ H x y v u Q I rx ry ⟨a,b,d,p,q,e,k⟩ hs;cases a with
 | tup ys=>
  cases b <;> simp only [getD] at e <;> (try (cases e;done))
  have e':=Res.fY e;obtain ⟨l,xs,rfl,ee,rr⟩:=p.eZ;cases q;obtain ⟨w,h1,h2⟩:=rr.atI e';exact aC8 value slice pins s σ H _ _ v u Q I rx ry ⟨l,xs,_,w,rfl,rfl,.of ee,h1,k.self h2 fun z=>by cases z⟩ hs
 | lst ys=>
  cases b <;> simp only [getD] at e <;> (try (cases e;done))
  have e':=Res.fY e;obtain ⟨l,xs,rfl,ee,rr⟩:=p.fK (K:=X.K);cases q;obtain ⟨w,h1,h2⟩:=rr.atI e';exact oE value slice pins s σ H _ _ v u Q I rx ry ⟨l,xs,_,w,rfl,rfl,ee,h1,k.self h2 fun z=>by cases z⟩ hs
 | cel ca ys=>
  cases b <;> simp only [getD] at e <;> (try (cases e;done))
  have e':=Res.fY e;cases p with
  | cel ee pp rr=>
   cases q;obtain ⟨w,h1,h2⟩:=rr.atI e';exact oE value slice pins s σ H _ _ v u Q I rx ry ⟨_,_,_,w,rfl,rfl,.inl (.inl ee),h1,k.self h2 fun z=>by cases z⟩ hs
 | scr ys=>
  cases b <;> simp only [getD] at e <;> (try (cases e;done))
  have e':=Res.fY e;cases p with
  | frz ee rr=>
   cases q;obtain ⟨w,h1,h2⟩:=rr.atI e';exact oE value slice pins s σ H _ _ v u Q I rx ry ⟨_,_,_,w,rfl,rfl,ee.sq hK,h1,k.self h2 fun z=>by cases z⟩ hs
 | str z=>
  cases b <;> simp only [getD] at e <;> (try (cases e;done))
  split at e
  ·rename_i hl;have e':=Res.fY e;obtain ⟨cc,h1,h2⟩:=Option.map_eq_some_iff.mp e';subst h2;cases p;cases q;exact aC9 value slice pins s σ H _ _ v u Q I rx ry ⟨z,_,cc,rfl,rfl,kE hl,h1,k.str⟩ hs
  ·cases e
 | dct kvs=>
  have e':keyOk b=true/\dX kvs b=some d:=by
   cases b <;> simp only [getD] at e <;> (split at e <;> first|(rename_i hl;exact ⟨hl,Res.fY e⟩)|cases e)
  obtain ⟨H1,a1,o,rfl,I1,bk,g,hc⟩:=ZQ I p q (S6 p e'.1 e'.2);cases rx;rcases hc with ⟨rfl,h2⟩|⟨w,dd,rfl,h2,h3⟩
  ·rw [h2] at e';cases e'.2
  ·rw [h2] at e';cases e'.2;exact oV hu I1 g ry hs bk (k.self h3 fun z=>by cases z)
 | fdc kvs=>
  have e':keyOk b=true/\dX kvs b=some d:=by
   cases b <;> simp only [getD] at e <;> (split at e <;> first|(rename_i hl;exact ⟨hl,Res.fY e⟩)|cases e)
  obtain ⟨a1,w,rfl,g,h3⟩:=aF3 p q e'.1 e'.2;cases rx;exact oV hu I g ry hs (fun _ h=>h) (k.self h3 fun z=>by cases z)
 | _=>cases b <;> simp [getD] at e
theorem eN {X:Cx} {a b:Expr} {pos:Pos} {fa fb:FE} {ra rb:Bool} (ha:PE X a (gE fa ra)) (hb:PE X b (gE fb rb)) (hK:KFrag.K=X.K:=by assumption) (hu:X.A.units+20<cLine:=by assumption) (hs:oA b:=by exact fun _ _=>rfl):PE X (.Subscript a b pos) (gE (b2 getD fa fb) false):=aEz (aF4 hK hu) ha hb hs
noncomputable def gO (f:List D->Res (Option Int)):TO:=fun σ H Q=>∃ρ i,ER H σ ρ/\f ρ=.ok i/\∀H',cN H H'->Q i H'
theorem PO.imp {X:Cx} {e:Option PySem.Expr} {t t':TO} (h:PO X e t) (i:∀σ H Q,t' σ H Q->t σ H Q):PO X e t':=fun pins s σ H Q I q=>h pins s σ H Q I (i σ H Q q)
theorem bT:PO X none (gO cG):=PO.imp YQ fun σ H Q ⟨ρ,i,E,h,q⟩=>by cases h;exact q H (cN.refl H)
theorem bD (ha:PE X a (gE fa ra)):PO X (some a) (gO (bK fa)):=PO.imp (YS ha) fun σ H Q ⟨ρ,i,E,h,q⟩=>by
 obtain ⟨x,h1,h⟩:=bH h;obtain ⟨j,h2,h⟩:=bH h;cases h;have e:=aCm h2;subst e;exact ⟨ρ,_,E,h1,fun v H' s r _=>by cases r;exact ⟨j,rfl,q H' s⟩⟩
theorem WP (n d:Nat) (o:Option Int):HT.sIx n d o=J4 n d o:=by
 cases o with
 | none=>rfl
 | some v=>
  show (if v<0 then (v+(n:Int)).toNat else min v.toNat n)=(if v<0 then (max (v+(n:Int)) 0).toNat else (min v (n:Int)).toNat);split <;> lia
theorem bV.cut {P:Addr->Prop} {H:Hp} {xs:List V} {ds:List D} (r:bV P H xs ds) (lo hi:Option Int):bV P H (LK xs lo hi) (cutD ds lo hi):=by
 unfold LK cutD;rw [r.length];simp only [WP];exact (r.drop _).take _
theorem jC {ds:List D}:D.bU ds=true↔∀d∈ds,d.pure=true:=by
 induction ds with
 | nil=>simp [D.bU]
 | cons d ds ih=>rw [D.bU,Bool.and_eq_true,ih];simp
def rSl:V->Option Int->Option Int->Hp->VK->Prop:=fun x lo hi H Q=>∃a d,Rep All H x a/\aE5 a lo hi=.ok d/\kR H d true Q
theorem aF5 (hK:KFrag.K=X.K):SlR X rSl:=by
 intro pins s σ H x v vl vu lo hi sl Q I rx hs pl pu ⟨a,d,p,e,k⟩;cases a <;> simp only [aE5] at e <;> (try (cases e;done))
 ·split at e
  ·cases e
  ·rename_i hw;cases e;obtain ⟨l,xs,rfl,ee,rr⟩:=p.eZ;refine aC7 pins s σ H _ v vl vu lo hi sl Q I rx hs pl pu ⟨l,xs,rfl,.of ee,?_,fun p hp=>?_⟩
   ·simp only [WP,rr.length];simp only [Bool.not_eq_true',Bool.or_eq_true,not_or,Bool.not_eq_false',decide_eq_true_eq] at hw;exact hw.2
   ·have sp:cN H (upd H p (.tup (LK xs lo hi))):=cN.upd hp;have hp2:D.bU ‹List D›=true:=by
     simp only [Bool.or_eq_true,not_or,Bool.not_eq_true'] at hw;simpa using hw.1
    exact k _ _ sp (.tup aH ((rr.cut lo hi).same sp)) fun z=>.tup aH (((rr.cP hp2).cut lo hi).same sp)
 ·split at e
  ·rename_i hl;cases e;obtain ⟨l,xs,rfl,ee,rr⟩:=p.fK (K:=X.K);refine LR pins s σ H _ v vl vu lo hi sl Q I rx hs pl pu ⟨l,xs,rfl,ee,fun p hp=>?_⟩;have sp:cN H (upd H p (.lst (LK xs lo hi))):=cN.upd hp;exact k _ _ sp (.lst aH trivial ((rr.cut lo hi).same sp)) fun z=>.lst aH hp (((rr.cP hl).cut lo hi).same sp)
  ·cases e
 ·split at e
  ·rename_i hl;cases e;cases p with
   | @frz l xs ds ee rr=>
    refine LR pins s σ H _ v vl vu lo hi sl Q I rx hs pl pu ⟨l,xs,rfl,ee.sq hK,fun p hp=>?_⟩;have sp:cN H (upd H p (.lst (LK xs lo hi))):=cN.upd hp;exact k _ _ sp (.lst aH trivial ((rr.cut lo hi).same sp)) fun z=>.lst aH hp (((rr.cP hl).cut lo hi).same sp)
  ·cases e
end
end Mi
namespace PySem.Mm
open PySem PyProof.Rows PySem.W
theorem xN {prog:Program} {w:World} {A:Around} {E:Value->Shared->Prop} {s:Shared} {Q:Value->Shared->Prop} {K:Type} [DecidableEq K] {knd:KeyKind prog w K} {d:Addr} {kvs:List (K×Value)} {ep n:Nat} (hh:A.handled=none) (lo:(d==sysModules)=false)
  (hm:s.heap.DictAt knd d kvs ep) (hn:kvs.length=n) (hl:n<=2 ^ 24)
  (q:∀h' tk acc c,(∀b o,s.heap.get? b=some o->h'.get? b=some o)->h'.get? s.heap.objs.size=some {cls:=.type "list",dict:=none,data:=.seq acc c,slots:=#[]}->
   ItemsOf (fun i v=>∃k x,kvs[i]?=some (k,x)/\knd.is k v=true) acc n->Q (.ref s.heap.objs.size) {s with heap:=h',toks:=tk}):wpAny (model prog w) A (call (.type "list") [.ref d]) Q E s:=by
 subst hn;exact kdl_call (kdl_dict lo) hh hm (kdl_size hl) q
end PySem.Mm
namespace Mi
open PySem L2 PySem.SeqAt PySem.Spec PyProof.Rows
variable [KFrag]
section
variable {X:Cx} {a b e:Expr} {es:List Expr} {pos p:Pos} {fa:FE} {ra:Bool} {fs:FA} {rr:Bool} {x:Str} {id T:String}
theorem fO {P:Addr->Prop} {H:Hp} {xs:List V} {us:List Value} {d:D} (r:bV P H xs [d]) (vr:Vals xs us):∃v u,xs=[v]/\us=[u]/\Rep P H v d/\RelV v u:=by
 cases r with
 | cons r t=>
  cases t;cases vr with
  | cons v vt=>
   cases vt;exact ⟨_,_,rfl,rfl,r,v⟩
theorem DW {f:List D->Res D} {fr:Bool} {σ:L2.St} {H:Hp} {Q:VK} (h:gE (aW f fs) fr σ H Q):tCB (rs f fr) (gA fs rr) σ H Q:=by
 obtain ⟨ρ,d,E,h,q⟩:=h;obtain ⟨ds,h1,h2⟩:=bH h;exact ⟨ρ,ds,E,h1,fun vs H1 s1 r1 _=>⟨ds,d,r1,h2,q.imp s1 id⟩⟩
theorem cZ {f:List D->Res D} {fr:Bool} (hc:jN X (.builtin id) (rs f fr)) (hg:Gl X x) (hm:X.mg x=none) (hv:bootBuiltins x=some (.builtin id)) (ha:PA X (e::es) (gA fs rr)) (hn:x ≠ "__name__":=by decide) (hdb:nDb x:=by decide)
  (he:starEach (e::es) X.env=(false,eval e X.env)::starEach es X.env:=by rfl) (hpl:(backTo pos (starEach es X.env)).any (·.1)=false:=by rfl):PE X (.Call (.Name x p) (e::es) [] pos) (gE (aW f fs) fr):=
 PE.imp (nP hc hg hm hv ha hn hdb he hpl) fun _ _ _=>DW
theorem fQ {f:List D->Res D} {fr:Bool} (hc:jN X (.type T) (rs f fr)) (hg:Gl X x) (hm:X.mg x=none) (hv:bootBuiltins x=some (.type T)) (ha:PA X (e::es) (gA fs rr)) (hn:x ≠ "__name__":=by decide) (hdb:nDb x:=by decide)
  (he:starEach (e::es) X.env=(false,eval e X.env)::starEach es X.env:=by rfl) (hpl:(backTo pos (starEach es X.env)).any (·.1)=false:=by rfl):PE X (.Call (.Name x p) (e::es) [] pos) (gE (aW f fs) fr):=
 PE.imp (K_ hc hg hm hv ha hn hdb he hpl) fun _ _ _=>DW
theorem fZ (hK:KFrag.K=X.K):jN X (.builtin "len") (rs iZ true):=by
 intro pins s σ H xs us Q I vr ⟨ds,d,r,e,k⟩;unfold iZ at e;split at e
 ·cases e;obtain ⟨vv,uu,rfl,rfl,r,v⟩:=fO r vr;obtain ⟨l,ys,rfl,hl,rr⟩:=r.eZ;cases v;exact fX pins s σ H [.ref l] [.ref l] Q I (.cons rfl .nil) ⟨l,ys,rfl,.inr (.of hl),by rw [rr.length];exact k.int⟩
 ·cases e;obtain ⟨vv,uu,rfl,rfl,r,v⟩:=fO r vr;obtain ⟨l,ys,rfl,hl,rr⟩:=r.fK (K:=X.K);cases v;exact fX pins s σ H [.ref l] [.ref l] Q I (.cons rfl .nil) ⟨l,ys,rfl,.inl hl,by rw [rr.length];exact k.int⟩
 ·cases e;obtain ⟨vv,uu,rfl,rfl,r,v⟩:=fO r vr;cases r with
  | @frz l xs ds ee rr=>
   cases v;exact fX pins s σ H [.ref l] [.ref l] Q I (.cons rfl .nil) ⟨l,xs,rfl,.inl (ee.sq hK),by rw [rr.length];exact k.int⟩
 ·cases e;obtain ⟨vv,uu,rfl,rfl,r,v⟩:=fO r vr;cases r with
  | cel ee pp rr=>
   cases v;exact fX pins s σ H [.ref _] [.ref _] Q I (.cons rfl .nil) ⟨_,_,rfl,.inl (.inl (.inl ee)),by rw [rr.length];exact k.int⟩
 ·split at e
  ·rename_i hl;cases e;obtain ⟨vv,uu,rfl,rfl,r,v⟩:=fO r vr;cases r;exact xF pins s σ H _ _ Q I (.cons v .nil) ⟨_,rfl,kE hl,k.int⟩
  ·cases e
 ·cases e
theorem m7.keys {P P':Addr->Prop} {H:Hp}:∀{kvs:List (Key×V)} {ds:List (D×D)},m7 P H kvs ds->bV P' H (kvs.map fun p=>kV p.1) (aCh ds)
 | _,_,.nil=>.nil
 | _,_,.cons (k:=k) _ t=>.cons (by cases k <;> first|exact .int _|exact .str _) t.keys
theorem list_dict {pins:List (Addr×Obj)} {s:Shared} {σ:L2.St} {H:Hp} {l:Addr} {kvs:List (Key×V)} (hc:X.calm=true) (I:Inv X pins σ H s) (e:H l=some (.dK kvs)) {Q:Value->Shared->Prop}
  (q:∀p s',H p=none->Inv X pins σ (upd H p (.lst (kvs.map fun p=>kV p.1))) s'->(∀l0 o0,H l0=some o0->l0≠p)->Q (.ref p) s'):wpAny (model X.prog X.w) X.A (call (.type "list") [.ref l]) Q X.xe s:=by
 obtain ⟨z,hd,vs,rel,dd⟩:=R5 I.hok e;obtain ⟨ep,da⟩:=dd.dictAt;have hlen:kvs.length=vs.length:=Paired.length rel;refine Mm.xN (I.ok.hd hc) hd da rfl (by rw [<-hlen];rw [sizeLine_eq] at z;lia) fun h' tk acc' c' kp e1 it=>?_
 obtain ⟨i1,i2⟩:=it;have hfr:H s.heap.objs.size=none:=I.hok.fresh (Nat.le_refl _);refine q _ _ hfr (I.laid (t':=tk) kp (Nat.le_refl _) ?_) fun l0 o0 h0=>bQ h0 hfr
 refine ⟨by rw [List.length_map];exact z,acc'.toList,c',?_,by simpa using e1⟩;have gen:∀(kvs:List (Key×V)) (vs:List (Key×Value)) (xs:List Value),KV kvs vs->xs.length=vs.length->(∀(j:Nat) (v:Value),xs[j]?=some v->∃k x,vs[j]?=some (k,x)/\(dO X.prog X.w).is k v=true)->Vals (kvs.map fun p=>kV p.1) xs:=by
  intro kvs vs xs rel;induction rel generalizing xs with
  | nil=>intro hl _;cases xs with|nil=>exact .nil|cons _ _=>simp at hl
  | @cons p q ps qs hpq t ih=>
   intro hl g;cases xs with
   | nil=>simp at hl
   | cons x xs=>
    refine .cons ?_ (ih xs (by simpa using hl) fun j v hv=>g (j+1) v (by simpa using hv));obtain ⟨k,x',h1,h2⟩:=g 0 x rfl;have h1':q=(k,x'):=by simpa using h1
    show RelV (kV p.1) x;rw [hpq.1,h1'];rcases cV h2 with ⟨i,t,rfl,rfl⟩|⟨i,t,rfl,rfl⟩
    ·exact ⟨t,rfl⟩
    ·exact ⟨t,rfl⟩
 exact gen kvs vs acc'.toList rel (by simpa using i1) fun j v hv=>i2 j v (by simpa using hv)
theorem ZR (hc:X.calm=true):jN X (.type "list") (rs M3 true):=by
 intro pins s σ H xs us Q I vr ⟨ds,d,r,e,k⟩;unfold M3 at e;split at e
 ·split at e
  ·rename_i hl;cases e;obtain ⟨vv,uu,rfl,rfl,r,v⟩:=fO r vr;obtain ⟨l,ys,rfl,hl',rr⟩:=r.eZ;cases v;refine mL pins s σ H [.ref l] [.ref l] Q I (.cons rfl .nil) ⟨l,ys,rfl,.inr (.of hl'),fun p hp=>?_⟩;have sp:cN H (upd H p (.lst ys)):=cN.upd hp;exact k _ _ sp (.lst aH trivial (rr.same sp)) fun _=>.lst aH hp ((rr.cP hl).same sp)
  ·cases e
 ·split at e
  ·rename_i hl;cases e;obtain ⟨vv,uu,rfl,rfl,r,v⟩:=fO r vr;obtain ⟨l,ys,rfl,hl',rr⟩:=r.fK (K:=X.K);cases v;refine mL pins s σ H [.ref l] [.ref l] Q I (.cons rfl .nil) ⟨l,ys,rfl,.inl hl',fun p hp=>?_⟩;have sp:cN H (upd H p (.lst ys)):=cN.upd hp;exact k _ _ sp (.lst aH trivial (rr.same sp)) fun _=>.lst aH hp ((rr.cP hl).same sp)
  ·cases e
 ·split at e
  ·rename_i hl;cases e;obtain ⟨vv,uu,rfl,rfl,r,v⟩:=fO r vr;cases r with
   | @dK l kvs ds e _ r n=>
    cases v;refine list_dict hc I e fun p s' hp I' _=>⟨.ref p,_,I',rfl,?_⟩
    have sp:cN H (upd H p (.lst (kvs.map fun p=>kV p.1))):=cN.upd hp;exact k _ _ sp (.lst aH trivial (r.keys.same sp)) fun _=>.lst aH hp (r.keys.same sp)
   | @dT l kvs ds e _ r n=>
    cases v;cases r with
    | cons r t=>simp [isTup] at hl
    | nil=>
     have e2:=vU (o':=.dK []) e;refine list_dict hc (lQ I e) aH fun p s' hp I' hne=>?_
     have hp':p≠l:=fun z=>by subst z;rw [aH] at hp;cases hp
     have hpn:H p=none:=by rw [aR hp'] at hp;exact hp
     have hcm:upd (upd (upd H l (.dK [])) p (.lst [])) l (.dT [])=upd H p (.lst []):=by
      funext b
      by_cases hb:b=l
      ·subst hb;rw [aH,aR (Ne.symm hp'),e]
      ·rw [aR hb];by_cases hb2:b=p
       ·subst hb2;rw [aH,aH]
       ·rw [aR hb2,aR hb2,aR hb]
     have I2:=lO I' (a:=l) (by rw [aR (Ne.symm hp'),aH]);have I3:Inv X pins σ (upd H p (.lst [])) s':=by
      have:Inv X pins σ (upd (upd (upd H l (.dK [])) p (.lst [])) l (.dT [])) s':=I2;rwa [hcm] at this
     have sp:cN H (upd H p (.lst [])):=cN.upd hpn;exact ⟨.ref p,_,I3,rfl,k _ _ sp (.lst aH trivial .nil) fun _=>.lst aH hpn .nil⟩
  ·cases e
 ·cases e
theorem kJ:jN X (.type "tuple") (rs j9 false):=by
 intro pins s σ H xs us Q I vr ⟨ds,d,r,e,k⟩;unfold j9 at e;split at e
 ·cases e;obtain ⟨vv,uu,rfl,rfl,r,v⟩:=fO r vr;obtain ⟨l,ys,rfl,hl',rr⟩:=r.eZ;cases v;exact j4 pins s σ H [.ref l] [.ref l] Q I (.cons rfl .nil) ⟨l,ys,rfl,.inr ⟨.of hl',k.self (.tup hl' rr) fun z=>by cases z⟩⟩
 ·cases e;obtain ⟨vv,uu,rfl,rfl,r,v⟩:=fO r vr;obtain ⟨l,ys,rfl,hl',rr⟩:=r.fK (K:=X.K);cases v;refine j4 pins s σ H [.ref l] [.ref l] Q I (.cons rfl .nil) ⟨l,ys,rfl,.inl ⟨hl',fun p hp=>?_⟩⟩;have sp:cN H (upd H p (.tup ys)):=cN.upd hp;exact k _ _ sp (.tup aH (rr.same sp)) fun z=>by cases z
 ·cases e
theorem isi {pins:List (Addr×Obj)} {s:Shared} {σ:L2.St} {H:Hp} {v:V} {u:Value} {d:D} {t:Ty} {k:Bool} (I:Inv X pins σ H s) (r:Rep All H v d) (ru:RelV v u) (h:MT t d=.ok k) {Q:Value->Shared->Prop}
  (q:∀tk,Q (.bool k) {s with toks:=tk}):wpAny (model X.prog X.w) X.A (call (.builtin "isinstance") [u,.type t.nm]) Q X.xe s:=by
 have q0:Q (.bool k) s:=q s.toks;cases r with
 | non=>cases ru;cases t <;> simp only [MT] at h <;> cases h <;> first|exact IsiPair.NoneType_int (q _)|exact IsiPair.NoneType_str (q _)|exact IsiPair.NoneType_bool (q _)|exact IsiPair.NoneType_list (q _)|exact IsiPair.NoneType_tuple (q _)|exact IsiPair.NoneType_dict (q _)
 | bl b=>cases ru;cases t <;> simp only [MT] at h <;> cases h <;> first|exact IsiPair.bool_int q0|exact IsiPair.bool_str (q _)|exact IsiPair.bool_bool q0|exact IsiPair.bool_list (q _)|exact IsiPair.bool_tuple (q _)|exact IsiPair.bool_dict (q _)
 | int b=>obtain ⟨tt,rfl⟩:=ru;cases t <;> simp only [MT] at h <;> cases h <;> first|exact IsiPair.int_int q0|exact IsiPair.int_str (q _)|exact IsiPair.int_bool (q _)|exact IsiPair.int_list (q _)|exact IsiPair.int_tuple (q _)|exact IsiPair.int_dict (q _)
 | str b=>obtain ⟨tt,rfl⟩:=ru;cases t <;> simp only [MT] at h <;> cases h <;> first|exact IsiPair.str_int (q _)|exact IsiPair.str_str q0|exact IsiPair.str_bool (q _)|exact IsiPair.str_list (q _)|exact IsiPair.str_tuple (q _)|exact IsiPair.str_dict (q _)
 | tup e rr=>
  cases ru;obtain ⟨its,vr,o,ho,hc,_⟩:=gR I e;cases t <;> simp only [MT] at h <;> cases h <;> first|exact IsiPair.tuple_int ho hc (q _)|exact IsiPair.tuple_str ho hc (q _)|exact IsiPair.tuple_bool ho hc (q _)|exact IsiPair.tuple_list ho hc (q _)|exact IsiPair.tuple_tuple ho hc q0|exact IsiPair.tuple_dict ho hc (q _)
 | lst e p rr=>
  cases ru;obtain ⟨its,vr,o,ho,hc,_⟩:=iM I (.of e);cases t <;> simp only [MT] at h <;> cases h <;> first|exact IsiPair.list_int ho hc (q _)|exact IsiPair.list_str ho hc (q _)|exact IsiPair.list_bool ho hc (q _)|exact IsiPair.list_list ho hc q0|exact IsiPair.list_tuple ho hc (q _)|exact IsiPair.list_dict ho hc (q _)
 | frz e rr=>cases t <;> cases h
 | fdK e rr n=>cases t <;> cases h
 | fdT e rr n=>cases t <;> cases h
 | exc n e q=>cases t <;> cases h
 | ins n e q=>cases t <;> cases h
 | cel e p rr=>cases t <;> cases h
 | dK e p rr n=>
  cases ru;obtain ⟨_,_,_,_,o,_,_,ho,hx,_⟩:=R5 I.hok e;have hc:=hx.1;cases t <;> simp only [MT] at h <;> cases h <;> first|exact IsiPair.dict_int ho hc (q _)|exact IsiPair.dict_str ho hc (q _)|exact IsiPair.dict_bool ho hc (q _)|exact IsiPair.dict_list ho hc (q _)|exact IsiPair.dict_tuple ho hc (q _)|exact IsiPair.dict_dict ho hc q0
 | dT e p rr n=>
  cases ru;obtain ⟨_,_,_,_,o,_,_,ho,hx,_⟩:=aCd I.hok e;have hc:=hx.1;cases t <;> simp only [MT] at h <;> cases h <;> first|exact IsiPair.dict_int ho hc (q _)|exact IsiPair.dict_str ho hc (q _)|exact IsiPair.dict_bool ho hc (q _)|exact IsiPair.dict_list ho hc (q _)|exact IsiPair.dict_tuple ho hc (q _)|exact IsiPair.dict_dict ho hc q0
def aGs (t:Ty):List V->Hp->VK->Prop:=fun xs H Q=>∃v d k,xs=[v,.ty t.nm]/\Rep All H v d/\MT t d=.ok k/\Q (.bl k) H
theorem aCu (t:Ty):jN X (.builtin "isinstance") (aGs t):=by
 intro pins s σ H xs us Q I vr ⟨v,d,k,e,r,h,q⟩;subst e;cases vr with
 | cons rv vt=>
  cases vt with
  | cons rt vt=>
   cases vt;cases rt;exact isi I r rv h fun tk=>⟨.bl k,H,I.tok tk,rfl,q⟩
theorem WQ (t:Ty) {y:Str} {p2:Pos} (ha:PE X a (gE fa ra)) (hg:Gl X "isinstance") (hm:X.mg "isinstance" = none) (hv:bootBuiltins "isinstance" = some (.builtin "isinstance")) (gy:Gl X y) (my:X.mg y=none) (vy:bootBuiltins y=some (.type t.nm))
  (hy:y ≠ "__name__":=by decide) (hyd:(y==("__debug__" : Str))=false:=by decide)
  (he:starEach [a,.Name y p2] X.env=(false,eval a X.env)::starEach [.Name y p2] X.env:=by rfl) (he2:starEach [.Name y p2] X.env=(false,eval (.Name y p2) X.env)::starEach [] X.env:=by rfl)
  (hpl:(backTo pos (starEach [.Name y p2] X.env)).any (·.1)=false:=by rfl):PE X (.Call (.Name "isinstance" p) [a,.Name y p2] [] pos) (gE (b1 (Y9 t) fa) true):=
 PE.imp (nP (aCu t) hg hm hv (b7 ha (b7 (KH gy my vy (v:=.ty t.nm) rfl hy hyd) fW he2) he) (by decide) (by decide) he hpl) fun σ H Q ⟨ρ,d,E,h,q⟩=>by
  obtain ⟨x,h1,h⟩:=bH h;obtain ⟨k,h2,h⟩:=bH h;cases h;exact ⟨ρ,x,E,h1,fun v H1 s1 r1 _=>⟨v,x,k,rfl,r1,h2,(q.imp s1 id).bl⟩⟩
theorem xO {o:Expr} {fo:FE} {ro fr:Bool} {name:Str} {apos cpos:Pos} {f:D->List D->Res D} (pa:PlainAttrs T) (slot:Slot T name id) (hty:typeOf (.builtin id)=pure (.type "method_descriptor")) (hm:MtR X id (rm f fr)) (ho:PE X o (gE fo ro)) (ha:PA X (e::es) (gA fs rr))
  (hT:∀(d:D) (ds:List D) (r:D) (v:V) (H:Hp),f d ds=.ok r->Rep All H v d->tyV X.K T v H)
  (hbase:attributeBase o name X.env (eval o X.env)=eval o X.env:=by rfl)
  (hfew:((backTo cpos (starEach (e::es) X.env)).all (fun x=>!x.1)&&(backToKw cpos (keywordEach [] X.env)).all (fun x=>x.1.isSome)
   && decide ((e::es).length+([]:List Keyword).length+(if ([]:List Keyword).isEmpty then 0 else 1)<30))=true:=by rfl)
  (hline:(apos.endLine==cpos.line)=true:=by rfl) (hs:starEach (e::es) X.env=(false,eval e X.env)::starEach es X.env:=by rfl) (hplain:(backTo cpos (starEach es X.env)).any (·.1)=false:=by rfl) :
  PE X (.Call (.Attribute o name apos) (e::es) [] cpos) (gE (bM f fo fs) fr):=
 PE.imp (R4 pa slot hty hm ho ha hbase hfew hline hs hplain) fun σ H Q ⟨ρ,d,E,h,q⟩=>by
  obtain ⟨x,h1,h⟩:=bH h;obtain ⟨ds,h2,h⟩:=bH h;exact ⟨ρ,x,E,h1,fun v H1 s1 r1 _=>⟨hT x ds d v H1 h r1,ρ,ds,E.same s1,h2,fun vs H2 s2 r2 _=>⟨x,ds,d,r1.same s2,r2,h,q.imp (s1.trans s2) fun z=>z⟩⟩⟩
noncomputable def spD (f:List D->Res D) (n:Nat):Sp:=fun vs H Q _=>∃ds d,ds.length=n/\bV All H vs ds/\f ds=.ok d/\kR H d true Q
theorem ZS {f:List D->Res D} {n:Nat} {vs:List V} {H:Hp} {Q:VK} {E:XK} (h:spD f n vs H Q E):vs.length=n:=by
 obtain ⟨ds,d,h1,r,_⟩:=h;rw [r.length,h1]
theorem ZV {k:Nat} {fad:Addr} {fd:FuncData} {ps:List Str} {f:List D->Res D} {n:Nat} (F:uU X.prog X.w X.K X.mg X.base CX0 k fad fd ps (spD f n)) (hr:jK k X.A) (hg:Gl X x) (hm:X.mg x=some (.ref fad)) (hk:PySem.W.keepIn X.K (.ref fad)=true) (hb:Binds X.K fd ps [])
  (ha:PA X (e::es) (gA fs rr)) (hdb:nDb x:=by decide) (he:starEach (e::es) X.env=(false,eval e X.env)::starEach es X.env:=by rfl) (hpl:(backTo pos (starEach es X.env)).any (·.1)=false:=by rfl) :
  PE X (.Call (.Name x p) (e::es) [] pos) (gE (aW (dC n f) fs) true):=
 PE.imp (YL F hr hg hm hk hb .nil aEw ha hdb he hpl) fun σ H Q ⟨ρ,d,E,h,q⟩=>by
  obtain ⟨ds,h1,h⟩:=bH h;unfold dC at h;split at h
  ·rename_i hl;exact ⟨ρ,ds,E,h1,fun vs H1 s1 r1 _=>⟨ds,d,of_decide_eq_true hl,by rw [List.append_nil];exact r1,h,q.imp s1 id⟩⟩
  ·cases h
end
end Mi
namespace Mi
open PySem L2 PySem.SeqAt PySem.Spec PyProof.Rows
noncomputable def jR (x:Str):List D:=x.cps.toList.map fun c=>D.str ⟨#[c]⟩
noncomputable def zO (xs:List D):List D:=xs.zipIdx.map fun p=>.tup [.int p.2,p.1]
noncomputable def aE6 (xs ys:List D):List D:=(xs.zip ys).map fun p=>.tup [p.1,p.2]
noncomputable def zP (m:Nat) (xs:List D):List D:=xs.zipIdx.map fun p=>.tup [.int ((m+p.2:Nat):Int),p.1]
variable [KFrag]
noncomputable def aF6 (x:Str):It:=⟨fun i _=>i<x.cps.size,fun i H v H'=>H'=H/\∃c,x.cps[i]?=some c/\v=.str ⟨#[c]⟩,fun i _=>x.cps.size<=i⟩
def Ite (K:PySem.W.Frag) (a:Addr):It:=
 ⟨fun i H=>∃xs x,SqL K H a xs/\xs[i]?=some x,fun i H v H'=>∃t x,(∀xs,SqL K H a xs->xs[i]?=some x)/\v=.ref t/\H t=none/\H'=upd H t (.tup [.int i,x]),fun i H=>∃xs,SqL K H a xs/\xs.length<=i⟩
def aG3 (K:PySem.W.Frag) (m:Nat) (a:Addr):It:=
 ⟨fun i H=>∃xs x,SqL K H a xs/\xs[i]?=some x,fun i H v H'=>∃t x,(∀xs,SqL K H a xs->xs[i]?=some x)/\v=.ref t/\H t=none/\H'=upd H t (.tup [.int ((m+i:Nat):Int),x]),fun i H=>∃xs,SqL K H a xs/\xs.length<=i⟩
def Itz (a b:Addr):It :=
  ⟨fun i H => ∃xs ys x y, H a=some (.tup xs) /\ H b=some (.tup ys) /\ xs[i]?=some x /\ ys[i]?=some y, fun i H v H' => ∃t x y, (∀xs, H a=some (.tup xs) -> xs[i]?=some x) /\ (∀ys, H b=some (.tup ys) -> ys[i]?=some y) /\ v=.ref t /\ H t=none /\ H'=upd H t (.tup [x, y]),
   fun i H => ∃xs ys, H a=some (.tup xs) /\ H b=some (.tup ys) /\ ys.length=xs.length /\ xs.length <= i⟩
noncomputable def aGt (K:PySem.W.Frag) (a:Addr) (n:Nat):It:=
 ⟨fun i H=>∃xs x,SqL K H a xs/\xs.length=n/\i<n/\xs[n-1-i]?=some x,fun i H x H'=>H'=H/\∀xs,SqL K H a xs->xs[n-1-i]?=some x,fun i _=>n<=i⟩
theorem S8 {m:Nat} {xs:List D} {i:Nat}:(zP m xs)[i]?=(xs[i]?).map fun d=>.tup [.int ((m+i:Nat):Int),d]:=by
 unfold zP;rw [List.getElem?_map,List.getElem?_zipIdx,Nat.zero_add];cases xs[i]? <;> rfl
theorem S9 {xs:List D} {i:Nat}:(zO xs)[i]?=(xs[i]?).map fun d=>.tup [.int i,d]:=by
 unfold zO;rw [List.getElem?_map,List.getElem?_zipIdx,Nat.zero_add];cases xs[i]? <;> rfl
theorem NP (xs:List D):(zO xs).length=xs.length:=by simp [zO]
inductive ItQ (K:PySem.W.Frag) (P:Addr->Prop) (J:It) (H:Hp) (items:List D):Prop
 | lst (a:Addr) (e:J=Itl K a) (r:Rep P H (.ref a) (.lst items))
 | tup (a:Addr) (e:J=Itt K a) (r:Rep P H (.ref a) (.tup items))
 | rng (lo:Int) (n:Nat) (e:J=Itr lo n) (r:items=(List.range n).map fun (k:Nat)=>D.int (lo+k))
 | chs (x:Str) (e:J=aF6 x) (r:items=jR x)
 | enm (a:Addr) (ds:List D) (e:J=Ite K a) (r:Rep P H (.ref a) (.lst ds)) (h:items=zO ds)
 | enf (m:Nat) (a:Addr) (ds:List D) (e:J=aG3 K m a) (r:Rep P H (.ref a) (.lst ds)) (h:items=zP m ds)
 | rev (a:Addr) (ds:List D) (e:J=aGt K a ds.length) (r:Rep P H (.ref a) (.lst ds)) (h:items=ds.reverse)
 | scr (a:Addr) (hK:KFrag.K=K) (e:J=Itl K a) (r:Rep P H (.ref a) (.scr items))
 | zip (a b:Addr) (ds es:List D) (e:J=Itz a b) (r:Rep P H (.ref a) (.tup ds)) (q:Rep P H (.ref b) (.tup es)) (n:es.length=ds.length) (h:items=aE6 ds es)
theorem ItQ.keep {K:PySem.W.Frag} {P P':Addr->Prop} {J:It} {H H':Hp} {items:List D} (h:ItQ K P J H items) (k:SQ P H H') (m:∀a,P a->P' a):ItQ K P' J H' items:=by
 cases h with
 | lst a e r=>exact .lst a e (r.keep k m)
 | tup a e r=>exact .tup a e (r.keep k m)
 | rng lo n e r=>exact .rng lo n e r
 | chs x e r=>exact .chs x e r
 | enm a ds e r h=>exact .enm a ds e (r.keep k m) h
 | enf m' a ds e r h=>exact .enf m' a ds e (r.keep k m) h
 | zip a b ds es e r q n h=>exact .zip a b ds es e (r.keep k m) (q.keep k m) n h
 | rev a ds e r h=>exact .rev a ds e (r.keep k m) h
 | scr a hK e r=>exact .scr a hK e (r.keep k m)
theorem ItQ.stop {K:PySem.W.Frag} {P:Addr->Prop} {J:It} {H:Hp} {items:List D} {i:Nat} (h:ItQ K P J H items) (hi:items.length<=i):J.stop i H:=by
 cases h with
 | lst a e r=>
  subst e;obtain ⟨a',xs,e,hq,rr⟩:=r.fK (K:=K);cases e;exact ⟨xs,hq,by rw [rr.length];exact hi⟩
 | tup a e r=>
  subst e;obtain ⟨a',xs,e,hq,rr⟩:=r.eZ;cases e;exact ⟨xs,.of hq,by rw [rr.length];exact hi⟩
 | rng lo n e r=>
  subst e r;show n<=i;simpa using hi
 | chs x e r=>
  subst e r;show x.cps.size<=i;simpa [jR] using hi
 | enm a ds e r h=>
  subst e h;obtain ⟨a',xs,e,hq,rr⟩:=r.fK (K:=K);cases e;exact ⟨xs,hq,by rw [rr.length,<-NP];exact hi⟩
 | enf m a ds e r h=>
  subst e h;obtain ⟨a',xs,e,hq,rr⟩:=r.fK (K:=K);cases e;exact ⟨xs,hq,by rw [rr.length];simpa [zP] using hi⟩
 | zip a b ds es e r q n h=>
  subst e h;obtain ⟨a',xs,e,hq,rr⟩:=r.eZ;cases e;obtain ⟨b',ys,e,hq2,rr2⟩:=q.eZ;cases e;have:(aE6 ds es).length=ds.length:=by simp [aE6,n]
  exact ⟨xs,ys,hq,hq2,by rw [rr.length,rr2.length];exact n,by rw [rr.length];lia⟩
 | rev a ds e r h=>
  subst e h;rw [List.length_reverse] at hi;exact hi
 | scr a hK e r=>
  subst e;cases r with
  | frz ee rr=>exact ⟨_,ee.sq hK,by rw [rr.length];exact hi⟩
theorem ItQ.go {K:PySem.W.Frag} {P:Addr->Prop} {J:It} {H:Hp} {items:List D} {i:Nat} {d:D} (h:ItQ K P J H items) (hi:items[i]?=some d):J.go i H/\∀x H',J.yld i H x H'->cN H H'/\Rep P H' x d:=by
 cases h with
 | lst a e r=>
  subst e;obtain ⟨a',xs,e,hq,rr⟩:=r.fK (K:=K);cases e;obtain ⟨v,h1,h2⟩:=rr.get hi;refine ⟨⟨xs,v,hq,h1⟩,fun x H' ⟨e,hy⟩=>?_⟩;subst e;refine ⟨cN.refl _,?_⟩;have:=hy xs hq;rw [h1] at this;cases this;exact h2
 | tup a e r=>
  subst e;obtain ⟨a',xs,e,hq,rr⟩:=r.eZ;cases e;obtain ⟨v,h1,h2⟩:=rr.get hi;refine ⟨⟨xs,v,.of hq,h1⟩,fun x H' ⟨e,hy⟩=>?_⟩;subst e;refine ⟨cN.refl _,?_⟩;have:=hy xs (.of hq);rw [h1] at this;cases this;exact h2
 | rng lo n e r=>
  subst e r;have hlt:i<n:=by
   have:=(List.getElem?_eq_some_iff.mp hi).1;simpa using this
  refine ⟨hlt,fun x H' ⟨e,hy⟩=>?_⟩;subst e;have e2:D.int (lo+(i:Int))=d:=by simpa [hlt] using hi
  rw [hy,<-e2];exact ⟨cN.refl _,.int _⟩
 | chs z e r=>
  subst e r;have hlt:i<z.cps.size:=by
   have:=(List.getElem?_eq_some_iff.mp hi).1;simpa [jR] using this
  refine ⟨hlt,fun x H' ⟨e,c,hc,hv⟩=>?_⟩;subst e hv;refine ⟨cN.refl _,?_⟩;have e2:D.str ⟨#[c]⟩=d:=by
   unfold jR at hi;rw [List.getElem?_map,Array.getElem?_toList,hc] at hi;simpa using hi
  rw [<-e2];exact .str _
 | enm a ds e r h=>
  subst e h;obtain ⟨a',xs,e,hq,rr⟩:=r.fK (K:=K);cases e;rw [S9] at hi;cases hd:ds[i]? with
  | none=>rw [hd] at hi;cases hi
  | some y=>
   rw [hd] at hi;cases hi;obtain ⟨v,h1,h2⟩:=rr.get hd;refine ⟨⟨xs,v,hq,h1⟩,fun x H' ⟨t,u,hy,e1,e2,e3⟩=>?_⟩;subst e1 e3;have:=hy xs hq;rw [h1] at this;cases this;have sp:cN H (upd H t (.tup [.int i,v])):=cN.upd e2;exact ⟨sp,.tup aH (.cons (.int _) (.cons (h2.same sp) .nil))⟩
 | enf m a ds e r h=>
  subst e h;obtain ⟨a',xs,e,hq,rr⟩:=r.fK (K:=K);cases e;rw [S8] at hi;obtain ⟨y,hd,rfl⟩:=Option.map_eq_some_iff.mp hi;obtain ⟨v,h1,h2⟩:=rr.get hd;refine ⟨⟨xs,v,hq,h1⟩,fun x H' ⟨t,u,hy,e1,e2,e3⟩=>?_⟩;subst e1 e3;have:=hy xs hq;rw [h1] at this;cases this;have sp:cN H (upd H t (.tup [.int ((m+i:Nat):Int),v])):=cN.upd e2;exact ⟨sp,.tup aH (.cons (.int _) (.cons (h2.same sp) .nil))⟩
 | zip a b ds es e r q n h=>
  subst e h;obtain ⟨a',xs,e,hq,rr⟩:=r.eZ;cases e;obtain ⟨b',ys,e,hq2,rr2⟩:=q.eZ;cases e;unfold aE6 at hi;rw [List.getElem?_map] at hi;obtain ⟨⟨x,y⟩,hd,rfl⟩:=Option.map_eq_some_iff.mp hi;rw [List.getElem?_zip_eq_some] at hd;obtain ⟨v,h1,h2⟩:=rr.get hd.1;obtain ⟨v',h3,h4⟩:=rr2.get hd.2;refine ⟨⟨xs,ys,v,v',hq,hq2,h1,h3⟩,fun x H' ⟨t,u,u',hy,hy',e1,e2,e3⟩=>?_⟩;subst e1 e3;have z:=hy xs hq;rw [h1] at z;cases z;have z:=hy' ys hq2;rw [h3] at z;cases z;have sp:cN H (upd H t (.tup [v,v'])):=cN.upd e2;exact ⟨sp,.tup aH (.cons (h2.same sp) (.cons (h4.same sp) .nil))⟩
 | rev a ds e r h=>
  subst e h;obtain ⟨a',xs,e,hq,rr⟩:=r.fK (K:=K);cases e;have hl:i<ds.length:=by
   rcases Nat.lt_or_ge i ds.length with z|z
   ·exact z
   ·rw [List.getElem?_eq_none (by rw [List.length_reverse];exact z)] at hi;cases hi
  rw [List.getElem?_reverse hl] at hi;obtain ⟨v,h1,h2⟩:=rr.get hi;refine ⟨⟨xs,v,hq,rr.length,hl,h1⟩,fun x H' ⟨e,hy⟩=>?_⟩;subst e;have:=hy xs hq;rw [h1] at this;cases this;exact ⟨cN.refl _,h2⟩
 | scr a hK e r=>
  subst e;cases r with
  | @frz _ xs _ ee rr=>
   obtain ⟨v,h1,h2⟩:=rr.get hi;refine ⟨⟨xs,v,ee.sq hK,h1⟩,fun x H' ⟨e,hy⟩=>?_⟩;subst e;refine ⟨cN.refl _,?_⟩;have:=hy xs (ee.sq hK);rw [h1] at this;cases this;exact h2
noncomputable def gI (K:PySem.W.Frag) (f:FI):TI:=fun σ H R=>∃ρ items k,ER H σ ρ/\f ρ=.ok (items,k)/\∀J H1,cN H H1->ItQ K All J H1 items->(k=true->ItQ K (New H) J H1 items)->R J H1
section
variable {X:Cx} {tg l a b:Expr} {rr:Bool} {fs:FA} {p pos:Pos}
theorem S_ {pins:List (Addr×Obj)} {s1:Shared} {σ:L2.St} {H1:Hp} {R:It->Hp->Prop} {v:V} {u:Value} {d:D} {items:List D} (I1:Inv X pins σ H1 s1) (r:Rep All H1 v d) (ru:RelV v u) (hi:CN d=.ok items)
  (q:∀J,(∀P:Addr->Prop,Rep P H1 v d->ItQ X.K P J H1 items)->R J H1):wpAny (model X.prog X.w) X.A (pyIter u) (PIE X pins σ tg R) X.xe s1:=by
 cases d <;> simp only [CN] at hi <;> cases hi
 ·obtain ⟨a,xs,rfl,e,rr⟩:=r.eZ;cases ru;obtain ⟨its,rv,p,hz⟩:=I1.tuple (.of e);refine wpAny_pyIter_tuple (show s1.heap.IsTuple a its.toArray from p) ?_;refine ⟨s1.heap.objs.size,[s1.heap.objs.size],_,_,H1,rfl,I1.kept (t':=s1.toks) fun b o e=>Heap.get?_push_of_some _ e,HN a _,⟨_,Heap.get?_push_size _ rfl,rfl,rfl⟩,fun b hb=>?_,q _ fun P r=>.tup a rfl r⟩;have e:b=s1.heap.objs.size:=by simpa using hb
  subst e;exact I1.V6 (Nat.le_refl _) (I1.hok.fresh (Nat.le_refl _))
 ·obtain ⟨a,xs,rfl,e,rr⟩:=r.fK (K:=X.K);cases ru;obtain ⟨its,rv,p,hz⟩:=I1.list e;refine wpAny_pyIter_list p.isList ?_;refine ⟨s1.heap.objs.size,[s1.heap.objs.size],_,_,H1,rfl,I1.kept (t':=s1.toks) fun b o e=>Heap.get?_push_of_some _ e,K1 a _,⟨_,Heap.get?_push_size _ rfl,rfl,rfl⟩,fun b hb=>?_,q _ fun P r=>.lst a rfl r⟩;have e:b=s1.heap.objs.size:=by simpa using hb
  subst e;exact I1.V6 (Nat.le_refl _) (I1.hok.fresh (Nat.le_refl _))
theorem JG {i:Int} (h:oK i=true):-(2 ^ 62)<=i/\i<2 ^ 62:=by
 simp only [oK,Bool.and_eq_true,decide_eq_true_eq] at h;exact h
theorem PI.imp {w w':TI} (h:PI X tg l w) (i:∀σ H R,w' σ H R->w σ H R):PI X tg l w':=fun pins s σ H R I q=>h pins s σ H R I (i σ H R q)
theorem NT (hg:Gl X "range") (hm:X.mg "range" = none) (ha:PA X [a] (gA fs rr)) (hs:starEach [a] X.env=[(false,eval a X.env)]:=by rfl):PI X tg (.Call (.Name "range" p) [a] [] pos) (gI X.K (M4 fs IV)):=
 PI.imp (K3 hg hm ha hs) fun σ H R ⟨ρ,items,k,E,h,q⟩=>by
  obtain ⟨xs,h1,h⟩:=bH h;unfold IV at h;split at h
  ·split at h
   ·rename_i hb;cases h;obtain ⟨b1,b2⟩:=JG hb;refine ⟨ρ,_,E,h1,fun vs H1 s1 r1 _=>?_⟩;cases r1 with
    | cons r t=>
     cases t;cases r;exact ⟨_,rfl,b1,b2,q _ H1 s1 (.rng 0 _ rfl rfl) fun _=>.rng 0 _ rfl rfl⟩
   ·cases h
  ·cases h
end
theorem TF (n:Nat) (ρ bs:List D) (i:Nat) (h:i<n):(CP n ρ++bs).getD i .uD=ρ.getD i .uD:=by
 rw [List.getD_eq_getElem?_getD,List.getElem?_append_left (by simp [CP];exact h)];simp [CP,h]
theorem DX (n:Nat) (ρ:List D):(CP n ρ).length=n:=by simp [CP]
def TgC (g:TG) (t:D->Res (List D)) (n m:Nat):Prop:=∀(v:V) (d:D) (bs:List D) (σ:L2.St) (H:Hp) (Q:L2.St->Hp->Prop),σ.length=n->Rep All H v d->t d=.ok bs->
 (∀σ2,Ext (σ++List.replicate m none) σ2->(∀j b,bs[j]?=some b->∃w,σ2[n+j]?=some (some w)/\Rep All H w b)->Q σ2 H)->g v (σ++List.replicate m none) H Q
theorem ER.ext {H:Hp} {σ σ2:L2.St} {ρ bs:List D} {n m:Nat} (E:ER H σ ρ) (hn:σ.length=n) (x:Ext (σ++List.replicate m none) σ2) (hb:∀j b,bs[j]?=some b->∃w,σ2[n+j]?=some (some w)/\Rep All H w b):ER H σ2 (CP n ρ++bs):=by
 intro i hi;by_cases h:i<n
 ·rw [TF n ρ bs i h] at hi ⊢;obtain ⟨v,h1,h2⟩:=E i hi;exact ⟨v,x.2 i v (by rw [List.getElem?_append_left (by rw [hn];exact h)];exact h1),h2⟩
 ·have e:(CP n ρ++bs).getD i .uD=bs.getD (i-n) .uD:=by
   rw [List.getD_eq_getElem?_getD,List.getElem?_append_right (by rw [DX];lia),DX,<-List.getD_eq_getElem?_getD]
  rw [e] at hi ⊢;cases hq:bs[i-n]? with
  | none=>rw [List.getD_eq_getElem?_getD,hq] at hi;exact absurd rfl hi
  | some b=>
   obtain ⟨w,h1,h2⟩:=hb (i-n) b hq;rw [List.getD_eq_getElem?_getD,hq];exact ⟨w,by rw [<-h1];congr 1;lia,h2⟩
theorem NZ {K:PySem.W.Frag} {it:FI} {t:D->Res (List D)} {c:FT} {f:FE} {k:Bool} {n m:Nat} {g:TG} {tc:TT} (tg:TgC g t n m) (hc:∀σ H Q,gT c σ H Q->tc σ H Q) {σ:L2.St} {H:Hp} {Q:VK} (hn:σ.length=n) (h:gE (vO n it t c f k) true σ H Q) :
  ZF (gI K it) g tc (gE f k) m σ H Q:=by
 obtain ⟨ρ,d,E,h,q⟩:=h;obtain ⟨⟨items,kk⟩,h1,h⟩:=bH h;split at h
 ·rename_i hlim;obtain ⟨ys,h2,h⟩:=bH h;cases h;refine ⟨ρ,items,kk,E,h1,fun J H1 s1 hJ _ p hp=>?_⟩;have hp0:H p=none:=s1.free hp;refine ⟨fun i n' vs H'=>n'=items.length-i/\i<=items.length/\H' p=some (.lst vs)/\cN H1 H'/\∃acc,acc.length<=i/\bV (fun a=>H a=none/\a≠p) H' vs acc/\gQ (mZ n t c f k ρ) acc (items.drop i)=.ok ys,⟨items.length,?_⟩,?_⟩
  ·exact ⟨rfl,Nat.zero_le _,aH,cN.upd hp,[],Nat.zero_le _,.nil,h2⟩
  ·rintro i n' vs H' ⟨rfl,hi,hH,sm,acc,hal,racc,hf⟩;refine ⟨hH,?_⟩;have hJ':ItQ K All J H' items:=hJ.keep (.same sm) fun _ z=>z
   rcases Nat.lt_or_ge i items.length with hlt|hge
   ·refine .inr ?_;have e:items[i]?=some items[i]:=List.getElem?_eq_getElem hlt;obtain ⟨g1,g2⟩:=hJ'.go e;have hl1:items.length<=lim:=of_decide_eq_true hlim;refine ⟨g1,?_,fun x H2 hy=>?_⟩
    ·rw [racc.length];exact Nat.lt_of_le_of_lt hal (Nat.lt_of_lt_of_le hlt (Nat.le_trans hl1 (by rw [sizeLine_eq];decide)))
    ·obtain ⟨sH,rx⟩:=g2 x H2 hy;have hH:=sH p _ hH;have sm:=sm.trans sH;have racc:=racc.same sH;rw [List.drop_eq_getElem_cons hlt] at hf;obtain ⟨acc2,hs,hf⟩:=bH hf;obtain ⟨bs,hb,hs⟩:=bH hs;obtain ⟨ok,hok,hs⟩:=bH hs;refine tg x items[i] bs σ H2 _ hn rx hb fun σ2 hx hbs=>⟨hx,hc _ _ _ ?_⟩
     have E2:ER H2 σ2 (CP n ρ++bs):=(E.same (s1.trans sm)).ext hn hx hbs;refine ⟨_,ok,E2,hok,fun H4 s4=>?_⟩;cases ok with
     | true=>
      rw [if_pos rfl];rw [if_pos rfl] at hs;obtain ⟨y,hy2,hs⟩:=bH hs;split at hs
      ·rename_i hk;cases hs;refine ⟨_,y,E2.same s4,hy2,fun w H5 s5 r5 n5=>⟨s5 p _ (s4 p _ hH),items.length-(i+1),by lia,rfl,hlt,aH,?_,acc++[y],?_,?_,hf⟩⟩
       ·exact fun b o e=>by
         rw [aR (bQ e hp)];exact s5 b o (s4 b o (sm b o e))
       ·rw [List.length_append,List.length_singleton];lia
       ·have hp5:H5 p=some (.lst vs):=s5 p _ (s4 p _ hH);have ry:Rep (fun a=>H a=none/\a≠p) H5 w y:=by
         rw [Bool.or_eq_true] at hk;rcases hk with hk|hk
         ·exact (n5 hk).mono fun a ha=>⟨((s1.trans sm).trans s4).free ha,fun z=>by subst z;have h0:=s4 _ _ hH;rw [show H4 _=none from ha] at h0;cases h0⟩
         ·exact r5.cP hk
        have all:bV (fun a=>H a=none/\a≠p) H5 (vs++[w]) (acc++[y]):=(racc.same (s4.trans s5)).snoc ry;refine all.keep (fun b o e hb=>?_) fun _ z=>z
        rw [aR]
        ·exact e
        ·rcases hb with hb|hb
         ·exact hb.2
         ·intro z;subst z;rw [hp5] at e;cases e;cases hb
      ·cases hs
     | false=>
      rw [if_neg (by simp)];rw [if_neg (by simp)] at hs;cases hs;exact ⟨items.length-(i+1),by lia,rfl,hlt,s4 p _ hH,sm.trans s4,acc,by lia,racc.same s4,hf⟩
   ·refine .inl ⟨hJ'.stop hge,?_⟩;rw [List.drop_eq_nil_of_le hge] at hf;cases hf;exact q _ _ (s1.trans sm) (.lst hH trivial racc.all) fun _=>.lst hH hp0 (racc.mono fun a z=>z.1)
 ·cases h
def gIx:List Nat->TGs
 | []=>aFt
 | i::is=>aBv (KR i) (gIx is)
noncomputable def vX:List Nat->List V->L2.St->L2.St
 | i::is,v::vs,σ=>vX is vs (σ.set i (some v))
 | _,_,σ=>σ
theorem zQ {H:Hp} {Q:L2.St->Hp->Prop}:∀(is:List Nat) (vs:List V) (σ:L2.St),vs.length=is.length->Q (vX is vs σ) H->gIx is vs σ H Q
 | [],[],σ,_,q=>⟨rfl,q⟩
 | i::is,v::vs,σ,h,q=>⟨v,vs,rfl,zQ is vs (σ.set i (some v)) (by simpa using h) q⟩
 | [],_::_,_,h,_=>by simp at h
 | _::_,[],_,h,_=>by simp at h
theorem vY (n:Nat):TgC (KR n) M5 n 1:=by
 intro v d bs σ H Q hn r h q;cases h;have hl:(σ++List.replicate 1 (none:Option V)).length=n+1:=by simp [hn]
 refine q _ ⟨by simp,fun i w hi=>?_⟩ fun j b hj=>?_
 ·have:i≠n:=fun z=>by
   subst z;rw [List.getElem?_append_right (by lia)] at hi;simp [hn] at hi
  rw [List.getElem?_set_ne (Ne.symm this)];exact hi
 ·have e:j=0:=by
   have:=(List.getElem?_eq_some_iff.mp hj).1;simp at this;exact this
  subst e;have e:d=b:=by simpa using hj
  subst e;exact ⟨v,by rw [Nat.add_zero,List.getElem?_set_self (by lia)],r⟩
section
variable {X:Cx} {scope:Scope} {ownN:List Str} {elt iter tg:Expr} {it:FI} {t:D->Res (List D)} {g:TG} {fe:FE} {re:Bool} {pos:Pos}
theorem ZW {n m:Nat} (S:j_ X.N X.env.scope scope ownN) (hn:X.N.length=n) (hm:ownN.length=m) (hcalm:X.calm=true) (hi:PI X tg iter (gI X.K it)) (ht:TgC g t n m) (hg:∀X',jQ X X' scope ownN->PG X' tg g) (he:∀X',jQ X X' scope ownN->PE X' elt (gE fe re))
  (hs:∀x,foldedSetIterable iter X.env x=pure x):PE X (.ListComp elt [⟨tg,iter,[],0⟩] scope pos) (gE (vO n it t lL fe re) true):=by
 intro pins s σ H Q I h;subst hm;exact S5 S hcalm hi hg he hs pins s σ H Q I (NZ ht (fun σ H Q h=>by obtain ⟨ρ,b,E,h,q⟩:=h;cases h;exact q H (cN.refl H)) (I.len.trans hn) h)
end
mutual
theorem Rep.dom {P:Addr->Prop} {H:Hp}:∀{v:V} {d:D},Rep P H v d->Rep (fun a=>P a/\H a≠none) H v d
 | _,_,.non=>.non
 | _,_,.bl b=>.bl b
 | _,_,.int i=>.int i
 | _,_,.str x=>.str x
 | _,_,.tup e r=>.tup e (bV.dom r)
 | _,_,.lst e p r=>.lst e ⟨p,by rw [e];simp⟩ (bV.dom r)
 | _,_,.cel e p r=>.cel e ⟨p,by rw [e];simp⟩ (bV.dom r)
 | _,_,.frz e r=>.frz e (bV.dom r)
 | _,_,.dK e p r n=>.dK e ⟨p,by rw [e];simp⟩ (m7.dom r) n
 | _,_,.dT e p r n=>.dT e ⟨p,by rw [e];simp⟩ (uA.dom r) n
 | _,_,.fdK e r n=>.fdK e (m7.dom r) n
 | _,_,.fdT e r n=>.fdT e (uA.dom r) n
 | _,_,.exc n e q=>.exc n e q
 | _,_,.ins n e q=>.ins n e (CQ.dom q)
theorem CQ.dom {P:Addr->Prop} {H:Hp}:∀{v:List (Str×V)} {d:List (Str×D)},CQ P H v d->CQ (fun a=>P a/\H a≠none) H v d
 | _,_,.nil=>.nil
 | _,_,.cons r t=>.cons (Rep.dom r) (CQ.dom t)
theorem bV.dom {P:Addr->Prop} {H:Hp}:∀{v:List V} {d:List D},bV P H v d->bV (fun a=>P a/\H a≠none) H v d
 | _,_,.nil=>.nil
 | _,_,.cons r t=>.cons (Rep.dom r) (bV.dom t)
theorem m7.dom {P:Addr->Prop} {H:Hp}:∀{v:List (Key×V)} {d:List (D×D)},m7 P H v d->m7 (fun a=>P a/\H a≠none) H v d
 | _,_,.nil=>.nil
 | _,_,.cons r t=>.cons (Rep.dom r) (m7.dom t)
theorem uA.dom {P:Addr->Prop} {H:Hp}:∀{v:List (List Key×V)} {d:List (D×D)},uA P H v d->uA (fun a=>P a/\H a≠none) H v d
 | _,_,.nil=>.nil
 | _,_,.cons r t=>.cons (Rep.dom r) (uA.dom t)
end
theorem m7.cP {P P':Addr->Prop} {H:Hp}:∀{v:List (Key×V)} {d:List (D×D)},m7 P H v d->D.bU (d.map (·.2))=true->m7 P' H v d
 | _,_,.nil,_=>.nil
 | _,_,.cons r t,h=>by
  rw [List.map_cons,D.bU,Bool.and_eq_true] at h;exact .cons (r.cP h.1) (t.cP h.2)
theorem uA.cP {P P':Addr->Prop} {H:Hp}:∀{v:List (List Key×V)} {d:List (D×D)},uA P H v d->D.bU (d.map (·.2))=true->uA P' H v d
 | _,_,.nil,_=>.nil
 | _,_,.cons r t,h=>by
  rw [List.map_cons,D.bU,Bool.and_eq_true] at h;exact .cons (r.cP h.1) (t.cP h.2)
theorem Rep.aE7 {P P':Addr->Prop} {H:Hp} {a:Addr} {d:D} (r:Rep P H (.ref a) d) (h:inner d=true) (hp:P' a):Rep P' H (.ref a) d:=by
 cases r with
 | tup e r=>cases h
 | lst e p r=>exact .lst e hp (r.cP h)
 | cel e p r=>exact .cel e hp (r.cP h)
 | frz e r=>cases h
 | dK e p r n=>exact .dK e hp (r.cP h) n
 | dT e p r n=>exact .dT e hp (r.cP h) n
 | fdK e r n=>cases h
 | fdT e r n=>cases h
 | exc n e q=>cases h
 | ins n e q=>cases h
def Own (own:Nat->Bool) (σ:L2.St) (a:Addr):Prop:=∃i,own i=true/\σ[i]?=some (some (.ref a))
structure ES (own:Nat->Bool) (H:Hp) (σ:L2.St) (ρ:List D):Prop where
 len:σ.length=ρ.length
 at_:∀i,ρ.getD i .uD≠.uD->∃v,σ[i]?=some (some v)/\(own i=false->Rep (fun a=>¬Own own σ a) H v (ρ.getD i .uD))
 own:∀i v,own i=true->σ[i]?=some (some v)->∃a o,v=.ref a/\Rep All H v (ρ.getD i .uD)/\inner (ρ.getD i .uD)=true/\H a=some o/\wQ o=true/\∀j,own j=true->σ[j]?=some (some (.ref a))->j=i
variable {own:Nat->Bool}
theorem ES.er {H:Hp} {σ:L2.St} {ρ:List D} (e:ES own H σ ρ):ER H σ ρ:=fun i hi=>by
 obtain ⟨v,h1,h2⟩:=e.at_ i hi;cases ho:own i with
 | false=>exact ⟨v,h1,(h2 ho).all⟩
 | true=>
  obtain ⟨a,o,_,h3,_⟩:=e.own i v ho h1;exact ⟨v,h1,h3⟩
theorem ES.live {H:Hp} {σ:L2.St} {ρ:List D} (e:ES own H σ ρ) {a:Addr} (h:Own own σ a):∃o,H a=some o/\wQ o=true:=by
 obtain ⟨i,hi,hs⟩:=h;obtain ⟨b,o,eb,_,_,h3,h4,_⟩:=e.own i _ hi hs;cases eb;exact ⟨o,h3,h4⟩
theorem ES.same {H H':Hp} {σ:L2.St} {ρ:List D} (e:ES own H σ ρ) (s:cN H H'):ES own H' σ ρ:=by
 refine ⟨e.len,fun i hi=>?_,fun i v hi hv=>?_⟩
 ·obtain ⟨v,h1,h2⟩:=e.at_ i hi;exact ⟨v,h1,fun ho=>(h2 ho).same s⟩
 ·obtain ⟨a,o,h1,h2,h3,h4,h5,h6⟩:=e.own i v hi hv;exact ⟨a,o,h1,h2.same s,h3,s _ _ h4,h5,h6⟩
def KU (own:Nat->Bool) (σ:L2.St) (H:Hp) (σ':L2.St) (H':Hp):Prop:=∀a o,H a=some o->¬Own own σ a->H' a=some o/\¬Own own σ' a
theorem KU.trans {σ σ1 σ2:L2.St} {H H1 H2:Hp} (a:KU own σ H σ1 H1) (b:KU own σ1 H1 σ2 H2):KU own σ H σ2 H2:=fun c o e n=>let ⟨e1,n1⟩:=a c o e n;b c o e1 n1
theorem KU.same {σ:L2.St} {H H':Hp} (s:cN H H'):KU own σ H σ H':=fun a o e n=>⟨s a o e,n⟩
theorem KU.keep {σ σ':L2.St} {H H':Hp} {ρ:List D} (k:KU own σ H σ' H') (e:ES own H σ ρ):SQ (fun a=>¬Own own σ a) H H':=fun a o h hp=>by
 by_cases ho:Own own σ a
 ·obtain ⟨o',h1,h2⟩:=e.live ho;rw [h] at h1;cases h1;rcases hp with hp|hp
  ·exact absurd ho hp
  ·rw [h2] at hp;cases hp
 ·exact (k a o h ho).1
theorem KU.rep {σ σ':L2.St} {H H':Hp} {ρ:List D} (k:KU own σ H σ' H') (e:ES own H σ ρ) {v:V} {d:D} (r:Rep (fun a=>¬Own own σ a) H v d):Rep (fun a=>¬Own own σ' a) H' v d:=by
 refine r.dom.keep (P':=fun a=>¬Own own σ' a) (fun a o h hp=>?_) fun a ⟨h1,h2⟩=>?_
 ·refine k.keep e a o h (hp.imp (fun z=>z.1) id)
 ·cases q:H a with
  | none=>exact absurd q h2
  | some o=>exact (k a o q h1).2
def kRt (own:Nat->Bool) (D:Ends) (σ:L2.St) (H:Hp) (d:Mi.D):Prop:=if own rtX=true then ∃d0 ρ',d=.tup (d0::ρ')/\∀v σ' H',KU own σ H σ' H'->ES own H' σ' ρ'->Rep (fun a=>(Own own σ a\/H a=none)/\∀i b xs,ρ'.getD i .uD=.cel b xs->a≠b) H' v d0->D.rt v H'
  else ∀v H',(∀a o,H a=some o->¬Own own σ a->H' a=some o)->Rep (fun a=>Own own σ a\/H a=none) H' v d->D.rt v H'
theorem kRt.old {own:Nat->Bool} {D:Ends} {σ:L2.St} {H:Hp} {d:Mi.D} (h:kRt own D σ H d) (hx:own rtX=false):∀v H',(∀a o,H a=some o->¬Own own σ a->H' a=some o)->Rep (fun a=>Own own σ a\/H a=none) H' v d->D.rt v H':=by
 unfold kRt at h;rw [if_neg (by rw [hx];simp)] at h;exact h
theorem kRt.mk {own:Nat->Bool} {D:Ends} {σ:L2.St} {H:Hp} {d:Mi.D} (hx:own rtX=false) (h:∀v H',(∀a o,H a=some o->¬Own own σ a->H' a=some o)->Rep (fun a=>Own own σ a\/H a=none) H' v d->D.rt v H'):kRt own D σ H d:=by
 unfold kRt;rw [if_neg (by rw [hx];simp)];exact h
def kS (own:Nat->Bool) (D:Ends) (σ:L2.St) (H:Hp):Fl->Prop
 | .nx ρ=>∀σ' H',KU own σ H σ' H'->ES own H' σ' ρ->D.nx σ' H'
 | .bk ρ=>∀σ' H',KU own σ H σ' H'->ES own H' σ' ρ->D.bk σ' H'
 | .ct ρ=>∀σ' H',KU own σ H σ' H'->ES own H' σ' ρ->D.ct σ' H'
 | .rt d=>kRt own D σ H d
theorem kS.step {D:Ends} {σ σ':L2.St} {H H':Hp} {fl:Fl} (k:KU own σ H σ' H') (h:kS own D σ H fl):kS own D σ' H' fl:=by
 cases fl with
 | nx ρ=>exact fun σ2 H2 k2 e=>h σ2 H2 (k.trans k2) e
 | bk ρ=>exact fun σ2 H2 k2 e=>h σ2 H2 (k.trans k2) e
 | ct ρ=>exact fun σ2 H2 k2 e=>h σ2 H2 (k.trans k2) e
 | rt d=>
  have old:∀a,(Own own σ' a\/H' a=none)->Own own σ a\/H a=none:=fun a ha=>by
   cases q:H a with
   | none=>exact .inr rfl
   | some o=>
    refine .inl (Classical.byContradiction fun n=>?_);obtain ⟨e1,n1⟩:=k a o q n;rcases ha with ha|ha
    ·exact n1 ha
    ·rw [e1] at ha;cases ha
  have h:kRt own D σ H d:=h;show kRt own D σ' H' d;unfold kRt at h ⊢;by_cases hx:own rtX=true
  ·rw [if_pos hx] at h ⊢;obtain ⟨d0,ρ',e,g⟩:=h;exact ⟨d0,ρ',e,fun v σ2 H2 k2 E2 r=>g v σ2 H2 (k.trans k2) E2 (r.mono fun a ha=>⟨old a ha.1,ha.2⟩)⟩
  ·rw [if_neg hx] at h ⊢;exact fun v H2 hk r=>h v H2 (fun a o e n=>let ⟨e1,n1⟩:=k a o e n;hk a o e1 n1) (r.mono fun a ha=>old a ha)
noncomputable def tS (own:Nat->Bool) (f:FS):TS:=fun D σ H=>∃ρ fl,ES own H σ ρ/\f ρ=.ok fl/\kS own D σ H fl
theorem PS.imp {X:Cx} {st:Stmt} {t t':TS} (h:PS X st t) (i:∀D σ H,t' D σ H->t D σ H):PS X st t':=fun pins s σ H D I q=>h pins s σ H D I (i D σ H q)
theorem PSs.imp {X:Cx} {st:List Stmt} {t t':TS} (h:PSs X st t) (i:∀D σ H,t' D σ H->t D σ H):PSs X st t':=fun pins s σ H D I q=>h pins s σ H D I (i D σ H q)
section
variable {X:Cx} {a b c e:Expr} {pos pos':Pos} {fe:FE} {re:Bool} {gc:FT} {f g:FS} {st:Stmt} {rest s1 s2:List Stmt}
theorem aY:PSs X [] (tS own d_):=PSs.imp KN fun D σ H ⟨ρ,fl,E,h,q⟩=>by
 cases h;exact q σ H (fun a o e n=>⟨e,n⟩) E
theorem ZX {D:Ends} {σ:L2.St} {H:Hp} (h:tS own (bI f g) D σ H):aE2 (tS own f) (tS own g) D σ H:=by
 obtain ⟨ρ,fl,E,h,q⟩:=h;obtain ⟨r,h1,h2⟩:=bH h;refine ⟨ρ,r,E,h1,?_⟩;cases r with
 | nx ρ'=>exact fun σ' H' k E'=>⟨ρ',fl,E',h2,q.step k⟩
 | bk ρ'=>cases h2;exact q
 | ct ρ'=>cases h2;exact q
 | rt d=>cases h2;exact q
theorem aF (h1:PS X st (tS own f)) (h2:PSs X rest (tS own g)):PSs X (st::rest) (tS own (bI f g)):=PSs.imp (vK h1 h2) fun _ _ _=>ZX
theorem aM (h1:PS X st (tS own f)):PSs X [st] (tS own f):=vL h1
theorem cR (hc:PT X c (gT gc)) (ha:PSs X s1 (tS own f)) (hb:PSs X s2 (tS own g)):PS X (.If c s1 s2 pos) (tS own (sIf gc f g)):=PS.imp (aBu hc ha hb) fun D σ H ⟨ρ,fl,E,h,q⟩=>by
 obtain ⟨k,h1,h2⟩:=bH h;refine ⟨ρ,k,E.er,h1,fun H' s=>?_⟩;cases k with
 | true=>rw [if_pos rfl];rw [if_pos rfl] at h2;exact ⟨ρ,fl,E.same s,h2,q.step (.same s)⟩
 | false=>rw [if_neg (by simp)];rw [if_neg (by simp)] at h2;exact ⟨ρ,fl,E.same s,h2,q.step (.same s)⟩
theorem bL (he:PE X e (gE fe re)) (hx:own rtX=false:=by rfl):PS X (.Return (some e) pos) (tS own (fJ fe re)):=PS.imp (KQ he) fun D σ H ⟨ρ,fl,E,h,q⟩=>by
 obtain ⟨d,h1,h2⟩:=bH h;split at h2
 ·rename_i hk;cases h2;refine ⟨ρ,d,E.er,h1,fun v H' s r n=>q.old hx v H' (fun a o e _=>s a o e) ?_⟩;rw [Bool.or_eq_true] at hk;rcases hk with hk|hk
  ·exact (n hk).mono fun a ha=>.inr ha
  ·exact r.cP hk
 ·cases h2
theorem ZZ {i:Nat} {x:Str} (ho:own i=true) (hN:X.N[i]?=some x) (hv:Vis X.env.scope x) (hd:nDb x:=by decide) (hcd:nCd x:=by decide) (hx:own rtX=false:=by rfl):PS X (.Return (some (.Name x pos')) pos) (tS own (Y_ i)):=
 PS.imp (KQ (fV hN hv hd hcd)) fun D σ H ⟨ρ,fl,E,h,q⟩=>by
 obtain ⟨d,h1,h2⟩:=bH h;cases h2;obtain ⟨v,hv,r,e⟩:=E.er.var h1;obtain ⟨a,o,rfl,r2,hin,_⟩:=E.own i v ho hv;rw [e] at hin;exact ⟨_,hv,q.old hx _ H (fun a o e _=>e) (r.aE7 hin (.inl ⟨i,ho,hv⟩))⟩
theorem lR {σ:L2.St} {i:Nat} {v:V} (ho:own i=false) (a:Addr):Own own (σ.set i (some v)) a↔Own own σ a:=by
 constructor
 ·rintro ⟨j,hj,e⟩;have:i≠j:=fun z=>by subst z;rw [ho] at hj;cases hj
  rw [List.getElem?_set_ne this] at e;exact ⟨j,hj,e⟩
 ·rintro ⟨j,hj,e⟩;have:i≠j:=fun z=>by subst z;rw [ho] at hj;cases hj
  exact ⟨j,hj,by rw [List.getElem?_set_ne this];exact e⟩
theorem bR {ρ:List D} {i j:Nat} {d:D}:(ρ.set i d).getD j .uD=if i=j/\i<ρ.length then d else ρ.getD j .uD:=by
 rw [List.getD_eq_getElem?_getD,List.getD_eq_getElem?_getD,List.getElem?_set];by_cases h:i=j
 ·subst h;by_cases h2:i<ρ.length
  ·simp [h2]
  ·simp [h2]
 ·simp [h]
theorem ES.set {H:Hp} {σ:L2.St} {ρ:List D} {i:Nat} {v:V} {d:D} (E:ES own H σ ρ) (ho:own i=false) (r:Rep (fun a=>¬Own own σ a) H v d):ES own H (σ.set i (some v)) (ρ.set i d):=by
 have hO:(fun a=>¬Own own (σ.set i (some v)) a)=fun a=>¬Own own σ a:=funext fun a=>by rw [lR ho]
 refine ⟨by simp [E.len],fun j hj=>?_,fun j w hj hw=>?_⟩
 ·rw [bR] at hj ⊢;rw [hO];by_cases h:i=j/\i<ρ.length
  ·rw [if_pos h];obtain ⟨rfl,hl⟩:=h;exact ⟨v,by rw [List.getElem?_set_self (by rw [E.len];exact hl)],fun _=>r⟩
  ·rw [if_neg h] at hj ⊢;obtain ⟨w,h1,h2⟩:=E.at_ j hj;by_cases hij:i=j
   ·subst hij;have:i<σ.length:=(List.getElem?_eq_some_iff.mp h1).1;rw [E.len] at this;exact absurd ⟨rfl,this⟩ h
   ·exact ⟨w,by rw [List.getElem?_set_ne hij];exact h1,h2⟩
 ·have hij:i≠j:=fun z=>by subst z;rw [ho] at hj;cases hj
  rw [List.getElem?_set_ne hij] at hw;rw [bR,if_neg fun z=>hij z.1];obtain ⟨a,o,h1,h2,h3,h4,h5,h6⟩:=E.own j w hj hw;refine ⟨a,o,h1,h2,h3,h4,h5,fun k hk hs=>h6 k hk ?_⟩;have hik:i≠k:=fun z=>by subst z;rw [ho] at hk;cases hk
  rwa [List.getElem?_set_ne hik] at hs
theorem ES.aGu {H H':Hp} {σ:L2.St} {ρ:List D} {i:Nat} {a:Addr} {o:HO} {d:D} (E:ES own H σ ρ) (s:cN H H') (ho:own i=true) (hn:H a=none) (r:Rep All H' (.ref a) d) (hin:inner d=true) (ha:H' a=some o) (hm:wQ o=true) :
  ES own H' (σ.set i (some (.ref a))) (ρ.set i d)/\KU own σ H (σ.set i (some (.ref a))) H':=by
 have hO:∀b,H b≠none->¬Own own σ b->¬Own own (σ.set i (some (.ref a))) b:=fun b hb n ⟨j,hj,e⟩=>by
  by_cases hij:i=j
  ·subst hij;by_cases hl:i<σ.length
   ·rw [List.getElem?_set_self hl] at e;cases e;exact hb hn
   ·rw [List.getElem?_set,if_pos rfl,if_neg hl] at e;cases e
  ·rw [List.getElem?_set_ne hij] at e;exact n ⟨j,hj,e⟩
 refine ⟨⟨by simp [E.len],fun j hj=>?_,fun j w hj hw=>?_⟩,fun b ob e n=>⟨s b ob e,hO b (by rw [e];simp) n⟩⟩
 ·rw [bR] at hj ⊢;by_cases h:i=j/\i<ρ.length
  ·rw [if_pos h];obtain ⟨rfl,hl⟩:=h;exact ⟨.ref a,by rw [List.getElem?_set_self (by rw [E.len];exact hl)],fun z=>by rw [ho] at z;cases z⟩
  ·rw [if_neg h] at hj ⊢;obtain ⟨w,h1,h2⟩:=E.at_ j hj;by_cases hij:i=j
   ·subst hij;have:i<σ.length:=(List.getElem?_eq_some_iff.mp h1).1;rw [E.len] at this;exact absurd ⟨rfl,this⟩ h
   ·exact ⟨w,by rw [List.getElem?_set_ne hij];exact h1,fun hj=>((h2 hj).dom.same s).mono fun b ⟨n,hb⟩=>hO b hb n⟩
 ·by_cases hij:i=j
  ·subst hij;have hl:i<σ.length:=by
    have:=(List.getElem?_eq_some_iff.mp hw).1;simpa using this
   rw [List.getElem?_set_self hl] at hw;cases hw;rw [bR,if_pos ⟨rfl,by rw [<-E.len];exact hl⟩];refine ⟨a,o,rfl,r,hin,ha,hm,fun k hk hs=>?_⟩;by_cases hik:i=k
   ·exact hik.symm
   ·rw [List.getElem?_set_ne hik] at hs;obtain ⟨o',h1,_⟩:=E.live ⟨k,hk,hs⟩;rw [hn] at h1;cases h1
  ·rw [List.getElem?_set_ne hij] at hw;rw [bR,if_neg fun z=>hij z.1];obtain ⟨b,ob,h1,h2,h3,h4,h5,h6⟩:=E.own j w hj hw;refine ⟨b,ob,h1,h2.same s,h3,s _ _ h4,h5,fun k hk hs=>?_⟩;by_cases hik:i=k
   ·subst hik;by_cases hl:i<σ.length
    ·rw [List.getElem?_set_self hl] at hs;cases hs;rw [hn] at h4;cases h4
    ·rw [List.getElem?_set,if_pos rfl,if_neg hl] at hs;cases hs
   ·rw [List.getElem?_set_ne hik] at hs;exact h6 k hk hs
theorem aCv {P:Addr->Prop} {H:Hp} {v:V} {d:D} (r:Rep P H v d) (hin:inner d=true):∃a o,v=.ref a/\P a/\H a=some o/\wQ o=true:=by
 cases r with
 | lst e p r=>exact ⟨_,_,rfl,p,e,rfl⟩
 | cel e p r=>exact ⟨_,_,rfl,p,e,rfl⟩
 | dK e p r n=>exact ⟨_,_,rfl,p,e,rfl⟩
 | dT e p r n=>exact ⟨_,_,rfl,p,e,rfl⟩
 | fdK e r n=>cases hin
 | fdT e r n=>cases hin
 | _=>cases hin
theorem Z0 {H H':Hp} {σ:L2.St} {ρ:List D} (E:ES own H σ ρ) {v:V} {d:D} (r:Rep (New H) H' v d):Rep (fun a=>¬Own own σ a) H' v d:=r.mono fun a ha ho=>by
 obtain ⟨o,h1,_⟩:=E.live ho;rw [show H a=none from ha] at h1;cases h1
theorem Z1 {o:Bool} {i:Nat} {D':Ends} {σ:L2.St} {H:Hp} (ho:own i=o) (h:tS own (dI o i fe re) D' σ H):aFu (gE fe re) (KR i) D' σ H:=by
 obtain ⟨ρ,fl,E,h,q⟩:=h;obtain ⟨d,h1,h2⟩:=bH h;cases o with
 | true=>
  simp only [if_true] at h2;split at h2
  ·rename_i hk;cases h2;refine ⟨ρ,d,E.er,h1,fun v H' s r n=>?_⟩;rw [Bool.and_eq_true] at hk;obtain ⟨a,ob,rfl,hn,ha,hm⟩:=aCv (n hk.1) hk.2;obtain ⟨E2,k⟩:=E.aGu s ho hn r hk.2 ha hm;exact q _ H' k E2
  ·cases h2
 | false=>
  simp only [Bool.false_eq_true,if_false] at h2;split at h2
  ·rename_i hk;cases h2;refine ⟨ρ,d,E.er,h1,fun v H' s r n=>?_⟩;rw [Bool.or_eq_true] at hk;have r2:Rep (fun a=>¬Own own σ a) H' v d:=by
    rcases hk with hk|hk
    ·exact Z0 E (n hk)
    ·exact r.cP hk
   exact q _ H' (fun a ob e hn=>⟨s a ob e,by rw [lR ho];exact hn⟩) ((E.same s).set ho r2)
  ·cases h2
theorem bZ {i:Nat} {x:Str} {o:Bool} (ho:own i=o) (hN:X.N.Nodup) (hi:X.N[i]?=some x) (hx:Loc X.env.scope x) (he:PE X e (gE fe re)) (hs:swapsWith e (some (.Name x pos')) pos.line X.env=pure false:=by rfl) (hf:X.fn x=true\/X.env.scope.names.lookup x=some .local:=by first|exact .inl rfl|exact .inr rfl|assumption) :
  PS X (.Assign [.Name x pos'] e pos) (tS own (dI o i fe re)):=PS.imp (BZ hN hi hx he hs hf) fun _ _ _=>Z1 ho
theorem aGv {i:Nat} {x:Str} {o:Bool} (he:PE X e (gE fe re)) (ho:own i=o:=by rfl) (hN:X.N.Nodup:=by assumption) (hi:X.N[i]?=some x:=by exact rfl) (hx:Loc X.env.scope x:=by trivial) (hs:swapsWith e (some (.Name x pos')) pos.line X.env=pure false:=by rfl) (hf:X.fn x=true\/X.env.scope.names.lookup x=some .local:=by first|exact .inl rfl|exact .inr rfl|assumption):PS X (.Assign [.Name x pos'] e pos) (tS own (dI o i fe re)):=bZ ho hN hi hx he hs hf
theorem ES.mut {H:Hp} {σ:L2.St} {ρ:List D} {i:Nat} {a:Addr} {o:HO} {d:D} (E:ES own H σ ρ) (ho:own i=true) (hi:σ[i]?=some (some (.ref a))) (hm:wQ o=true) (r:Rep All (upd H a o) (.ref a) d) (hin:inner d=true) :
  ES own (upd H a o) σ (ρ.set i d)/\KU own σ H σ (upd H a o):=by
 have hOa:Own own σ a:=⟨i,ho,hi⟩
 obtain ⟨a',oa,ea,_,_,hHa,hma,huq⟩:=E.own i _ ho hi;cases ea;have k:KU own σ H σ (upd H a o):=fun b ob e n=>⟨by rw [aR (fun z=>by subst z;exact n hOa)];exact e,n⟩
 have hl:i<ρ.length:=by rw [<-E.len];exact (List.getElem?_eq_some_iff.mp hi).1
 refine ⟨⟨by simp [E.len],fun j hj=>?_,fun j w hj hw=>?_⟩,k⟩
 ·rw [bR] at hj ⊢;by_cases h:i=j/\i<ρ.length
  ·obtain ⟨rfl,_⟩:=h;exact ⟨_,hi,fun z=>by rw [ho] at z;cases z⟩
  ·rw [if_neg h] at hj ⊢;obtain ⟨w,h1,h2⟩:=E.at_ j hj;exact ⟨w,h1,fun hj=>k.rep E (h2 hj)⟩
 ·by_cases hij:i=j
  ·subst hij;rw [hi] at hw;cases hw;rw [bR,if_pos ⟨rfl,hl⟩];exact ⟨a,o,rfl,r,hin,aH,hm,huq⟩
  ·rw [bR,if_neg fun z=>hij z.1];obtain ⟨b,ob,h1,h2,h3,h4,h5,h6⟩:=E.own j w hj hw;subst h1;have hba:b≠a:=fun z=>by subst z;exact hij (h6 i ho hi)
   refine ⟨b,ob,rfl,?_,h3,by rw [aR hba];exact h4,h5,h6⟩;refine (h2.aE7 (P':=fun c=>c=b) h3 rfl).keep (fun c oc hc hp=>?_) fun _ _=>trivial
   rw [aR]
   ·exact hc
   ·intro z;subst z;rcases hp with hp|hp
    ·exact hba hp.symm
    ·rw [hHa] at hc;cases hc;rw [hma] at hp;cases hp
theorem ES.ownAt {H:Hp} {σ:L2.St} {ρ:List D} {i:Nat} (E:ES own H σ ρ) (ho:own i=true) (hd:ρ.getD i .uD≠.uD):∃a o,σ[i]?=some (some (.ref a))/\Rep All H (.ref a) (ρ.getD i .uD)/\inner (ρ.getD i .uD)=true/\H a=some o/\wQ o=true:=by
 obtain ⟨v,h1,_⟩:=E.at_ i hd;obtain ⟨a,o,rfl,h2,h3,h4,h5,_⟩:=E.own i v ho h1;exact ⟨a,o,h1,h2,h3,h4,h5⟩
theorem WR {H:Hp} {a:Addr} {xs:List D} (r:Rep All H (.ref a) (.lst xs)):∃vs,H a=some (.lst vs)/\bV All H vs xs:=by
 cases r with
 | lst e _ r=>exact ⟨_,e,r⟩
theorem bV.upd {H:Hp} {a:Addr} {vs:List V} {xs:List D} {o:HO} {ob:HO} (r:bV All H vs xs) (hp:D.bU xs=true) (ha:H a=some ob) (hm:wQ ob=true):bV All (upd H a o) vs xs:=by
 refine (r.cP (P':=fun _=>False) hp).keep (fun c oc hc h=>?_) fun _ h=>h.elim
 rw [aR]
 ·exact hc
 ·intro z;subst z;rcases h with h|h
  ·exact h
  ·rw [ha] at hc;cases hc;rw [hm] at h;cases h
theorem oW {xs ys:List D}:D.bU (xs++ys)=(D.bU xs&&D.bU ys):=by
 induction xs with
 | nil=>simp [D.bU]
 | cons x xs ih=>rw [List.cons_append,D.bU,D.bU,ih,Bool.and_assoc]
theorem WT {i:Nat} {x:Str} {p1 apos cpos:Pos} (ho:own i=true) (hN:X.N[i]?=some x) (hv:Vis X.env.scope x) (he:PE X e (gE fe re)) (hd:nDb x:=by decide) (hcd:nCd x:=by decide)
  (hbase:attributeBase (.Name x p1) "append" X.env (eval (.Name x p1) X.env)=eval (.Name x p1) X.env:=by rfl)
  (hs1:starEach [e] X.env=(false,eval e X.env)::starEach [] X.env:=by rfl)
  (hfew:((backTo cpos (starEach [e] X.env)).all (fun x=>!x.1)&&(backToKw cpos (keywordEach [] X.env)).all (fun x=>x.1.isSome)
   && decide (([e]:List Expr).length+([]:List Keyword).length+(if ([]:List Keyword).isEmpty then 0 else 1)<30))=true:=by rfl)
  (hline:(apos.endLine==cpos.line)=true:=by rfl)
  (hs:swapsWith (.Call (.Attribute (.Name x p1) "append" apos) [e] [] cpos) none pos.line X.env=pure false:=by rfl) :
  PS X (.Expr (.Call (.Attribute (.Name x p1) "append" apos) [e] [] cpos) pos) (tS own (ZC i fe)):=
 PS.imp (vM (R4 PySem.F.plainAttrs_list PySem.F.slot_list_append PySem.F.type_list_append oF (fV hN hv hd hcd) (b7 he fW hs1) hbase hfew hline hs1 rfl) hs) fun D' σ H ⟨ρ,fl,E,h,q⟩=>by
 obtain ⟨d,h1,h2⟩:=bH h;split at h2
 ·rename_i xs hx;split at h2
  ·rename_i hk;cases h2;rw [Bool.and_eq_true] at hk;obtain ⟨a,o,hσ,r,hin,ha,hm⟩:=E.ownAt ho (by rw [hx];intro z;cases z);rw [hx] at r hin;obtain ⟨vs,hl,rr⟩:=WR r;refine ⟨_,hσ,.inl ⟨rfl,vs,.of hl⟩,ρ,d,E.er,h1,fun v H' s rv _=>⟨a,vs,v,rfl,rfl,s _ _ hl,by rw [rr.length];exact NB hk.1,?_⟩⟩;have E':=E.same s;have hl':=s _ _ hl;obtain ⟨E2,k2⟩:=E'.mut (o:=.lst (vs++[v])) (d:=.lst (xs++[d])) ho hσ rfl (.lst aH trivial (((rr.same s).snoc rv).upd (by rw [oW];simp only [Bool.and_eq_true];exact ⟨hin,by simp [D.bU,hk.2]⟩) hl' rfl)) (by show D.bU (xs++[d])=true;rw [oW];simp only [Bool.and_eq_true];exact ⟨hin,by simp [D.bU,hk.2]⟩);exact q _ _ ((KU.same s).trans k2) E2
  ·cases h2
 ·cases h2
end
end Mi
namespace Mi
open PySem L2 PySem.SeqAt PySem.Spec PyProof.Rows
variable [KFrag]
variable {own:Nat->Bool}
section
variable {X:Cx} {a b e:Expr} {pos:Pos} {fa fb fe:FE} {ra re:Bool} {f g:FS} {st:Stmt} {s1:List Stmt}
variable {scope:Scope} {iter tg:Expr} {it:FI} {t:D->Res (List D)}
def Z2:V->List V->Hp->VK->Prop:=fun x vs H Q=>∃l xs j y,x=.ref l/\vs=[.int j,y]/\H l=some (.lst xs)/\0<=j/\j<=xs.length/\xs.length<sizeLine/\Q .non (upd H l (.lst (xs.take j.toNat++y::xs.drop j.toNat)))
theorem N5:MtR X "list.insert" Z2:=by
 intro pins s σ H x vs v us Q I rx rv h;obtain ⟨l,xs,j,y,rfl,rfl,hH,h0,h1,hz,q⟩:=h;cases rx;cases rv with
 | cons rj rv=>
  cases rv with
  | cons ry rv=>
   cases rv;obtain ⟨tt,rfl⟩:=rj;obtain ⟨z,its,n,r,hl,e⟩:=I.aG1 hH;have hs:sizeLine=16777216:=sizeLine_eq;refine call_meets F.slot_list_insert ⟨_,e,rfl⟩ F.entry_list_insert (F.args_list_insert_3 _ _ _) (AutoSeq1.list_insert_list_int_val_1 l its.toArray n j tt _ (by
    rw [show Builtin.List.listFitsIndex j=true from by unfold Builtin.List.listFitsIndex;simp only [Bool.and_eq_true,decide_eq_true_eq];lia];decide) (by rw [List.size_toArray];lia)) ⟨e,?_⟩
   refine ⟨.non,_,I.aFz (its':=its.take j.toNat++_::its.drop j.toNat) hH e ?_ ((r.take j.toNat).append (.cons ry (r.drop j.toNat))) ?_,rfl,q⟩
   ·have hj:¬j<0:=by lia
    have hm:min j.toNat its.length=j.toNat:=by lia
    simp only [hj,if_false,List.size_toArray,hm];apply Array.toList_inj.mp;simp [List.extract_eq_drop_take]
    first|rfl|(rw [List.take_of_length_le];simp)
   ·rw [List.length_append,List.length_cons,List.length_take,List.length_drop];lia
theorem DY {i:Nat} {x:Str} {p1 apos cpos:Pos} (ho:own i=true) (hN:X.N[i]?=some x) (hv:Vis X.env.scope x) (ha:PE X a (gE fa ra)) (he:PE X e (gE fe re)) (hd:nDb x:=by decide) (hcd:nCd x:=by decide)
  (hbase:attributeBase (.Name x p1) "insert" X.env (eval (.Name x p1) X.env)=eval (.Name x p1) X.env:=by rfl)
  (hs0:starEach [a,e] X.env=(false,eval a X.env)::starEach [e] X.env:=by rfl) (hs1:starEach [e] X.env=(false,eval e X.env)::starEach [] X.env:=by rfl)
  (hfew:((backTo cpos (starEach [a,e] X.env)).all (fun x=>!x.1)&&(backToKw cpos (keywordEach [] X.env)).all (fun x=>x.1.isSome)
   && decide (([a,e]:List Expr).length+([]:List Keyword).length+(if ([]:List Keyword).isEmpty then 0 else 1)<30))=true:=by rfl)
  (hline:(apos.endLine==cpos.line)=true:=by rfl) (hpl:(backTo cpos (starEach [e] X.env)).any (·.1)=false:=by rfl)
  (hs:swapsWith (.Call (.Attribute (.Name x p1) "insert" apos) [a,e] [] cpos) none pos.line X.env=pure false:=by rfl) :
  PS X (.Expr (.Call (.Attribute (.Name x p1) "insert" apos) [a,e] [] cpos) pos) (tS own (SN i fa fe)):=
 PS.imp (vM (R4 PySem.F.plainAttrs_list PySem.F.slot_list_insert PySem.F.type_list_insert N5 (fV hN hv hd hcd) (b7 ha (b7 he fW hs1) hs0) hbase hfew hline hs0 hpl) hs) fun D' σ H ⟨ρ,fl,E,h,q⟩=>by
 obtain ⟨j,h0,h⟩:=bH h;obtain ⟨d,h1,h2⟩:=bH h;split at h2
 ·rename_i xs jj hx;split at h2
  ·rename_i hk;cases h2;simp only [Bool.and_eq_true,decide_eq_true_eq] at hk;obtain ⟨⟨⟨hk1,hk2⟩,hk3⟩,hk4⟩:=hk;obtain ⟨a,o,hσ,r,hin,ha,hm⟩:=E.ownAt ho (by rw [hx];intro z;cases z);rw [hx] at r hin;obtain ⟨vs,hl,rr⟩:=WR r;refine ⟨_,hσ,.inl ⟨rfl,vs,.of hl⟩,ρ,_,E.er,h0,fun v0 H0 s0 rv0 _=>⟨ρ,d,E.er.same s0,h1,fun v H' s rv _=>?_⟩⟩;cases rv0;have s':=s0.trans s;refine ⟨a,vs,jj,v,rfl,rfl,s' _ _ hl,hk3,by rw [rr.length];exact hk4,by rw [rr.length];exact Nat.lt_of_lt_of_le hk1 (by rw [sizeLine_eq];decide),?_⟩;have E':=E.same s';have hl':=s' _ _ hl;have hin':D.bU xs=true:=hin;have hp:D.bU (xs.take jj.toNat++d::xs.drop jj.toNat)=true:=jC.mpr fun y hy=>by
    rcases List.mem_append.mp hy with hy|hy
    ·exact jC.mp hin' y (List.mem_of_mem_take hy)
    ·rcases List.mem_cons.mp hy with rfl|hy
     ·exact hk2
     ·exact jC.mp hin' y (List.mem_of_mem_drop hy)
   have rr':=rr.same s';obtain ⟨E2,k2⟩:=E'.mut (o:=.lst (vs.take jj.toNat++v::vs.drop jj.toNat)) (d:=.lst (xs.take jj.toNat++d::xs.drop jj.toNat)) ho hσ rfl (.lst aH trivial (((rr'.take jj.toNat).append (.cons rv (rr'.drop jj.toNat))).upd hp hl' rfl)) hp;exact q _ _ ((KU.same s').trans k2) E2
  ·cases h2
 ·cases h2
def TgS (own:Nat->Bool) (g:TG) (t:D->List D->Res (List D)):Prop:=∀(v:V) (d:D) (ρ ρ':List D) (σ:L2.St) (H:Hp) (Q:L2.St->Hp->Prop),ES own H σ ρ->Rep (fun a=>¬Own own σ a) H v d->t d ρ=.ok ρ'->
 (∀σ',ES own H σ' ρ'->(∀a,Own own σ' a↔Own own σ a)->Q σ' H)->g v σ H Q
theorem ES.sets {H:Hp}:∀{is:List Nat} {vs:List V} {ds:List D} {σ:L2.St} {ρ:List D},(∀i∈is,own i=false)->ES own H σ ρ->bV (fun a=>¬Own own σ a) H vs ds->ES own H (vX is vs σ) (xK is ds ρ)/\∀a,Own own (vX is vs σ) a↔Own own σ a
 | [],_,_,_,_,_,E,_=>by simp only [vX,xK];exact ⟨E,fun _=>trivial⟩
 | i::is,_,_,σ,ρ,h,E,.nil=>by simp only [vX,xK];exact ⟨E,fun _=>trivial⟩
 | i::is,_,_,σ,ρ,h,E,.cons (v:=v) r t=>by
  have ho:=h i (List.mem_cons_self ..);have hO:(fun a=>¬Own own (σ.set i (some v)) a)=fun a=>¬Own own σ a:=funext fun a=>by rw [lR ho]
  obtain ⟨h1,h2⟩:=ES.sets (is:=is) (fun j hj=>h j (List.mem_cons_of_mem _ hj)) (E.set ho r) (by rw [hO];exact t);exact ⟨h1,fun a=>(h2 a).trans (lR ho a)⟩
theorem Z3 (K:PySem.W.Frag) {is:List Nat} (ho:∀i∈is,own i=false):TgS own (aEk K is.length (gIx is)) (tgN is):=fun v d ρ ρ' σ H Q E r h q=>by
 cases d <;> simp only [tgN] at h <;> (try (cases h;done))
 split at h
 ·rename_i hl;cases h;have hl':=of_decide_eq_true hl;obtain ⟨a,xs,rfl,e,rr⟩:=r.eZ;obtain ⟨h1,h2⟩:=E.sets ho rr;exact ⟨a,xs,rfl,.of e,by rw [rr.length];exact hl',zQ _ _ _ (by rw [rr.length];exact hl') (q _ h1 h2)⟩
 ·cases h
theorem ItQ.ku {K:PySem.W.Frag} {J:It} {items:List D} {σ σ':L2.St} {H H':Hp} {ρ:List D} (h:ItQ K (fun a=>¬Own own σ a) J H items) (k:KU own σ H σ' H') (E:ES own H σ ρ):ItQ K (fun a=>¬Own own σ' a) J H' items:=by
 cases h with
 | lst a e r=>exact .lst a e (k.rep E r)
 | tup a e r=>exact .tup a e (k.rep E r)
 | rng lo n e r=>exact .rng lo n e r
 | chs x e r=>exact .chs x e r
 | enm a ds e r h=>exact .enm a ds e (k.rep E r) h
 | enf m a ds e r h=>exact .enf m a ds e (k.rep E r) h
 | zip a b ds es e r q n h=>exact .zip a b ds es e (k.rep E r) (k.rep E q) n h
 | rev a ds e r h=>exact .rev a ds e (k.rep E r) h
 | scr a hK e r=>exact .scr a hK e (k.rep E r)
theorem TJ {K:PySem.W.Frag} {g:TG} {t:D->List D->Res (List D)} {body:FS} {D':Ends} {J:It} {items:List D} {σ:L2.St} {H1:Hp} {ρ:List D} {fl:Fl} (tg:TgS own g t) (E:ES own H1 σ ρ) (hJ:ItQ K (fun a=>¬Own own σ a) J H1 items) (hf:uE t body items ρ=.ok fl) (q:kS own D' σ H1 fl) :
  ∃W:Nat->Nat->L2.St->Hp->Prop,(∃m,W 0 m σ H1)/\∀i m σ H,W i m σ H->
   (J.stop i H/\D'.nx σ H)\/(J.go i H/\∃N:L2.St->Hp->Prop,(∀σ' H',N σ' H'->∃m',m'<m/\W (i+1) m' σ' H')/\∀x H',J.yld i H x H'->g x σ H' fun σ2 H2=>tS own body {D' with nx:=N,ct:=N,bk:=D'.nx} σ2 H2):=by
 refine ⟨fun i m σ' H'=>m=items.length-i/\i<=items.length/\ItQ K (fun a=>¬Own own σ' a) J H' items/\∃ρ',ES own H' σ' ρ'/\uE t body (items.drop i) ρ'=.ok fl/\kS own D' σ' H' fl,⟨items.length,rfl,Nat.zero_le _,hJ,ρ,E,hf,q⟩,?_⟩;rintro i m σ' H' ⟨rfl,hi,hJ',ρ',E',hf',q'⟩;rcases Nat.lt_or_ge i items.length with hlt|hge
 ·refine .inr ?_;have e:items[i]?=some items[i]:=List.getElem?_eq_getElem hlt;obtain ⟨g1,g2⟩:=hJ'.go e;rw [List.drop_eq_getElem_cons hlt] at hf';obtain ⟨ρ1,h1,hf2⟩:=bH hf';obtain ⟨r,h2,hf3⟩:=bH hf2;refine ⟨g1,fun σ2 H2=>ItQ K (fun a=>¬Own own σ2 a) J H2 items/\∃ρ',ES own H2 σ2 ρ'/\uE t body (items.drop (i+1)) ρ'=.ok fl/\kS own D' σ2 H2 fl,fun σ2 H2 ⟨n1,n2⟩=>⟨items.length-(i+1),by lia,rfl,hlt,n1,n2⟩,fun x H2 hy=>?_⟩;obtain ⟨sH,rx⟩:=g2 x H2 hy;have ks:KU own σ' H' σ' H2:=fun a o e n=>⟨sH a o e,n⟩
  have hJ':=hJ'.ku ks E';have q':=q'.step ks;have E':=E'.same sH;refine tg x items[i] ρ' ρ1 σ' H2 _ E' rx h1 fun σ2 E2 hO=>?_
  have k0:KU own σ' H2 σ2 H2:=fun a o e n=>⟨e,by rw [hO];exact n⟩
  have hJ2:=hJ'.ku k0 E';have q2:=q'.step k0;refine ⟨ρ1,r,E2,h2,?_⟩;cases r with
  | nx ρ2=>exact fun σ3 H3 k3 E3=>⟨hJ2.ku k3 E2,ρ2,E3,hf3,q2.step k3⟩
  | ct ρ2=>exact fun σ3 H3 k3 E3=>⟨hJ2.ku k3 E2,ρ2,E3,hf3,q2.step k3⟩
  | bk ρ2=>cases hf3;exact fun σ3 H3 k3 E3=>q2 σ3 H3 k3 E3
  | rt d=>cases hf3;exact q2
 ·refine .inl ⟨hJ'.stop hge,?_⟩;rw [List.drop_eq_nil_of_le hge] at hf';cases hf';exact q' σ' H' (fun a o e n=>⟨e,n⟩) E'
theorem aCw {tg iter:Expr} {body:List Stmt} {g:TG} {t:D->List D->Res (List D)} {it:FI} {fb:FS} (hp:PassesOwn (model X.prog X.w) X.A X.env X.xe) (hc:X.calm=true) (hi:PI X tg iter (gI X.K it)) (ht:TgS own g t) (hg:PG X tg g) (hb:PSs X body (tS own fb))
  (hs:∀x,foldedSetIterable iter X.env x=pure x:=by intro _;rfl):PS X (.For tg iter body [] pos) (tS own (M6 it t fb)):=PS.imp (V7 hp hc hi hg hb hs) fun D' σ H ⟨ρ,fl,E,h,q⟩=>by
 obtain ⟨⟨items,k⟩,h1,h2⟩:=bH h;split at h2
 ·rename_i hk;exact ⟨ρ,items,k,E.er,h1,fun J H1 s1 _ hJ=>TJ ht (E.same s1) ((hJ hk).keep (fun _ _ e _=>e) fun a ha ho=>by
   obtain ⟨o,e1,_⟩:=E.live ho;rw [show H a=none from ha] at e1;cases e1) h2 (q.step (.same s1))⟩
 ·cases h2
theorem vZ {own:Nat->Bool} {N ps:List Str} {vs:List V} {ds:List D} {H:Hp} (hst:start N vs=vs.map some++List.replicate (N.length-ps.length) none) (hl:ds.length=ps.length) (r:bV All H vs ds) (hown:∀i,i<ps.length->own i=false) (noown:∀a,¬Own own (start N vs) a):ES own H (start N vs) (ds++List.replicate (N.length-ps.length) .uD):=by
 refine ⟨by rw [hst];simp [r.length],fun i hi=>?_,fun i v hi hv=>?_⟩
 ·have hlt:i<ds.length:=Nat.lt_of_not_le fun hge=>hi (by
   rw [List.getD_eq_getElem?_getD,List.getElem?_append_right hge,List.getElem?_replicate];split <;> rfl)
  have e:(ds++List.replicate (N.length-ps.length) D.uD).getD i .uD=ds[i]:=by
   rw [List.getD_eq_getElem?_getD,List.getElem?_append_left hlt,List.getElem?_eq_getElem hlt];rfl
  obtain ⟨v,g1,g2⟩:=r.get (i:=i) (d:=ds[i]) (by simp [hlt]);refine ⟨v,by rw [hst,List.getElem?_append_left (by simp [r.length,hlt])];simp [g1],fun _=>?_⟩;rw [e];exact g2.mono fun a _=>noown a
 ·exfalso;rw [hst] at hv;by_cases h:i<ps.length
  ·rw [hown i h] at hi;cases hi
  ·rw [List.getElem?_append_right (by simp [r.length,hl];lia)] at hv;rw [List.getElem?_replicate] at hv;split at hv <;> cases hv
theorem Z4 {own:Nat->Bool} {N ps:List Str} {f:FS} {vs:List V} {H:Hp} {Q:VK} {E:XK} (hx:own rtX=false) (hown:∀i,i<ps.length->own i=false) (h0:spD (fnS ps.length N.length f) ps.length vs H Q E):tS own f {nx:=fun _ H'=>Q .non H',rt:=Q} (start N vs) H:=by
 obtain ⟨ds,d,hl,r,h,q⟩:=h0
 ·obtain ⟨fl,h1,h2⟩:=bH h;have hst:start N vs=vs.map some++List.replicate (N.length-ps.length) none:=by
   show vs.map some++List.replicate (N.length-vs.length) none=_;rw [r.length,hl]
  have noown:∀a,¬Own own (start N vs) a:=fun a ⟨i,hi,e⟩=>by
   rw [hst] at e;by_cases h:i<ps.length
   ·rw [hown i h] at hi;cases hi
   ·rw [List.getElem?_append_right (by simp [r.length,hl];lia)] at e;rw [List.getElem?_replicate] at e;split at e <;> cases e
  have E0:ES own H (start N vs) (ds++List.replicate (N.length-ps.length) .uD):=vZ hst hl r hown noown;refine ⟨_,fl,E0,h1,?_⟩;have sm:∀{σ':L2.St} {H':Hp},KU own (start N vs) H σ' H'->cN H H':=fun k a o e=>(k a o e (noown a)).1
  cases fl with
  | nx ρ'=>cases h2;exact fun σ' H' k E'=>q .non H' (sm k) .non fun _=>.non
  | rt d'=>
   cases h2;refine kRt.mk hx fun v H' hk rp=>q v H' (fun a o e=>hk a o e (noown a)) rp.all fun _=>rp.mono fun a ha=>?_
   rcases ha with ha|ha
   ·exact absurd ha (noown a)
   ·exact ha
  | bk ρ'=>cases h2
  | ct ρ'=>cases h2
theorem aCx {P:Program} {w:World} {K:PySem.W.Frag} {mg:Str->Option Value} {base:Heap} {x qual:Str} {st:Stmt} {fad:Addr} {fd:FuncData} {N ps:List Str} {k:Nat} {f:FS} (F:Fun K x qual st fad fd) (S:cJ N ps (aU st)) (own:Nat->Bool) (hown:∀i,i<ps.length->own i=false) (hNl:ps.length<=N.length)
  (hbody:∀(cdv:Value) (A:Around) (outer:List Env) (s:Shared) (H:Hp) (E:XK),jK k (A.deeper (envOfC qual (aU st) s.heap.objs.size fad cdv))->PSs (uB CX0 P w K mg base N qual (aU st) fad cdv A outer s H E).nox (fC st) (tS own f)) (hx:own rtX=false:=by rfl):uU P w K mg base CX0 (k+1) fad fd ps (spD (fnS ps.length N.length f) ps.length):=
 F.ok S (fun vs H Q E h=>ZS h) fun cdv A outer s H vs Q E hr h=>⟨_,hbody cdv A outer s H E hr,Z4 hx hown h⟩
end
structure aF7 where
 s₀:Shared
 H₀:Hp
 env:Env
 outer:List Env
 stack:List Env
 ex:List Addr
 fn:Str->Bool
 pn:List (Addr×Obj)
abbrev mkC (X:Cx) (scope:Scope) (ownN:List Str) (y:aF7):Cx:=
 {X with N:=X.N.map (m9 ownN)++ownN,s₀:=y.s₀,H₀:=y.H₀,env:={y.env with scope:=relabel scope X.env},outer:=y.outer,stack:=y.stack,ex:=y.ex,fn:=y.fn,pn:=y.pn,xe:=fun _ _=>False}
theorem WW {X X':Cx} {scope:Scope} {ownN:List Str} (cc:jQ X X' scope ownN):∃y,X'=mkC X scope ownN y:=by
 refine ⟨⟨X'.s₀,X'.H₀,X'.env,X'.outer,X'.stack,X'.ex,X'.fn,X'.pn⟩,?_⟩;obtain ⟨h1,h2,h3,h4,h5,h6,h7,h8,h9,h10⟩:=cc;cases X' with
 | mk a b c d e f g h i j k l m n o p q=>
  cases j;dsimp only at *;subst h1 h2 h3 h4 h5 h6 h7 h8 h9 h10;rfl
section
variable {X:Cx} {scope:Scope} {ownN:List Str} {elt iter tg:Expr} {it:FI} {t:D->Res (List D)} {g:TG} {fe:FE} {re:Bool} {pos:Pos} {n m:Nat}
theorem nY (S:j_ X.N X.env.scope scope ownN) (hn:X.N.length=n) (hm:ownN.length=m) (hcalm:X.calm=true) (hi:PI X tg iter (gI X.K it)) (ht:TgC g t n m) (hg:∀y,PG (mkC X scope ownN y) tg g) (he:∀y,PE (mkC X scope ownN y) elt (gE fe re))
  (hs:∀x,foldedSetIterable iter X.env x=pure x):PE X (.ListComp elt [⟨tg,iter,[],0⟩] scope pos) (gE (vO n it t lL fe re) true):=
 ZW S hn hm hcalm hi ht (fun X' cc=>by obtain ⟨y,rfl⟩:=WW cc;exact hg y) (fun X' cc=>by obtain ⟨y,rfl⟩:=WW cc;exact he y) hs
end
def dR (P:Program) (w:World) (K:PySem.W.Frag) (mg:Str->Option Value) (base:Heap) (k:Nat) (x:Str) (n:Nat) (f:List D->Res D):Prop:=
 ∃(fad:Addr) (fd:FuncData) (ps:List Str),uU P w K mg base CX0 k fad fd ps (spD f n)/\mg x=some (.ref fad)/\PySem.W.keepIn K (.ref fad)=true/\Binds K fd ps []
section
variable {X:Cx} {e:Expr} {es:List Expr} {pos p:Pos} {fs:FA} {rr:Bool} {x:Str} {k n:Nat} {f:List D->Res D}
theorem bG {k':Nat} (C:dR X.prog X.w X.K X.mg X.base k x n f) (hr:jK k' X.A) (hkk:k<=k') (hg:Gl X x) (ha:PA X (e::es) (gA fs rr)) (hdb:nDb x:=by decide) (he:starEach (e::es) X.env=(false,eval e X.env)::starEach es X.env:=by rfl) (hpl:(backTo pos (starEach es X.env)).any (·.1)=false:=by rfl) :
  PE X (.Call (.Name x p) (e::es) [] pos) (gE (aW (dC n f) fs) true):=by
 obtain ⟨fad,fd,ps,F,hm,hk,hb⟩:=C;exact ZV F (hr.mono hkk) hg hm hk hb ha hdb he hpl
theorem gB {P:Program} {w:World} {K:PySem.W.Frag} {mg:Str->Option Value} {base:Heap} {st:Stmt} {fad:Addr} {fd:FuncData} {N ps:List Str} {fs:FS} (F:Fun K x x st fad fd) (hm:mg x=some (.ref fad)) (hb:Binds K fd ps []) (S:cJ N ps (aU st)) (own:Nat->Bool) (hown:∀i,i<ps.length->own i=false) (hNl:ps.length<=N.length)
  (hbody:∀(cdv:Value) (A:Around) (outer:List Env) (s:Shared) (H:Hp) (E:XK),jK k (A.deeper (envOfC x (aU st) s.heap.objs.size fad cdv))->PSs (uB CX0 P w K mg base N x (aU st) fad cdv A outer s H E).nox (fC st) (tS own fs)) (hx:own rtX=false:=by rfl):dR P w K mg base (k+1) x ps.length (fnS ps.length N.length fs):=
 ⟨fad,fd,ps,aCx F S own hown hNl hbody hx,hm,F.kp,hb⟩
end
theorem yZ {A:Around} {k:Nat} (hr:jK k A):A.units+20<cLine:=Nat.lt_of_le_of_lt (Nat.add_le_add_left (by decide:20<=64) _) hr.units
structure Bt (mg:Str->Option Value):Prop where
 len:mg "len" = none
 min:mg "min" = none
 max:mg "max" = none
 list:mg "list" = none
 tuple:mg "tuple" = none
 sorted:mg "sorted" = none
 range:mg "range" = none
 isi:mg "isinstance" = none
 int:mg "int" = none
 bool:mg "bool" = none
 str:mg "str" = none
 dict:mg "dict" = none
 all:mg "all" = none
 enum:mg "enumerate" = none
 sum:mg "sum" = none
 zip:mg "zip" = none
 abs:mg "abs" = none
 reversed:mg "reversed" = none
theorem gC:bootBuiltins "len" = some (.builtin "len"):=by decide +kernel
theorem kO:bootBuiltins "isinstance" = some (.builtin "isinstance"):=by decide +kernel
theorem Z5:bootBuiltins "list" = some (.type "list"):=by decide +kernel
theorem kW:bootBuiltins "tuple" = some (.type "tuple"):=by decide +kernel
theorem WX:bootBuiltins "int" = some (.type "int"):=by decide +kernel
theorem Z6:bootBuiltins "bool" = some (.type "bool"):=by decide +kernel
theorem ints_rep {P:Addr->Prop} {H:Hp}:∀ns:List Int,bV P H (ns.map V.int) (ns.map D.int)
 | []=>.nil
 | n::ns=>.cons (.int n) (ints_rep ns)
end Mi
namespace Mi
open PySem L2
theorem N6 {K:PySem.W.Frag} {f:List D->Res D} {H:Hp} {a:Addr} {ns:List Int} {E:XK} (main:∀ns:List Int,ns.length<=63->f [.scr (ns.map D.int)]=.ok (.bl true)) (hl:ns.length<=63) (hO:Only H) (hS:SqL K H a (ns.map V.int)):@spD ⟨K⟩ f 1 [.ref a] H (fun v _=>v=.bl true) E:=by
 letI:KFrag:=⟨K⟩
 refine ⟨[.scr (ns.map D.int)],.bl true,rfl,.cons (.frz ?_ (ints_rep ns)) .nil,main ns hl,fun v H' s r n=>by cases r;rfl⟩;rcases hS with (h|⟨o,h⟩)|h
 ·rcases hO a with z|⟨o,xs,z⟩
  ·rw [h] at z;cases z
  ·rw [h] at z;cases z
 ·exact .inl ⟨o,h⟩
 ·exact .inr h
end Mi
namespace Mi
open PySem L2 PySem.SeqAt PySem.Spec PyProof.Rows
def uF:D->D->Res D
 | .str x,.int n=>if decide (0<=n)&&decide (n<=100000)&&decide (x.length*n.toNat<=lim) then .ok (.str (Txt.mul x n)) else .bad
 | a,b=>aP .mul a b
def inX:D->D->Res D
 | .str c,.str x=>.ok (.bl (!(Builtin.Str.occurrences x c 0 x.length 1).isEmpty))
 | a,b=>bO .isin a b
def TQ:D->Option Int->Option Int->Res D
 | .str x,lo,hi=>if decide (x.length<=lim) then .ok (.str (Txt.slice x lo hi)) else .bad
 | d,lo,hi=>aE5 d lo hi
def eO (a:FE) (lo hi:List D->Res (Option Int)):FE:=fun ρ=>do let x <- a ρ;let l <- lo ρ;let h <- hi ρ;TQ x l h
def u5:D->Res (List D)
 | .str x=>if decide (x.length<=lim) then .ok (jR x) else .bad
 | d=>CN d
def lU (a:FE) (fr:Bool):FI:=fun ρ=>do let x <- a ρ;let xs <- u5 x;pure (xs,fr||x.pure)
noncomputable def TV:D->Res (List D)
 | .lst xs=>.ok xs
 | _=>.bad
def TX (a:FE) (fr:Bool):FI:=fun ρ=>do let x <- a ρ;let xs <- TV x;pure (zO xs,fr||x.pure)
noncomputable def oX:List D->Option (List Str)
 | []=>some []
 | .str x::r=>(oX r).map (x::·)
 | _::_=>none
def joinM:D->List D->Res D
 | .str sep,[.lst ds]=>match oX ds with
  | some ts=>if JoinOk sep ts then .ok (.str (Txt.join sep ts)) else .bad
  | none=>.bad
 | _,_=>.bad
noncomputable def kY:List D->Option (List Bool)
 | []=>some []
 | .bl x::r=>(kY r).map (x::·)
 | _::_=>none
def aE8:List D->Res D
 | [.lst ds]=>match kY ds with
  | some bs=>.ok (.bl (bs.all id))
  | none=>.bad
 | _=>.bad
variable [KFrag]
section
variable {X:Cx}
theorem gK:OpR X (binaryOp .Mult) (r2 uF true):=by
 intro pins s σ H x y v u Q I rx ry ⟨a,b,d,p,q,e,k⟩;by_cases hs:∃z n,a=.str z/\b=.int n
 ·obtain ⟨z,n,rfl,rfl⟩:=hs;simp only [uF] at e;split at e
  ·rename_i hl;cases e;simp only [Bool.and_eq_true,decide_eq_true_eq] at hl;obtain ⟨⟨h0,h1⟩,h2⟩:=hl;cases p;cases q;obtain ⟨t,rfl⟩:=rx;obtain ⟨t',rfl⟩:=ry;have hz:z.length*n.toNat<=sizeLine:=Nat.le_trans h2 (by rw [sizeLine_eq];decide);refine SB.mul ⟨?_,fun h3 _=>?_,fun _ _=>?_⟩ fun t2 k2=>⟨.str _,H,I.tok k2,⟨t2,rfl⟩,k.str⟩
   ·rw [decide_eq_false (by lia),decide_eq_false (by lia)];rfl
   ·have hn:0<n:=by lia
    have h4:(z.length:Int)*n<=2 ^ 63-1:=by
     have h5:((z.length*n.toNat:Nat):Int)<=1000000:=by
      have:lim=1000000:=by unfold lim;exact Eq.refl _
      lia
     rw [Int.natCast_mul,Int.toNat_of_nonneg h0] at h5;lia
    have h6:=(Int.le_ediv_iff_mul_le hn).mpr h4;lia
   ·unfold Builtin.Str.tooLong;exact decide_eq_false (by lia)
  ·cases e
 ·have he:uF a b=aP .mul a b:=by
   unfold uF;split
   ·exact absurd ⟨_,_,rfl,rfl⟩ hs
   ·rfl
  rw [he] at e;exact aCq pins s σ H x y v u Q I rx ry ⟨a,b,d,p,q,e,k⟩
theorem aCy (hu:X.A.units+20<cLine):OpR X (compareOp .In) (r2 inX true):=by
 intro pins s σ H x y v u Q I rx ry ⟨a,b,d,p,q,e,k⟩;by_cases hs:∃z n,a=.str z/\b=.str n
 ·obtain ⟨z,n,rfl,rfl⟩:=hs;cases e;cases p;cases q;exact K5 pins s σ H _ _ v u Q I rx ry ⟨_,_,rfl,rfl,k.bl⟩
 ·have he:inX a b=bO .isin a b:=by
   unfold inX;split
   ·exact absurd ⟨_,_,rfl,rfl⟩ hs
   ·rfl
  rw [he] at e;exact aF2 hu pins s σ H x y v u Q I rx ry ⟨a,b,d,p,q,e,k⟩
theorem part_of {v:Value} {o:Option Int} (h:IsPart v o):∃l:Option (Int×Tok),partValue l=v/\l.map (·.1)=o:=by
 cases h with
 | none=>exact ⟨none,rfl,rfl⟩
 | int i t=>exact ⟨some (i,t),rfl,rfl⟩
theorem aCz (hK:KFrag.K=X.K):SlR X (fun x lo hi H Q=>∃a d,Rep All H x a/\TQ a lo hi=.ok d/\kR H d true Q):=by
 intro pins s σ H x v vl vu lo hi sl Q I rx hs pl pu ⟨a,d,p,e,k⟩;by_cases hz:∃z,a=.str z
 ·obtain ⟨z,rfl⟩:=hz;simp only [TQ] at e;split at e
  ·rename_i hl;cases e;cases p;obtain ⟨t,rfl⟩:=rx;obtain ⟨l,e1,e2⟩:=part_of pl;obtain ⟨m,e3,e4⟩:=part_of pu;subst e1 e2 e3 e4;refine ⟨"str",_,F.slot_str_getitem.lookup,typeIs_str _ _ _,?_⟩;obtain ⟨o,ho,hc,hd⟩:=hs;refine wpAny_getItem_str_slice (l:=l) (u:=m) (st:=none) ⟨o,ho,hc,hd⟩ rfl ?_;have hle:(Txt.slice z (l.map (·.1)) (m.map (·.1))).length<=sizeLine:=Nat.le_trans (Txt.slice_le ..) (kE hl);have q:∀(t':Tok) (k2:Nat),EP X pins σ Q (.str (Txt.slice z (l.map (·.1)) (m.map (·.1))) t') {s with toks:=k2}:=fun t' k2=>⟨.str _,H,I.tok k2,⟨t',rfl⟩,k.str⟩
   show Made.post (if ((1:Int)==1&&(Builtin.Str.strSliceIndices (l.map (·.1)) (m.map (·.1)) 1 z.length).length==z.length)=true then .val (.str z t) else .str ⟨((Builtin.Str.strSliceIndices (l.map (·.1)) (m.map (·.1)) 1 z.length).filterMap (z.cps[·]?)).toArray⟩) _ s;unfold Txt.slice at hle q;split
   ·rename_i hh;have:=q t s.toks;rw [if_pos hh] at this;exact this
   ·rename_i hh;rw [if_neg hh] at hle;have:=q s.toks (s.toks+1);rw [if_neg hh] at this;exact ⟨hle,this⟩
  ·cases e
 ·have he:TQ a lo hi=aE5 a lo hi:=by
   unfold TQ;split
   ·exact absurd ⟨_,rfl⟩ hz
   ·rfl
  rw [he] at e;exact aF5 hK pins s σ H x v vl vu lo hi sl Q I rx hs pl pu ⟨a,d,p,e,k⟩
theorem cA {e:Expr} {fe:FE} {re:Bool} {pos:Pos} {lo hi:Option Expr} {p2:Pos} {fl fh:List D->Res (Option Int)} (hK:KFrag.K=X.K) (he:PE X e (gE fe re)) (hl:PO X lo (gO fl)) (hh:PO X hi (gO fh)):PE X (.Subscript e (.Slice lo hi none p2) pos) (gE (eO fe fl fh) true):=
 PE.imp (R3 (aCz hK) he hl hh) fun σ H Q ⟨ρ,d,E,h,q⟩=>by
  obtain ⟨x,h1,h⟩:=bH h;obtain ⟨l,h2,h⟩:=bH h;obtain ⟨u,h3,h⟩:=bH h;exact ⟨ρ,x,E,h1,fun v H1 s1 r1 _=>⟨ρ,l,E.same s1,h2,fun H2 s2=>⟨ρ,u,E.same (s1.trans s2),h3,fun H3 s3=>⟨x,d,r1.same (s2.trans s3),h,q.imp ((s1.trans s2).trans s3) id⟩⟩⟩⟩
theorem D_ {P:Addr->Prop} {H:Hp}:∀{xs:List V} {ds:List D} {its:List Value} {ts:List Str},bV P H xs ds->Vals xs its->oX ds=some ts->∃l:List (Str×Tok),its=strValues l/\l.map (·.1)=ts
 | [],[],[],_,_,_,h=>by cases h;exact ⟨[],rfl,rfl⟩
 | _,_,_,_,.cons (d:=d) r t,.cons rv tv,h=>by
  cases d with
  | str z=>
   obtain ⟨ts,h1,h2⟩:=Option.map_eq_some_iff.mp h;cases r;obtain ⟨tk,rfl⟩:=rv;obtain ⟨l,e1,e2⟩:=D_ t tv h1;refine ⟨(z,tk)::l,?_,?_⟩
   ·rw [e1];rfl
   ·rw [<-h2,<-e2];rfl
  | _=>simp only [oX] at h;cases h
theorem oY:MtR X "str.join" (rm joinM true):=by
 intro pins s σ H x xs v us Q I rv vr ⟨a,ds,d,ra,rs,h,k⟩;unfold joinM at h;split at h
 ·split at h
  ·rename_i ts hts;split at h
   ·rename_i hok;cases h;obtain ⟨vv,uu,rfl,rfl,r,rk⟩:=fO rs vr;obtain ⟨l,ys,rfl,hl,rr⟩:=r.fK (K:=X.K);cases rk;cases ra;obtain ⟨t,rfl⟩:=rv;obtain ⟨its,vr',pl⟩:=iM I hl;obtain ⟨l2,e1,e2⟩:=D_ rr vr' hts;subst e1;exact SC.join pl e2 hok fun t' k2=>⟨.str _,H,I.tok k2,⟨t',rfl⟩,k.str⟩
   ·cases h
  ·cases h
 ·cases h
theorem kZ {d:D} {ds:List D} {r:D} {v:V} {H:Hp} (h:joinM d ds=.ok r) (rp:Rep All H v d):tyV X.K "str" v H:=by
 have:∃z,d=.str z:=by
  unfold joinM at h;split at h
  ·exact ⟨_,rfl⟩
  ·cases h
 obtain ⟨z,rfl⟩:=this;cases rp;rfl
theorem EY {P:Addr->Prop} {H:Hp}:∀{xs:List V} {ds:List D} {its:List Value} {bs:List Bool},bV P H xs ds->Vals xs its->kY ds=some bs->its=bs.map Value.bool
 | [],[],[],_,_,_,h=>by cases h;rfl
 | _,_,_,_,.cons (d:=d) r t,.cons rv tv,h=>by
  cases d <;> simp only [kY] at h <;> (try (cases h;done))
  obtain ⟨ts,h1,h2⟩:=Option.map_eq_some_iff.mp h;cases r;cases rv;rw [EY t tv h1,<-h2];rfl
theorem WY (hc:X.calm=true):jN X (.builtin "all") (rs aE8 true):=by
 intro pins s σ H xs us Q I vr ⟨ds,d,r,e,k⟩;unfold aE8 at e;split at e
 ·split at e
  ·rename_i bs hbs;cases e;obtain ⟨vv,uu,rfl,rfl,r,v⟩:=fO r vr;obtain ⟨l,ys,rfl,hl,rr⟩:=r.fK (K:=X.K);cases v;obtain ⟨its,vr',pl⟩:=iM I hl;have hb:=EY rr vr' hbs;subst hb;have hlt:l<s.heap.objs.size:=by obtain ⟨_,e,_⟩:=pl;exact Heap.lt_size e
   refine call_all_walk (wpAny_pyIter_list pl ?_);refine ⟨_,_,_,_,_,_,fun i=>bs.getD i true,rfl,Walks.list (A:=X.A.in1) (I.ok.hd hc) _ l (Nat.ne_of_lt hlt) _,⟨⟨_,Heap.get?_push_size _ rfl,rfl,rfl⟩,pl.push _⟩,fun i v s' Q' E' hP hQ=>?_,fun h' tk hk=>?_⟩
   ·have hv:(bs.map Value.bool)[i]?=some v:=by simpa using hP
    rw [List.getElem?_map] at hv;cases hb:bs[i]? with
    | none=>rw [hb] at hv;cases hv
    | some b=>
     rw [hb] at hv;cases hv;have hQ:Q' (bs.getD i true) s':=hQ;rw [List.getD_eq_getElem?_getD,hb] at hQ;exact wpAny_truthy_bool hQ
   ·have e:(List.range (bs.map Value.bool).toArray.size).all (fun i=>bs.getD i true)=bs.all id:=by
     rw [List.size_toArray,List.length_map];have:bs=(List.range bs.length).map fun i=>bs.getD i true:=by
      apply List.ext_getElem
      ·simp
      ·intro i h1 h2;simp [h1]
     conv=>rhs;rw [this]
     rw [List.all_map];rfl
    rw [e];refine ⟨.bl _,H,I.kept fun b o e=>hk b o (fun hb=>?_) (Heap.get?_push_of_some _ e),rfl,k.bl⟩;rcases List.mem_cons.mp hb with rfl|hb
    ·exact absurd (Heap.lt_size e) (Nat.lt_irrefl _)
    ·cases hb
  ·cases e
 ·cases e
theorem TY {P:Program} {w:World} {K:PySem.W.Frag} {tg:Expr} (x:Str) (t:Tok) (it:Addr):Turn P w K tg (aF6 x) [it] it (fun i h=>h.IsStrIter it (strIterType x) x t i) where
 mem:=by simp
 obj:=fun i h st b hb=>by
  have e:b=it:=by simpa using hb
  subst e;obtain ⟨o,e,c,d⟩:=st;exact ⟨o,e,fun v z=>by rw [d] at z;cases z⟩
 keep:=fun i h h' st k=>by
  obtain ⟨o,e,r⟩:=st;exact ⟨o,k it (by simp) o e,r⟩
 item:=by
  intro Y hP hw hK hc i pins s σ H E I hf st hg;subst hP hw hK;obtain ⟨f0,f1,f2,f3,f4,f5⟩:=hf it (by simp);have hx:x.cps[i]?=some x.cps[i]:=Array.getElem?_eq_getElem hg;have fin:∀(h':Heap) (ty:String),(["enumerate", "zip", "dict_itemiterator", "dict_reverseitemiterator", "odict_iterator", "itertools.zip_longest", "itertools.pairwise"].contains ty=false)->strIterType x=ty->h'.IsStrIter it ty x t (i+1)->Heap.SameBut it s.heap h'->
    ∃u,some (Value.str ⟨#[x.cps[i]]⟩ s.toks)=some u/\wpAny (model Y.prog Y.w) Y.A (letOwnedTupleGo tg (.ref it) u) (fun _ s2=>∃v H',Inv Y pins σ H' s2/\RelV v u/\(aF6 x).yld i H v H'/\s2.heap.IsStrIter it (strIterType x) x t (i+1)/\∀b∈[it],H' b=none) E {s with heap:=h',toks:=s.toks+1}:=by
   intro h' ty hn hty st' sb;have I1:Inv Y pins σ H {s with heap:=h',toks:=s.toks+1}:=I.turned (fun b o hb e=>(sb.2 b hb).trans e) f0 f1 f3 f4 f5;obtain ⟨o,e,c,d⟩:=id st';exact ⟨_,rfl,RT (s:={s with heap:=h',toks:=s.toks+1}) e c d hn ⟨.str ⟨#[x.cps[i]]⟩,H,I1,⟨_,rfl⟩,⟨rfl,_,hx,rfl⟩,by rw [hty];exact st',fun b hb=>(hf b hb).1⟩⟩
  cases ha:x.cps.all (·<128)
  ·have hty:strIterType x = "str_iterator":=by simp [strIterType,ha]
   rw [hty] at st;exact wpAny_pyNext_wide_item st hx fun h' st' sb=>fin h' _ (by decide) hty st' sb
  ·have hty:strIterType x = "str_ascii_iterator":=by simp [strIterType,ha]
   rw [hty] at st;exact wpAny_pyNext_ascii_item st hx fun h' st' sb=>fin h' _ (by decide) hty st' sb
 done:=by
  intro Y hP hw hK hc i pins s σ H E I hf st hg;subst hP hw hK;obtain ⟨f0,f1,f2,f3,f4,f5⟩:=hf it (by simp);have hx:x.cps[i]?=none:=Array.getElem?_eq_none hg;cases ha:x.cps.all (·<128)
  ·have hty:strIterType x = "str_iterator":=by simp [strIterType,ha]
   rw [hty] at st;exact wpAny_pyNext_wide_end (I.ok.hd hc) st hx fun h' eb=>⟨rfl,I.turned (t':=s.toks) (fun b o hb e=>eb b o hb e) f0 f1 f3 f4 f5⟩
  ·have hty:strIterType x = "str_ascii_iterator":=by simp [strIterType,ha]
   rw [hty] at st;exact wpAny_pyNext_ascii_end (I.ok.hd hc) st hx fun h' eb=>⟨rfl,I.turned (t':=s.toks) (fun b o hb e=>eb b o hb e) f0 f1 f3 f4 f5⟩
 self:=fun _ _ _ _ _ st h=>by
  cases ha:x.cps.all (·<128)
  ·have hty:strIterType x = "str_iterator":=by simp [strIterType,ha]
   rw [hty] at st;exact wpAny_pyIter_striter_wide st h
  ·have hty:strIterType x = "str_ascii_iterator":=by simp [strIterType,ha]
   rw [hty] at st;exact wpAny_pyIter_striter_ascii st h
section
variable {tg l a:Expr} {fl fa:FE} {rl ra:Bool} {p pos:Pos}
theorem N7 {pins:List (Addr×Obj)} {s1:Shared} {σ:L2.St} {H1:Hp} {R:It->Hp->Prop} {v:V} {u:Value} {d:D} {items:List D} (I1:Inv X pins σ H1 s1) (r:Rep All H1 v d) (ru:RelV v u) (hi:u5 d=.ok items)
  (q:∀J,(∀P:Addr->Prop,Rep P H1 v d->ItQ X.K P J H1 items)->R J H1):wpAny (model X.prog X.w) X.A (pyIter u) (PIE X pins σ tg R) X.xe s1:=by
 by_cases hz:∃z,d=.str z
 ·obtain ⟨z,rfl⟩:=hz;simp only [u5] at hi;split at hi
  ·cases hi;cases r;obtain ⟨t,rfl⟩:=ru;refine wpAny_pyIter_strU ?_;refine ⟨s1.heap.objs.size,[s1.heap.objs.size],_,_,H1,rfl,I1.kept (t':=s1.toks) fun b o e=>Heap.get?_push_of_some _ e,TY z t _,⟨_,Heap.get?_push_size _ rfl,rfl,rfl⟩,fun b hb=>?_,q _ fun P r=>.chs z rfl rfl⟩;have e:b=s1.heap.objs.size:=by simpa using hb
   subst e;exact I1.V6 (Nat.le_refl _) (I1.hok.fresh (Nat.le_refl _))
  ·cases hi
 ·have he:u5 d=CN d:=by
   unfold u5;split
   ·exact absurd ⟨_,rfl⟩ hz
   ·rfl
  rw [he] at hi;exact S_ I1 r ru hi q
theorem N8 (hl:PE X l (gE fl rl)):PI X tg l (gI X.K (lU fl rl)):=by
 intro pins s σ H R I ⟨ρ,items,k,E,h,q⟩;obtain ⟨d,h1,h⟩:=bH h;obtain ⟨its,h2,h⟩:=bH h;cases h;refine thn (hl pins s σ H _ I ⟨ρ,d,E,h1,fun v H1 s1 r1 n1=>(show (∃d',Rep All H1 v d/\d'=d/\∀J,(∀P:Addr->Prop,Rep P H1 v d->ItQ X.K P J H1 items)->R J H1) from ⟨d,r1,rfl,fun J hJ=>q J H1 s1 (hJ _ r1) fun hk=>hJ _ ?_⟩)⟩) fun u s1 ⟨v,H1,I1,ru,d',r1,e,q1⟩=>N7 I1 r1 ru h2 q1
 rw [Bool.or_eq_true] at hk;rcases hk with hk|hk
 ·exact n1 hk
 ·exact r1.cP hk
theorem oZ {pins:List (Addr×Obj)} {s:Shared} {σ:L2.St} {H:Hp} {h':Heap} {t':Nat} {ch:List Addr} {a:Addr} {o:HO} (I:Inv X pins σ H s) (k:∀b u,b∉ch->s.heap.get? b=some u->h'.get? b=some u) (hf:∀b∈ch,KZ X pins H b) (hp:s.heap.objs.size<=a)
  (new:fB X.prog X.w (upd H a o) h' a o):Inv X pins σ (upd H a o) {s with heap:=h',toks:=t'}:=by
 have hn:H a=none:=I.hok.fresh hp;have nch:∀b u,H b=some u->b∉ch:=fun b u e z=>by rw [(hf b z).1] at e;cases e
 have kU:∀b u,H b=some u->upd H a o b=some u:=fun b u e=>by rw [aR (bQ e hn)];exact e
 refine I.step (g':=s.gens) (d':=s.drawn) (ch:=ch) (fun b hb=>?_) (fun b u _ _ hc e _=>k b u hc e) (fun b u _ _ hc e _=>⟨u.slots,k b u hc e⟩) (fun b u _ e n=>?_)
  (fun b u hc e=>⟨u,k b u hc e⟩) (fun b xs e=>kU b _ e) (fun b u v e=>kU b _ e) (fun b ps e=>⟨#[],by rw [kU b _ e];simp⟩) (fun m hm=>?_) (fun b u e=>?_) I.bare
 ·obtain ⟨_,f1,_,f3,f4,f5⟩:=hf b hb;exact ⟨f3,f1,f4,f5⟩
 ·rw [aR (fun z=>absurd (Nat.lt_of_lt_of_le (Heap.lt_size e) hp) (by rw [z];exact Nat.lt_irrefl _))];exact n
 ·obtain ⟨u,es,ep,hu,r⟩:=hm;exact ⟨u,es,ep,k _ u (fun z=>(hf _ z).2.1 rfl) hu,r⟩
 ·by_cases hb:b=a
  ·subst hb;rw [aH] at e;cases e;exact new
  ·rw [aR hb] at e;refine (I.hok b u e).stay (fun c v hc q=>k c v ?_ q) (fun c q=>kU c _ q) fun c xs q=>kU c _ q
   rcases hc with z|z
   ·rw [z];exact nch b u e
   ·exact nch c _ z
theorem N_ {P:Program} {w:World} {K:PySem.W.Frag} {elts:List Expr} {x1} {tp:Pos} (a e it:Addr) (hne:e≠it):Turn P w K (.Tuple elts x1 tp) (Ite K a) [e,it] e (fun i h=>(∃old,IsEnum h e it i old)/\h.IsListIter it a i) where
 mem:=by simp
 obj:=fun i h st b hb=>by
  obtain ⟨⟨old,h1⟩,h2⟩:=st;rcases List.mem_cons.mp hb with rfl|hb
  ·exact ⟨_,h1,fun v z=>by
    have z':Data.fields _=Data.cell v:=z;cases z'⟩
  ·have e:b=it:=by simpa using hb
   subst e;obtain ⟨o,e,c,d⟩:=h2;exact ⟨o,e,fun v z=>by rw [d] at z;cases z⟩
 keep:=fun i h h' st k=>by
  obtain ⟨⟨old,h1⟩,h2⟩:=st;exact ⟨⟨old,k e (by simp) _ h1⟩,h2.at fun o e=>k it (by simp) o e⟩
 item:=by
  intro Y hP hw hK hc i pins s σ H E I hf st hg;subst hP hw hK;obtain ⟨⟨old,h1⟩,h2⟩:=st;obtain ⟨xs,x,hq,hx⟩:=hg;obtain ⟨its,rv,p,hz⟩:=I.list hq;obtain ⟨u,hu,ru⟩:=rv.get hx;have hlt:e<s.heap.objs.size:=Heap.lt_size h1;refine wpAny_pyNext_enum_item h1 h2 p.isList (x:=u) (by simpa using hu) hne fun h' o1 o2 o3 o4 o5=>?_
  refine ⟨_,rfl,wpAny_letOwnedTupleGo_enum o1 fun h'' g1 g2=>?_⟩;have g2':Heap.SameBut e h' h'':=g2;have kk:∀b o,b∉[e,it]->s.heap.get? b=some o->h''.get? b=some o:=fun b o hb eb=>by
   rw [List.mem_cons,List.mem_singleton,not_or] at hb;exact (g2'.2 b hb.1).trans (o5 b o hb.1 hb.2 eb)
  have o3':h''.get? s.heap.objs.size=some {cls:=.type "tuple",data:=.seq #[.int i s.toks,u]}:=(g2'.2 _ (Nat.ne_of_gt hlt)).trans o3;refine ⟨.ref s.heap.objs.size,upd H s.heap.objs.size (.tup [.int i,x]),oZ (s:=s) (h':=h'') (t':=s.toks+1) (ch:=[e,it]) I kk (fun b hb=>hf b hb) (Nat.le_refl _) ?_,rfl,⟨_,x,fun ys hy=>by rw [I.vJ hy hq];exact hx,rfl,I.hok.fresh (Nat.le_refl _),rfl⟩,⟨⟨_,g1⟩,?_⟩,fun b hb=>?_⟩
  ·exact ⟨by show 2<=sizeLine;rw [sizeLine_eq];decide,[.int i s.toks,u],.cons ⟨_,rfl⟩ (.cons ru .nil),⟨_,o3',rfl,0,rfl⟩⟩
  ·obtain ⟨o,ho,r⟩:=o2;exact ⟨o,(g2'.2 it (Ne.symm hne)).trans ho,r⟩
  ·have hb':=(hf b hb).1;rw [aR]
   ·exact hb'
   ·intro z;subst z;rcases List.mem_cons.mp hb with h|h
    ·rw [<-h] at hlt;exact Nat.lt_irrefl _ hlt
    ·have h':s.heap.objs.size=it:=by simpa using h
     obtain ⟨o,ho,_⟩:=h2;have:=Heap.lt_size ho;rw [<-h'] at this;exact Nat.lt_irrefl _ this
 done:=by
  intro Y hP hw hK hc i pins s σ H E I hf st hg;subst hP hw hK;obtain ⟨⟨old,h1⟩,h2⟩:=st;obtain ⟨xs,hq,hx⟩:=hg;obtain ⟨its,rv,p,hz⟩:=I.list hq;obtain ⟨f0,f1,f2,f3,f4,f5⟩:=hf it (by simp);have hl:=rv.length;exact wpAny_pyNext_enum_end (I.ok.hd hc) h1 h2 p.isList (by simp;lia) fun h' eb=>⟨rfl,I.turned (t':=s.toks) (fun b o hb e=>eb b o hb e) f0 f1 f3 f4 f5⟩
 self:=fun _ _ _ _ _ st h=>by
  obtain ⟨⟨old,h1⟩,h2⟩:=st;exact wpAny_pyIter_enum h1 h
theorem Z7 {elts:List Expr} {x1} {tp:Pos} (hg:Gl X "enumerate") (hm:X.mg "enumerate" = none) (ha:PA X [a] (gA (aD fa aZ) ra)) (hs:starEach [a] X.env=[(false,eval a X.env)]:=by rfl) :
  PI X (.Tuple elts x1 tp) (.Call (.Name "enumerate" p) [a] [] pos) (gI X.K (TX fa ra)):=by
 intro pins s σ H R I ⟨ρ,items,k,E,h,q⟩;obtain ⟨d,h1,h⟩:=bH h;obtain ⟨its,h2,h⟩:=bH h;cases h;have hd:d=.lst its:=by
  unfold TV at h2;split at h2
  ·cases h2;rfl
  ·cases h2
 subst hd;have hb:aD fa aZ ρ=.ok [D.lst its]:=by
  unfold aD;rw [h1];rfl
 refine Call_ (uR I hg hm PyProof.Rows.boot_enumerate (PyProof.Rows.callWith_type1 (thn (ha pos pins s σ H (fun vs H1=>∃v,vs=[v]/\cN H H1/\Rep All H1 v (.lst its)/\(ra=true->Rep (New H) H1 v (.lst its))) I ⟨ρ,_,E,hb,fun vs H1 s1 r1 n1=>?_⟩) fun us s1 ⟨vs,H1,I1,r1,q1⟩=>?_) hs rfl))
 ·cases r1 with
  | cons r t=>
   cases t;refine ⟨_,rfl,s1,r,fun z=>?_⟩;cases n1 z with
   | cons r' _=>exact r'
 ·obtain ⟨v,rfl,s1',r,n⟩:=q1;cases r1 with
  | cons rv rr=>
   cases rr;obtain ⟨l,ys,rfl,hl,rr⟩:=r.fK (K:=X.K);cases rv;obtain ⟨vs,rvs,pl,hz⟩:=I1.list hl;refine call_enumerate_list pl.isList fun h' e1 e2 e3 e4=>?_
   refine wpAny_pyIter_enum e1 ?_;refine ⟨s1.heap.objs.size+1,[s1.heap.objs.size+1,s1.heap.objs.size],_,_,H1,rfl,I1.kept (t':=s1.toks) fun b o e=>e4 b o e,N_ l (s1.heap.objs.size+1) s1.heap.objs.size (Nat.succ_ne_self _),⟨⟨_,e1⟩,e2⟩,fun b hb=>?_,q _ H1 s1' (.enm l its rfl r rfl) fun hk=>.enm l its rfl ?_ rfl⟩
   ·rcases List.mem_cons.mp hb with rfl|hb
    ·exact I1.V6 (Nat.le_succ _) (I1.hok.fresh (Nat.le_succ _))
    ·have e:b=s1.heap.objs.size:=by simpa using hb
     subst e;exact I1.V6 (Nat.le_refl _) (I1.hok.fresh (Nat.le_refl _))
   ·rw [Bool.or_eq_true] at hk;rcases hk with hk|hk
    ·exact n hk
    ·cases hk
end
end
theorem W2:bootBuiltins "all" = some (.builtin "all"):=by decide +kernel
end Mi
namespace Mi
open PySem L2
theorem W3 (b:Bool):asB (.bl b)=.ok b:=rfl
theorem cO:lim=1000000:=by unfold lim;exact Eq.refl _
theorem xP {n:Nat} {ρ:List D} (h:ρ.length=n):CP n ρ=ρ:=by
 subst h;apply List.ext_getElem
 ·simp [CP]
 ·intro i h1 h2;simp [CP,h2]
theorem cC {n:Nat} {f:List D->Res D} {ds:List D} (h:ds.length=n):dC n f ds=f ds:=by
 unfold dC;rw [if_pos (by simp [h])]
theorem aL {f:D->D->Res D} {a b:FE} {ρ:List D} {x y z:D} (h1:a ρ=.ok x) (h2:b ρ=.ok y) (h3:f x y=.ok z):b2 f a b ρ=.ok z:=by
 unfold b2;rw [h1,Res.aO,h2,Res.aO,h3]
theorem bW {i:Nat} {f:FE} {ρ:List D} {d:D} (h:f ρ=.ok d):dI false i f true ρ=.ok (.nx (ρ.set i d)):=by
 unfold dI;rw [h,Res.aO];rfl
theorem o6 {i:Nat} {f:FE} {ρ:List D} {d:D} (h:f ρ=.ok d) (hp:d.pure=true):dI false i f false ρ=.ok (.nx (ρ.set i d)):=by
 unfold dI;rw [h,Res.aO];simp only [hp,Bool.false_or,Bool.false_eq_true,if_false,if_true]
theorem aK {f g:FS} {ρ ρ':List D} {r:Res Fl} (h1:f ρ=.ok (.nx ρ')) (h2:g ρ'=r):bI f g ρ=r:=by
 unfold bI;rw [h1,Res.aO];exact h2
theorem aD0 {c:FT} {f g:FS} {ρ:List D} {k:Bool} {r:Res Fl} (h1:c ρ=.ok k) (h2:(if k then f ρ else g ρ)=r):sIf c f g ρ=r:=by
 unfold sIf;rw [h1,Res.aO];exact h2
theorem nA {c:FT} {f g:FS} {ρ:List D} {r:Res Fl} (h1:c ρ=.ok true) (h2:f ρ=r):sIf c f g ρ=r:=aD0 h1 (by rw [if_pos rfl];exact h2)
theorem jD {c:FT} {f g:FS} {ρ:List D} {r:Res Fl} (h1:c ρ=.ok false) (h2:g ρ=r):sIf c f g ρ=r:=aD0 h1 (by rw [if_neg (by simp)];exact h2)
theorem dJ {f:FE} {ρ:List D} {k:Bool} (h1:f ρ=.ok (.bl k)):bTB f ρ=.ok k:=by
 unfold bTB;rw [h1,Res.aO];rfl
theorem zR {a b:FT} {ρ:List D} {r:Res Bool} (h1:a ρ=.ok true) (h2:b ρ=r):J6 a b ρ=r:=by
 unfold J6;rw [h1,Res.aO,if_pos rfl,h2]
theorem T3 {a b:FT} {ρ:List D} (h1:a ρ=.ok false):J6 a b ρ=.ok false:=by
 unfold J6;rw [h1,Res.aO,if_neg (by simp)];rfl
theorem aD1 {f g:D->D->Res D} {a b c:FE} {ρ:List D} {x y z:D} {r:Res D} (h1:a ρ=.ok x) (h2:b ρ=.ok y) (h3:f x y=.ok (.bl true)) (h4:c ρ=.ok z) (h5:g y z=r):bCh f g a b c ρ=r:=by
 unfold bCh;rw [h1,Res.aO,h2,Res.aO,h3,Res.aO,W3,Res.aO,if_pos rfl,h4,Res.aO,h5]
theorem aF8 {f g:D->D->Res D} {a b c:FE} {ρ:List D} {x y:D} (h1:a ρ=.ok x) (h2:b ρ=.ok y) (h3:f x y=.ok (.bl false)):bCh f g a b c ρ=.ok (.bl false):=by
 unfold bCh;rw [h1,Res.aO,h2,Res.aO,h3,Res.aO,W3,Res.aO,if_neg (by simp)];rfl
theorem aG {a:FE} {b:FA} {ρ:List D} {x:D} {xs:List D} (h1:a ρ=.ok x) (h2:b ρ=.ok xs):aD a b ρ=.ok (x::xs):=by
 unfold aD;rw [h1,Res.aO,h2,Res.aO];rfl
theorem a_ {f:List D->Res D} {a:FA} {ρ:List D} {xs:List D} {d:D} (h1:a ρ=.ok xs) (h2:f xs=.ok d):aW f a ρ=.ok d:=by
 unfold aW;rw [h1,Res.aO,h2]
theorem OD {a:FA} {ρ:List D} {xs:List D} (h:a ρ=.ok xs) (hl:xs.length<=lim):Y8 a ρ=.ok (.tup xs):=by
 unfold Y8;rw [h,Res.aO,if_pos (decide_eq_true hl)];rfl
theorem cX {f:FE} {ρ:List D} {d:D} {k:Bool} (h:f ρ=.ok d) (hp:(k||d.pure)=true):fJ f k ρ=.ok (.rt d):=by
 unfold fJ;rw [h,Res.aO,if_pos hp]
theorem aD2 {it:FI} {t:D->List D->Res (List D)} {body:FS} {ρ:List D} {xs:List D} {r:Res Fl} (h1:it ρ=.ok (xs,true)) (h2:uE t body xs ρ=r):M6 it t body ρ=r:=by
 unfold M6;rw [h1,Res.aO];exact h2
theorem W4 {f:FA} {ρ:List D} {n:Int} (h:f ρ=.ok [.int n]) (h1:0<=n) (h2:n<=1000000):M4 f IV ρ=.ok ((List.range n.toNat).map fun (k:Nat)=>D.int (0+(k:Int)),true):=by
 unfold M4;rw [h,Res.aO];have:oK n=true:=by
  simp only [oK,Bool.and_eq_true,decide_eq_true_eq];lia
 simp only [IV,this,if_true]
theorem W5 {i:Nat} {f g:FE} {ρ:List D} {xs:List D} {j:Int} {d:D} (h1:f ρ=.ok (.int j)) (h2:g ρ=.ok d) (h3:ρ.getD i .uD=.lst xs) (h4:xs.length<lim) (h5:d.pure=true) (h6:0<=j) (h7:j<=xs.length):SN i f g ρ=.ok (.nx (ρ.set i (.lst (xs.take j.toNat++d::xs.drop j.toNat)))):=by
 unfold SN;rw [h1,Res.aO,h2,Res.aO,h3];simp only [decide_eq_true h4,h5,decide_eq_true h6,decide_eq_true h7,Bool.and_self,if_true]
theorem W6 {i:Nat} {f:FE} {ρ:List D} {xs:List D} {d:D} (h1:f ρ=.ok d) (h3:ρ.getD i .uD=.lst xs) (h4:xs.length<lim) (h5:d.pure=true):ZC i f ρ=.ok (.nx (ρ.set i (.lst (xs++[d])))):=by
 unfold ZC;rw [h1,Res.aO,h3];simp only [decide_eq_true h4,h5,Bool.and_self,if_true]
theorem o7 {t:D->List D->Res (List D)} {body:FS} {x:D} {xs:List D} {ρ ρ1 ρ2:List D} {r:Res Fl} (h1:t x ρ=.ok ρ1) (h2:body ρ1=.ok (.nx ρ2)) (h3:uE t body xs ρ2=r):uE t body (x::xs) ρ=r:=by
 rw [uE,h1,Res.aO,h2,Res.aO];exact h3
theorem o8 {n:Nat} {it:FI} {t:D->Res (List D)} {c:FT} {f:FE} {k kk:Bool} {ρ:List D} {xs ys:List D} (h1:it ρ=.ok (xs,kk)) (h2:xs.length<=lim) (h3:gQ (mZ n t c f k ρ) [] xs=.ok ys):vO n it t c f k ρ=.ok (.lst ys):=by
 unfold vO;rw [h1,Res.aO];simp only [decide_eq_true h2,if_true];rw [h3];rfl
theorem OJ {n:Nat} {c:FT} {f:FE} {k:Bool} {ρ acc:List D} {x y:D} {b:Bool} (hρ:ρ.length=n) (h1:c (ρ++[x])=.ok b) (h2:b=true->f (ρ++[x])=.ok y/\(k||y.pure)=true):mZ n M5 c f k ρ acc x=.ok (if b then acc++[y] else acc):=by
 unfold mZ;show (do let ok <- c (CP n ρ++[x]);_)=_;rw [xP hρ,h1,Res.aO];cases b with
 | true=>
  obtain ⟨e1,e2⟩:=h2 rfl;rw [if_pos rfl,e1,Res.aO,if_pos e2,if_pos rfl];rfl
 | false=>
  rw [if_neg (by simp),if_neg (by simp)];rfl
theorem xQ {α:Type} (g:List D->D->Res (List D)) (d:α->D) (p:α->Bool) (y:α->D) (h:∀acc a,g acc (d a)=.ok (if p a then acc++[y a] else acc)):∀(xs:List α) (acc:List D),gQ g acc (xs.map d)=.ok (acc++(xs.filter p).map y)
 | [],acc=>by simp [gQ]
 | x::xs,acc=>by
  rw [List.map_cons,gQ,h];show gQ g _ _=_;rw [xQ g d p y h xs];by_cases hp:p x
  ·simp [hp]
  ·simp [hp]
theorem eX (a b:Int):aP .add (.int a) (.int b)=.ok (.int (a+b)):=rfl
theorem O1 (a b:Int):aP .sub (.int a) (.int b)=.ok (.int (a-b)):=rfl
theorem mO (a b:Int) (h:j7 b=true):aP .mul (.int a) (.int b)=.ok (.int (a*b)):=by
 simp only [aP,h,Bool.or_true,if_true]
theorem O2 (a b:Int) (h:j7 a=true):aP .mul (.int a) (.int b)=.ok (.int (a*b)):=by
 simp only [aP,h,Bool.true_or,if_true]
theorem eY (a b:Int) (h1:0<b) (h2:b<1073741824):aP .fdiv (.int a) (.int b)=.ok (.int (a / b)):=by
 simp only [aP,decide_eq_true h1,decide_eq_true h2,Bool.and_self,if_true]
theorem cY (a b:Int) (h1:0<b):aP .mod (.int a) (.int b)=.ok (.int (a % b)):=by
 simp only [aP,decide_eq_true h1,if_true]
theorem k_ (a:Int) (h1:-1000000<=a) (h2:a<=1000000):j7 a=true:=by
 simp only [j7,Bool.and_eq_true,decide_eq_true_eq];lia
theorem lV (a b:Str) (h:a.length+b.length<=lim):aP .add (.str a) (.str b)=.ok (.str (a++b)):=by
 simp only [aP,decide_eq_true h,if_true]
theorem zT {o:gJ} {a b:D} {k:Bool} (h1:a.cQ bB=true) (h2:b.cQ bB=true) (h:xJ o a b=some k):bO (.ord o) a b=.ok (.bl k):=by
 simp only [bO,h1,h2,h,Bool.and_self,if_true]
theorem Z8 (a b:List D) (h:a.length+b.length<=lim) (ha:D.bU a=true) (hb:D.bU b=true):aP .add (.lst a) (.lst b)=.ok (.lst (a++b)):=by
 simp only [aP,decide_eq_true h,ha,hb,Bool.and_self,if_true]
theorem JH (S:List Int):D.bU (S.map D.int)=true:=by
 induction S with
 | nil=>rfl
 | cons q Q ih=>rw [List.map_cons,D.bU,ih];rfl
theorem Z9 (ns:List Int) (lo hi:Option Int):cutD (ns.map D.int) lo hi=(cutD ns lo hi).map D.int:=by
 unfold cutD;rw [List.length_map,List.map_take,List.map_drop]
end Mi
namespace Mi
open PySem L2 PySem.SeqAt PySem.Spec PyProof.Rows
section
variable [KFrag]
theorem PS.nox {X:Cx} {st:Stmt} {t:TS} (h:PS X.nox st t):PS X st t:=fun pins s σ H D I hw=>
 wpAny_mono (h pins s σ H D (I.wish _) hw) (fun _ _ q=>SP.i_ q) fun _ _ z=>False.elim z
end
end Mi
namespace Mi
open PySem L2 PySem.W PySem.SeqAt PySem.Spec PyProof.Rows PySem.Builtin PySem.Builtin.ObjectAttr PySem.Builtin.Getset_descriptor
def ExcAt (a C:Addr) (h:Heap):Prop:=∃o,h.get? a=some o/\o.cls=.ref C
structure XC (K:Frag) (C:Addr):Prop where
 cl:(clsIn K C).isSome=true
 ga:findIn K (.ref C) "__getattribute__" = some (some (.builtin "BaseException.__getattribute__"))
 gh:findIn K (.ref C) "__getattr__" = some none
 kc:findIn K (.ref C) "__class__" = some (some (.builtin "object.__class__"))
 kg:specialIn K (.builtin "object.__class__") "__get__" = some (some (.builtin "getset_descriptor.__get__"))
 kt:takesIn K (.builtin "object.__class__")=some true
 ob:mroIn K C (.type "object")=some true
 be:mroIn K C (.type "BaseException")=some true
section
variable {prog:Program} {w:World} {A:Around} {E:Value->Shared->Prop} {s:Shared} {K:Frag} {x C:Addr}
theorem u9 {M:Model} {h:Heap} (p:ExcAt x C h):Looks M h (typeOf (.ref x)) (.ref C):=by
 obtain ⟨o,h1,h2⟩:=p;rw [<-h2];exact (Looks.ld h1).andThen .now
theorem T4 {M:Model} {h:Heap} (X:K.In h) (c:XC K C):Looks M h (find (.ref x) (.ref C) "__class__") (.bind (.builtin "getset_descriptor.__get__") (.builtin "object.__class__")):=by
 refine (looks_findIn (M:=M) X c.kc).andThen ((looks_specialIn (M:=M) X c.kg).andThen ?_);have L:Looks M h (dataDescriptor? (some (.builtin "object.__class__")) (some (.builtin "getset_descriptor.__get__"))) (some (.builtin "getset_descriptor.__get__",.builtin "object.__class__")):=(looks_takesIn (M:=M) X c.kt).andThen .now;exact L.andThen (Looks.tag .now)
theorem Z_ {R:Result->Shared->Prop} {tp:Value} (X:K.In s.heap) (p:ExcAt x C s.heap) (c:XC K C) (h:R (.ok (.ret (.ref C))) s) :
  codeAny (model prog w) A (.call (.builtin "getset_descriptor.__get__") ⟨[.builtin "object.__class__",.ref x,tp],[]⟩) R s:=by
 obtain ⟨hh,g,d,t,os⟩:=s;have L0:=u9 (M:=model prog w) p;have L1:=looks_mroIn (M:=model prog w) X c.ob;refine codeAny_call_builtin KF.slot_gs.plain KF.entry_gs (KF.slot_gs.check _ _ _ _ _ _ _ _ KF.type_class (KF.args_gs _ _ _) ?_)
 (unfold Builtin.«getset_descriptor.__get__» descrGet;rw [dga_obj];refine wpAny_bind (wpAny_pure ?_);unfold descrGetter descrCheckInstance descrNameAndClass isInstance;simp only [KF.owner_class])
 repeat lk
 refine ⟨Code.quiet_builtin _ (by decide +kernel),codeAny_builtin KF.entry_class ?_⟩
 (unfold Builtin.«object.__class__» shownTypeOf;repeat lk)
 exact h
theorem O3 {tk:Tok} {Q:Fin->Shared->Prop} (X:K.In s.heap) (p:ExcAt x C s.heap) (c:XC K C) (h:Q (.done (.ret (.ref C))) s) :
  wpAny (model prog w) A (Builtin.«object.__getattribute__» ⟨[.ref x,.str "__class__" tk],[]⟩) Q E s:=by
 obtain ⟨hh,g,d,t,os⟩:=s;have L0:=u9 (M:=model prog w) p;have L1:=T4 (M:=model prog w) (x:=x) X c;unfold Builtin.«object.__getattribute__»;refine wpAny_bind (wpAny_pure ?_);refine wpAny_bind (wpAny_pure ?_);refine wpAny_bind (L0.at (wpAny_bind (L1.at ?_)));show wpAny _ _ (holding [_] (call _ [_,.ref x,.ref C]) >>= ret) _ _ _;exact wpAny_bind (wpAny_holding (wpAny_call (Z_ X p c (wpAny_pure h))))
theorem xR {M:Model} {nv:Value} {Q:Unit->Shared->Prop} (X:K.In s.heap) (p:ExcAt x C s.heap) (c:XC K C) (h:Q () s):wpAny M A (checkBuiltinCall "BaseException.__getattribute__" ⟨[.ref x,nv],[]⟩) Q E s:=by
 obtain ⟨hh,g,d,t,os⟩:=s;have L0:Looks M hh (isInstance (.ref x) (.type "BaseException")) true:=(u9 (M:=M) p).andThen (looks_mroIn (M:=M) X c.be);have e1:builtinKind "BaseException.__getattribute__" = some .slot:=by decide +kernel
 have e2:splitId "BaseException.__getattribute__" = some ("BaseException", "__getattribute__"):=by decide +kernel
 have ha:=F.args_bexc_ga (.ref x) nv;simp only [checkBuiltinCall,e1,e2];refine wpAny_bind (L0.at ?_)
 repeat (any_goals (first|assumption|wp_step))
theorem aA0 {Q:Option Value->Shared->Prop} (X:K.In s.heap) (p:ExcAt x C s.heap) (c:XC K C) (h:Q (some (.ref C)) {s with toks:=s.toks+1}):wpAny (model prog w) A (getAttr? (.ref x) "__class__") Q E s:=by
 obtain ⟨hh,g,d,t,os⟩:=s;have L0:=u9 (M:=model prog w) p;have L1:=looks_findIn (M:=model prog w) X c.ga;have L2:=looks_findIn (M:=model prog w) X c.gh;have e2:(Value.builtin "BaseException.__getattribute__" == Value.builtin "object.__getattribute__")=false:=by decide +kernel
 have e1:(onTheHeap (Value.ref C)&&Value.builtin "BaseException.__getattribute__" == Value.builtin "object.__getattribute__")=false:=by rw [e2];rfl
 unfold getAttr? getAttrBy? getAttrBy;refine wpAny_bind (wpAny_mkText (wpAny_bind (wpAny_attempt (wpAny_holding (wpAny_bind (L0.at (wpAny_bind (L1.at ?_))))))));dsimp only;rw [e1,if_neg (by decide)];unfold getAttrByItsOwn hookBefore callGetattribute boundAndCalled;rw [if_pos (show onTheHeap (Value.ref C)=true from rfl)];refine wpAny_bind (L2.at (wpAny_bind (wpAny_attempt (wpAny_holding ?_))));rw [if_neg (by decide)];refine wpAny_bind (wpAny_of_eq (F.excAttr_ValueError.ga.bind (.ref x)) ?_);refine wpAny_call (codeAny_call_builtin F.excAttr_ValueError.ga.plain F.entry_bexc_ga (xR (K:=K) (C:=C) X p c (O3 (K:=K) (C:=C) X p c ?_)));show wpAny _ _ (handedOut (.ref C)) _ _ _;exact wpAny_pure (wpAny_pure h)
theorem E_ (c:XC K C):KitX K (.ref x) (.ref C) (ExcAt x C) where
 ty:=fun _ _ _ p=>u9 p
 it:=fun M h X _=>by
  obtain ⟨cd,hc⟩:=Option.isSome_iff_exists.mp c.cl;unfold clsIn at hc;split at hc
  ·rename_i ho;intro A' Q' E' s' k q
   (unfold isType loadHead;exact wpAny_bind (wpAny_loadPart (k _ _ (X _ _ ho)) (wpAny_pure q)))
  ·cases hc
 ne:=fun h tp dd its n sl X e=>by
  obtain ⟨cd,hc⟩:=Option.isSome_iff_exists.mp c.cl;unfold clsIn at hc;split at hc
  ·rename_i ho;refine Bool.eq_false_iff.mpr fun q=>?_
   have z:C=tp:=Value.ref.inj (beq_iff_eq.mp q);subst z;cases (X _ _ ho).symm.trans e
  ·cases hc
 ca:=fun X p h=>aA0 X p c h
end
end Mi
namespace Mi
open PySem L2 PySem.W PySem.SeqAt PySem.Spec PyProof.Rows
noncomputable abbrev mrk (X:Cx) (v:Value):Cx:={X with A:=X.A.mark (some v),calm:=false}
section
variable {X:Cx} {pins:List (Addr×Obj)} {σ:L2.St} {H H2:Hp} {s:Shared} {h h6:Heap} {a:Addr}
theorem O4 (I:Inv X pins σ H s) (v:Value):Inv (mrk X v) pins σ H s:=
 ⟨⟨I.ok.mod,I.ok.kind,I.ok.glob,I.ok.blt,I.ok.above,I.ok.inj,I.ok.has,I.ok.cab,(fun z=>nomatch z),I.ok.frames,I.ok.stk,I.ok.exf,I.ok.bs,I.ok.bsz,I.ok.noex,I.ok.exfs,I.ok.HJ,I.ok.frf⟩,I.os,I.bare,I.base,I.loc,I.cell,I.free,I.freeC,I.pin,I.hok,I.len⟩
theorem O5 {v:Value} (ok:X.Ok) (I:Inv (mrk X v) pins σ H s):Inv X pins σ H s:=
 ⟨ok,I.os,I.bare,I.base,I.loc,I.cell,I.free,I.freeC,I.pin,I.hok,I.len⟩
theorem W7 {fs:List Addr} {o:HO} (u:Un fs [] H H2 h h6) (hg:h.get? a=none) (hn:H2 a=none):Un fs [] H (upd H2 a o) h h6:=by
 have ne:∀b ob,h.get? b=some ob->b≠a:=fun b ob q z=>by rw [z,hg] at q;cases q
 refine ⟨u.keep,u.slot,fun b ob q n hx=>by rw [aR (ne b ob q)];exact u.free b ob q n hx,u.there,fun b xs q=>?_,fun b ob xs q=>?_,fun b ps q=>?_⟩
 ·have z:=u.tups b xs q;rw [aR (bQ z hn)];exact z
 ·have z:=u.frzs b ob xs q;rw [aR (bQ z hn)];exact z
 ·obtain ⟨m,z⟩:=u.tbls b ps q;exact ⟨m,by rw [aR (bQ z hn)];exact z⟩
theorem O6 {P:Program} {w:World} {o:HO} (x:HOk P w H2 h6) (hn:H2 a=none) (new:fB P w (upd H2 a o) h6 a o):HOk P w (upd H2 a o) h6:=fun b u e=>by
 by_cases hb:b=a
 ·subst hb;rw [aH] at e;cases e;exact new
 ·rw [aR hb] at e;exact (x b u e).stay (fun c v _ q=>q) (fun c q=>by rw [aR (bQ q hn)];exact q) fun c xs q=>by rw [aR (bQ q hn)];exact q
theorem T5 {i:Nat} {x:Str} {v:Option Value} {t':Nat} {h':Heap} {m:Str->Option Value} (I:Inv X pins σ H s) (hN:X.N.Nodup) (hi:X.N[i]?=some x) (hn:s.heap.Ns X.env.locals m)
  (hl:∀(i:Nat) (x:Str) (v:V),X.N[i]?=some x->σ[i]?=some (some v)->Vis X.env.scope x->∃u,RelV v u/\Look X.env s.heap m x u)
  (hn':h'.Ns X.env.locals (fun y=>if y=x then v else m y)) (hs:Heap.SameBut X.env.locals s.heap h'):Inv X pins (σ.set i none) H {s with heap:=h',toks:=t'}:=by
 have hiσ:i<σ.length:=by rw [I.len];exact (List.getElem?_eq_some_iff.mp hi).1
 have cne:=I.cne;have ne:∀b o,X.s₀.heap.get? b=some o->b≠X.env.locals:=fun b o e=>Nat.ne_of_lt (Nat.lt_of_lt_of_le (Heap.lt_size e) I.ok.above)
 refine ⟨I.ok,I.os,I.bare,⟨fun b o e n hb hx=>(hs.2 b (ne b o e)).trans (I.base.keep b o e n hb hx),fun b o e n hb hx=>?_,I.base.free,fun b o e hx=>?_,I.base.tups,I.base.frzs,I.base.tbls⟩,⟨_,hn',fun j y v' e1 e2 e3=>?_⟩,fun y c e=>?_,I.free,I.freeC,fun p hp=>?_,fun b ob e=>?_,by simpa using I.len⟩
 ·obtain ⟨sl,e1⟩:=I.base.slot b o e n hb hx;exact ⟨sl,(hs.2 b (ne b o e)).trans e1⟩
 ·obtain ⟨o',e1⟩:=I.base.there b o e hx;exact ⟨o',(hs.2 b (ne b o e)).trans e1⟩
 ·by_cases hj:j=i
  ·subst hj;rw [List.getElem?_set_self hiσ] at e2;cases e2
  ·rw [List.getElem?_set_ne (Ne.symm hj)] at e2;obtain ⟨u',r',q⟩:=hl j y v' e1 e2 e3;refine ⟨u',r',?_⟩;rcases q with ⟨k,e⟩|⟨k,c,e,z⟩
   ·refine .inl ⟨k,?_⟩;have:y≠x:=fun e=>hj (vI hN e1 (e▸hi))
    simp [this,e]
   ·exact .inr ⟨k,c,e,z.sameBut hs (cne y c e)⟩
 ·obtain ⟨w',z⟩:=I.cell y c e;exact ⟨w',z.sameBut hs (cne y c e)⟩
 ·obtain ⟨e,n,ne,nf,d⟩:=I.pin p hp;exact ⟨(hs.2 p.1 ne).trans e,n,ne,nf,d⟩
 ·refine (I.hok b ob e).stay (fun c w' hc q=>(hs.2 c ?_).trans q) (fun _ q=>q) fun _ _ q=>q
  intro z;rcases hc with hc|hc
  ·rw [<-hc,z,I.free] at e;cases e
  ·rw [z,I.free] at hc;cases hc
end
variable [KFrag]
theorem xT:∀{cs:List Addr} {us:List Value},Vals (cs.map V.ref) us->us=cs.map Value.ref
 | [],_,.nil=>rfl
 | c::cs,_,.cons r t=>by rw [xT t];cases r;rfl
theorem lA {H:Hp} {a:Addr} {o:HO} (h:H a=none):cN H (upd H a o):=fun b u e=>by rw [aR (bQ e h)];exact e
theorem v4:bootBuiltins "ValueError" = some (.type "ValueError"):=by decide +kernel
end Mi
namespace Mi
open PySem L2 PySem.SeqAt PySem.Spec PyProof.Rows
noncomputable def aE9:List D->Res D
 | [.bl b]=>.ok (.int (if b then 1 else 0))
 | [.int i]=>.ok (.int i)
 | _=>.bad
variable [KFrag]
theorem aA1 {X:Cx}:jN X (.type "int") (rs aE9 true):=by
 intro pins s σ H xs us Q I vr ⟨ds,d,r,e,k⟩;unfold aE9 at e;split at e
 ·cases e;obtain ⟨vv,uu,rfl,rfl,r,v⟩:=fO r vr;cases r;cases v;exact call_int_bool ⟨.int _,H,I.tok _,⟨_,rfl⟩,k.int⟩
 ·cases e;obtain ⟨vv,uu,rfl,rfl,r,v⟩:=fO r vr;cases r;obtain ⟨t,rfl⟩:=v;exact call_int_int ⟨.int _,H,I,⟨_,rfl⟩,k.int⟩
 ·cases e
end Mi
namespace Ws
open PySem PySem.Spec PySem.Builtin PySem.Builtin.Str
theorem JK (x y:Str) (t u:Tok) (hy:(y.length==0)=false) (hx:x.length<=sizeLine) (hl:(Txt.split x y).length<=sizeLine) :
  Meets (Builtin.«str.split» ⟨[.str x t,.str y u],[]⟩) (fun _ R s=>∀l tk,l.map (·.1)=Txt.split x y->R (.ok (.ret (.ref s.heap.objs.size))) {s with heap:=s.heap.push {cls:=.type "list",data:=.seq (strValues l).toArray},toks:=tk}):=.of_wp fun prog w A R s q=>by
 obtain ⟨raising,e⟩:=split_sep_tree x y t u;rw [e];obtain ⟨hp,g,d,tk,os⟩:=s;unfold Txt.split at q hl;by_cases h1:(decide (x.length<y.length)||decide (strKind x<strKind y))=true
 ·rw [if_pos h1] at q ⊢
  wp_walk
  exact ⟨_,rfl,q [(x,t)] tk rfl⟩
 ·rw [if_neg h1] at q hl ⊢;rw [if_neg (by rw [hy];exact Bool.false_ne_true)];by_cases h2:(occurrences x y 0 x.length (x.length+1)).isEmpty=true
  ·rw [if_pos h2] at q;rw [if_pos (by rw [h2];rfl)]
   wp_walk
   exact ⟨_,rfl,q [(x,t)] tk rfl⟩
  ·rw [if_neg h2] at q hl;rw [if_neg (by rw [Bool.true_and];exact h2)];refine wpAny_bind (wpAny_mapM_mkStr _ _ _ (fun p hp=>?_) (wpAny_bind (wpAny_newList (wpAny_pure ⟨_,rfl,?_⟩) ?_)))
   ·obtain ⟨r,_,rfl⟩:=List.mem_map.mp hp;exact fits_strSub _ _ hx
   ·rw [strsFrom_eq];exact q (numbered tk _) _ (numbered_texts ..)
   ·rw [strsFrom_length];exact hl
end Ws
namespace Mi
open PySem L2 PySem.SeqAt PySem.Spec PyProof.Rows
def splitM:D->List D->Res D
 | .str x,[.str y]=>if decide (x.length<=lim)&&decide ((Txt.split x y).length<=lim)&&!(y.length==0) then .ok (.lst ((Txt.split x y).map D.str)) else .bad
 | _,_=>.bad
variable [KFrag]
theorem lB {P:Addr->Prop} {H:Hp}:∀{l:List (Str×Tok)} {ts:List Str},l.map (·.1)=ts->Vals (ts.map V.str) (strValues l)/\bV P H (ts.map V.str) (ts.map D.str)
 | [],_,h=>by cases h;exact ⟨.nil,.nil⟩
 | p::l,_,h=>by
  cases h;obtain ⟨h1,h2⟩:=lB (P:=P) (H:=H) (l:=l) rfl;exact ⟨.cons ⟨p.2,rfl⟩ h1,.cons (.str _) h2⟩
theorem FJ {X:Cx}:MtR X "str.split" (rm splitM true):=by
 intro pins s σ H x xs v us Q I rv vr ⟨a,ds,d,ra,rs,h,k⟩;unfold splitM at h;split at h
 ·rename_i x y;split at h
  ·rename_i hok;rw [Bool.and_eq_true,Bool.and_eq_true,Bool.not_eq_true',decide_eq_true_eq,decide_eq_true_eq] at hok;cases h;obtain ⟨vv,uu,rfl,rfl,r,rk⟩:=fO rs vr;cases r;obtain ⟨u,rfl⟩:=rk;cases ra;obtain ⟨t,rfl⟩:=rv;have hls:∀{n:Nat},n<=lim->n<=sizeLine:=fun h=>Nat.le_trans h (by rw [sizeLine_eq];decide)
   refine call_meets F.slot_str_split (typeIs_str _ _ _) F.entry_str_split (F.args_str_split_2 _ _) (Ws.JK x y t u hok.2 (hls hok.1.1) (hls hok.1.2)) fun l tk hl2=>?_
   obtain ⟨v1,r1⟩:=lB (P:=All) (H:=H) hl2;have hz:((Txt.split x y).map V.str).length<=sizeLine:=by rw [List.length_map];exact hls hok.1.2
   have sp:=cN.upd (o:=.lst ((Txt.split x y).map V.str)) I.fresh;refine ⟨.ref s.heap.objs.size,_,I.aG0 (t':=tk) v1 hz,rfl,?_⟩;exact k _ _ sp (.lst aH trivial (lB (P:=All) hl2).2) fun _=>.lst aH I.fresh (lB hl2).2
  ·cases h
 ·cases h
theorem xU {X:Cx} {d:D} {ds:List D} {r:D} {v:V} {H:Hp} (h:splitM d ds=.ok r) (rp:Rep All H v d):tyV X.K "str" v H:=by
 have:∃z,d=.str z:=by
  unfold splitM at h;split at h
  ·exact ⟨_,rfl⟩
  ·cases h
 obtain ⟨z,rfl⟩:=this;cases rp;rfl
end Mi
namespace Ws
open PySem PySem.Spec PySem.Builtin PySem.SeqAt PyProof.Rows
section
variable {prog:Program} {w:World} {A:Around} {E:Value->Shared->Prop} {s:Shared}
theorem O7 {l:Addr} {items:Array Value} {x:Value} (e:Value->Bool) {j:Nat} {R:PySem.Fin->Shared->Prop} (hj:j<items.size)
  (hit:e items[j]=true) (hno:∀m (hm:m<items.size),m<j->e items[m]=false) (ht:IsTup s.heap l items) (he:∀y,y∈items->EqAt A s y x (e y)) (h:R (.done (.ret (.int j s.toks))) {s with toks:=s.toks+1}) :
  wpAny (model prog w) A (Builtin.«tuple.index» ⟨[.ref l,x],[]⟩) R E s:=by
 show wpAny _ _ (Builtin.Tuple.tupleItemsOf (.ref l) >>= _) _ _ s;refine wpAny_bind (tupleItemsOf_ ht ?_);show wpAny _ _ (bind (forIn [0:Min.min items.size items.size] _ _) _) _ _ s;rw [Std.Legacy.Range.forIn_eq_forIn_range'];refine wpAny_bind (wpAny_forIn_list _ (fun rest b s'=>b.1=none/\s'=s/\∃k,rest=List.range' k (items.size-k)/\k<=j) _ ?_ ?_ _ _ ⟨rfl,rfl,0,by simp [Std.Legacy.Range.size],Nat.zero_le _⟩)
 ·rintro y rest b s' ⟨hb,rfl,k,hk,hkj⟩;have hlt:k<items.size:=Nat.lt_of_le_of_lt hkj hj;rw [show items.size-k=(items.size-(k+1))+1 by lia,List.range'_succ] at hk;injection hk with h1 h2
  subst h1;have hi:items[y]?=some items[y]:=by simp [hlt]
  show wpAny _ _ (match items[y]? with|some z=>_|x=>_) _ _ s';rw [hi];refine wpAny_bind (he _ (Array.getElem_mem hlt) prog w _ _ ?_);by_cases hyj:y=j
  ·subst hyj;rw [hit];show wpAny _ _ (retInt y >>= _) _ _ s';unfold retInt;exact wpAny_bind (wpAny_bind (wpAny_mkInt (wpAny_pure (wpAny_pure (wpAny_pure h)))))
  ·rw [hno y hlt (by lia)];exact wpAny_pure ⟨rfl,rfl,y+1,h2,by lia⟩
 ·rintro ⟨b1,b2⟩ s' ⟨hb,rfl,k,hk,hkj⟩;rw [show items.size-k=(items.size-(k+1))+1 by lia,List.range'_succ] at hk;cases hk
end
end Ws
namespace Mi
open PySem L2 PySem.SeqAt PySem.Spec PyProof.Rows
def aA2 (y:D):List D->Option Nat
 | []=>none
 | z::r=>if eqD z y then some 0 else (aA2 y r).map (·+1)
def u_:D->List D->Res D
 | .tup xs,[y]=>if y.cQ bB&&D.eV bB xs then (match aA2 y xs with|some j=>.ok (.int j)|none=>.bad) else .bad
 | _,_=>.bad
variable [KFrag]
theorem O8 {H:Hp} {a:D}:∀{xs:List V} {ds:List D} {its:List Value} {j:Nat},D.eV bB ds=true->bV All H xs ds->Vals xs its->aA2 a ds=some j->∃hj:j<its.length,eqD (vV H its[j]) a=true/\∀m (hm:m<its.length),m<j->eqD (vV H its[m]) a=false
 | _,_,_,_,_,.nil,.nil,h=>by cases h
 | _,_,_,j,hq,.cons r t,.cons v vt,h=>by
  rw [D.eV,Bool.and_eq_true] at hq;rw [aA2] at h;split at h
  ·rename_i he;cases h;refine ⟨Nat.zero_lt_succ _,?_,fun m hm z=>absurd z (Nat.not_lt_zero _)⟩;rw [List.getElem_cons_zero,vW hq.1 v r];exact he
  ·rename_i he;obtain ⟨k,h1,rfl⟩:=Option.map_eq_some_iff.mp h;obtain ⟨hj,h2,h3⟩:=O8 hq.2 t vt h1;refine ⟨Nat.succ_lt_succ hj,by rw [List.getElem_cons_succ];exact h2,fun m hm z=>?_⟩;cases m with
   | zero=>rw [List.getElem_cons_zero,vW hq.1 v r];exact Bool.eq_false_iff.mpr he
   | succ m=>rw [List.getElem_cons_succ];exact h3 m (Nat.lt_of_succ_lt_succ hm) (Nat.lt_of_succ_lt_succ z)
section
variable {X:Cx}
theorem O9 (hu:X.A.units+20<cLine):MtR X "tuple.index" (rm u_ true):=by
 intro pins s σ H x xs v us Q I rv vr ⟨a,ds,d,ra,rs,h,k⟩;unfold u_ at h;split at h
 ·rename_i ys y;split at h
  ·rename_i hl;rw [Bool.and_eq_true] at hl;split at h
   ·rename_i j hj;cases h;obtain ⟨vv,uu,rfl,rfl,r,rk⟩:=fO rs vr;obtain ⟨l,zs,rfl,ee,rr⟩:=ra.eZ;cases rv;obtain ⟨its,vr',pl⟩:=gR I ee;obtain ⟨h1,h2,h3⟩:=O8 hl.2 rr vr' hj;have mm:=fun w hw=>oU I hu hl.1 r rk hl.2 rr vr' w hw
    obtain ⟨⟨cls,dd,data,sl⟩,ho,hc,n,hd⟩:=id pl;have hfin:EP X pins σ Q (.int j s.toks) {s with toks:=s.toks+1}:=⟨.int j,H,I.tok _,⟨_,rfl⟩,k.int⟩
    refine wpAny_call (codeAny_call_builtin F.slot_tuple_index.plain F.entry_tuple_index (F.slot_tuple_index.check _ _ _ _ _ _ _ _ ⟨_,ho,hc⟩ (F.args_tuple_index_2 _ _) ?_));exact Ws.O7 (A:=X.A.in1) (fun u=>eqD (vV H u) y) (by simpa using h1) (by simpa using h2) (fun m hm hmj=>by simpa using h3 m (by simpa using hm) hmj) pl (fun w hw=>mm w (by simpa using hw)) hfin
   ·cases h
  ·cases h
 ·cases h
theorem O_ {d:D} {ds:List D} {r:D} {v:V} {H:Hp} (h:u_ d ds=.ok r) (rp:Rep All H v d):tyV X.K "tuple" v H:=by
 unfold u_ at h;split at h
 ·obtain ⟨a,xs,rfl,e,_⟩:=rp.eZ;exact .inr (.inl ⟨rfl,.inr ⟨_,e⟩⟩)
 ·cases h
end
end Mi
namespace Mi
open PySem L2 PySem.SeqAt PySem.Spec PyProof.Rows
def T6 (d k e:D):Res D:=
 match d,k with
 | .lst xs,.int j=>match (ixD xs.length j).bind fun n=>(xs[n]?).map fun y=>(n,y) with
  | some (n,.lst ys)=>if decide (ys.length<lim)&&e.pure then .ok (.lst (xs.set n (.lst (ys++[e])))) else .bad
  | _=>.bad
 | .dct kvs,k=>if oJ k then (match dX kvs k with
  | some (.lst ys)=>if decide (ys.length<lim)&&e.pure then .ok (.dct (putD kvs k (.lst (ys++[e])))) else .bad
  | _=>.bad) else .bad
 | _,_=>.bad
def PB (i:Nat) (fk fe:FE):FS:=fun ρ=>do
 let d <- fU i ρ
 let k <- fk ρ
 let e <- fe ρ
 let r <- T6 d k e
 .ok (.nx (ρ.set i r))
noncomputable def aG4 (i:Nat) (d:D):FS:=fun ρ=>.ok (.nx (ρ.set i d))
noncomputable def aF9 (ks:List Str):D:=.dct (ks.map fun k=>(.str k,.lst []))
variable [KFrag]
noncomputable abbrev Cel:=Nat->Option (Addr×List Addr)
def nC (c:Cel) (a:Addr):Prop:=∃i b as,c i=some (b,as)/\a∈b::as
inductive InL (H:Hp):List V->List D->List Addr->Prop
 | nil:InL H [] [] []
 | cons {a:Addr} {vs:List V} {ds:List D} {r:List V} {es:List D} {as:List Addr}:H a=some (.lst vs)->bV All H vs ds->D.bU ds=true->InL H r es as->InL H (.ref a::r) (.lst ds::es) (a::as)
inductive InK (H:Hp):List (Key×V)->List (D×D)->List Addr->Prop
 | nil:InK H [] [] []
 | cons {k:Key} {a:Addr} {vs:List V} {ds:List D} {r:List (Key×V)} {es:List (D×D)} {as:List Addr}:H a=some (.lst vs)->bV All H vs ds->D.bU ds=true->InK H r es as->InK H ((k,.ref a)::r) ((kD k,.lst ds)::es) (a::as)
inductive InA (H:Hp) (as:List Addr):List V->List D->Prop
 | nil:InA H as [] []
 | cons {a:Addr} {vs:List V} {ds:List D} {r:List V} {es:List D}:a∈as->H a=some (.lst vs)->bV All H vs ds->D.bU ds=true->InA H as r es->InA H as (.ref a::r) (.lst ds::es)
noncomputable def aD3:HO->Bool
 | .lst _=>true
 | .dK _=>true
 | _=>false
theorem PJ {o:HO} (h:aD3 o=true):wQ o=true:=by cases o <;> first|rfl|cases h
inductive xV (q:Bool) (H:Hp) (b:Addr) (as:List Addr):D->Prop
 | lst {vs:List V} {ds:List D}:H b=some (.lst vs)->InL H vs ds as->xV q H b as (.lst ds)
 | dct {kvs:List (Key×V)} {ds:List (D×D)}:H b=some (.dK kvs)->InK H kvs ds as->(kvs.map (·.1)).Nodup->xV q H b as (.dct ds)
 | pln {d:D} {o:HO}:as=[]->H b=some o->aD3 o=true->Rep All H (.ref b) d->inner d=true->xV q H b as d
 | any {vs:List V} {ds:List D}:q=true->H b=some (.lst vs)->InA H as vs ds->(∀a∈as,∃ws,H a=some (.lst ws))->xV q H b as (.lst ds)
section
variable {H H':Hp} {vs:List V} {ds:List D} {as:List Addr} {kvs:List (Key×V)} {es:List (D×D)}
theorem InL.reps (h:InL H vs ds as):bV All H vs ds:=by
 induction h with
 | nil=>exact .nil
 | cons e r p t ih=>exact .cons (.lst e trivial r) ih
theorem InK.reps (h:InK H kvs es as):m7 All H kvs es:=by
 induction h with
 | nil=>exact .nil
 | cons e r p t ih=>exact .cons (.lst e trivial r) ih
theorem InL.same (h:InL H vs ds as) (s:cN H H'):InL H' vs ds as:=by
 induction h with
 | nil=>exact .nil
 | cons e r p t ih=>exact .cons (s _ _ e) (r.same s) p ih
theorem InK.same (h:InK H kvs es as) (s:cN H H'):InK H' kvs es as:=by
 induction h with
 | nil=>exact .nil
 | cons e r p t ih=>exact .cons (s _ _ e) (r.same s) p ih
theorem InL.live (h:InL H vs ds as):∀a∈as,∃ws,H a=some (.lst ws):=by
 induction h with
 | nil=>intro a ha;cases ha
 | cons e r p t ih=>
  intro a ha;rcases List.mem_cons.mp ha with rfl|ha
  ·exact ⟨_,e⟩
  ·exact ih a ha
theorem InK.live (h:InK H kvs es as):∀a∈as,∃ws,H a=some (.lst ws):=by
 induction h with
 | nil=>intro a ha;cases ha
 | cons e r p t ih=>
  intro a ha;rcases List.mem_cons.mp ha with rfl|ha
  ·exact ⟨_,e⟩
  ·exact ih a ha
theorem InL.upd {x:Addr} {o u:HO} (h:InL H vs ds as) (hx:x∉as) (hu:H x=some u) (hm:wQ u=true):InL (upd H x o) vs ds as:=by
 induction h with
 | nil=>exact .nil
 | cons e r p t ih=>
  rw [List.mem_cons,not_or] at hx;exact .cons (by rw [aR (Ne.symm hx.1)];exact e) (r.upd p hu hm) p (ih hx.2)
theorem InK.upd {x:Addr} {o u:HO} (h:InK H kvs es as) (hx:x∉as) (hu:H x=some u) (hm:wQ u=true):InK (upd H x o) kvs es as:=by
 induction h with
 | nil=>exact .nil
 | cons e r p t ih=>
  rw [List.mem_cons,not_or] at hx;exact .cons (by rw [aR (Ne.symm hx.1)];exact e) (r.upd p hu hm) p (ih hx.2)
theorem T7 {ds:List D} {n:Nat} {y:D} (h:D.bU ds=true) (hn:ds[n]?=some y):y.pure=true:=by
 induction ds generalizing n with
 | nil=>simp at hn
 | cons d ds ih=>
  rw [D.bU,Bool.and_eq_true] at h;cases n with
  | zero=>simp at hn;subst hn;exact h.1
  | succ n=>exact ih h.2 (by simpa using hn)
theorem g8 {ds:List D} {d:D} (h:D.bU ds=true) (hd:d.pure=true):D.bU (ds++[d])=true:=by
 rw [oW];simp only [Bool.and_eq_true];exact ⟨h,by simp [D.bU,hd]⟩
theorem PK {kvs:List (D×D)} {k y:D} (h:D.bU (kvs.map (·.2))=true) (hl:dX kvs k=some y):y.pure=true:=by
 induction kvs with
 | nil=>cases hl
 | cons p r ih=>
  rw [List.map_cons,D.bU,Bool.and_eq_true] at h;rw [dX] at hl;split at hl
  ·cases hl;exact h.1
  ·exact ih h.2 hl
theorem InL.at_ {n:Nat} {y:D} (h:InL H vs ds as) (hn:ds[n]?=some y) (nd:as.Nodup):∃a ws ys,y=.lst ys/\vs[n]?=some (.ref a)/\a∈as/\H a=some (.lst ws)/\bV All H ws ys/\
  ∀(H':Hp) (v:V) (e:D),cN H H'->Rep All H' v e->e.pure=true->InL (L2.upd H' a (.lst (ws++[v]))) vs (ds.set n (.lst (ys++[e]))) as:=by
 induction h generalizing n with
 | nil=>simp at hn
 | @cons a ws ys r es as e rr p t ih=>
  rw [List.nodup_cons] at nd;cases n with
  | zero=>
   simp only [List.getElem?_cons_zero,Option.some.injEq] at hn;subst hn;refine ⟨a,ws,ys,rfl,rfl,List.mem_cons_self ..,e,rr,fun H' v d sm rv hd=>?_⟩;exact .cons aH (((rr.same sm).snoc rv).upd (g8 p hd) (sm _ _ e) rfl) (g8 p hd) ((t.same sm).upd nd.1 (sm _ _ e) rfl)
  | succ n=>
   rw [List.getElem?_cons_succ] at hn;obtain ⟨a',ws',ys',h1,h2,h3,h4,h5,h6⟩:=ih hn nd.2;refine ⟨a',ws',ys',h1,by rw [List.getElem?_cons_succ];exact h2,List.mem_cons_of_mem _ h3,h4,h5,fun H' v d sm rv hd=>?_⟩;have hne:a≠a':=fun z=>by subst z;exact nd.1 h3
   exact .cons (by rw [aR hne];exact sm _ _ e) ((rr.same sm).upd p (sm _ _ h4) rfl) p (h6 H' v d sm rv hd)
theorem InK.at_ {k:Key} {y:D} (h:InK H kvs es as) (hn:dX es (kD k)=some y) (nd:as.Nodup):∃a ws ys,y=.lst ys/\uW kvs k=some (.ref a)/\a∈as/\H a=some (.lst ws)/\bV All H ws ys/\
  ∀(H':Hp) (v:V) (e:D),cN H H'->Rep All H' v e->e.pure=true->InK (L2.upd H' a (.lst (ws++[v]))) kvs (putD es (kD k) (.lst (ys++[e]))) as:=by
 induction h with
 | nil=>cases hn
 | @cons q a ws ys r es as e rr p t ih=>
  rw [List.nodup_cons] at nd;rw [dX,JF] at hn;by_cases hq:q=k
  ·subst hq;rw [decide_eq_true rfl,if_pos rfl] at hn;cases hn;refine ⟨a,ws,ys,rfl,?_,List.mem_cons_self ..,e,rr,fun H' v d sm rv hd=>?_⟩
   ·simp [uW]
   ·rw [putD,JF,decide_eq_true rfl,if_pos rfl];exact .cons aH (((rr.same sm).snoc rv).upd (g8 p hd) (sm _ _ e) rfl) (g8 p hd) ((t.same sm).upd nd.1 (sm _ _ e) rfl)
  ·rw [decide_eq_false hq,if_neg (by simp)] at hn;obtain ⟨a',ws',ys',h1,h2,h3,h4,h5,h6⟩:=ih hn nd.2;have hne:a≠a':=fun z=>by subst z;exact nd.1 h3
   refine ⟨a',ws',ys',h1,?_,List.mem_cons_of_mem _ h3,h4,h5,fun H' v d sm rv hd=>?_⟩
   ·rw [<-h2];simp [uW,hq]
   ·rw [putD,JF,decide_eq_false hq,if_neg (by simp)];exact .cons (by rw [aR hne];exact sm _ _ e) ((rr.same sm).upd p (sm _ _ h4) rfl) p (h6 H' v d sm rv hd)
theorem InA.reps (h:InA H as vs ds):bV All H vs ds:=by
 induction h with
 | nil=>exact .nil
 | cons m e r p t ih=>exact .cons (.lst e trivial r) ih
theorem InA.same (h:InA H as vs ds) (s:cN H H'):InA H' as vs ds:=by
 induction h with
 | nil=>exact .nil
 | cons m e r p t ih=>exact .cons m (s _ _ e) (r.same s) p ih
theorem InA.upd {x:Addr} {o u:HO} (h:InA H as vs ds) (hx:x∉as) (hu:H x=some u) (hm:wQ u=true):InA (upd H x o) as vs ds:=by
 induction h with
 | nil=>exact .nil
 | cons m e r p t ih=>exact .cons m (by rw [aR (fun z=>hx (by rw [<-z];exact m))];exact e) (r.upd p hu hm) p ih
theorem Rep.aGw {b x:Addr} {d:D} {o u:HO} (r:Rep All H (.ref b) d) (hi:inner d=true) (hx:x≠b) (hu:H x=some u) (hm:wQ u=true):Rep All (L2.upd H x o) (.ref b) d:=by
 refine (r.aE7 (P':=fun c=>c=b) hi rfl).keep (fun c oc hc hp=>?_) fun _ _=>trivial
 rw [aR]
 ·exact hc
 ·intro z;subst z;rcases hp with hp|hp
  ·exact hx hp
  ·rw [hu] at hc;cases hc;rw [hm] at hp;cases hp
variable {qb:Bool}
theorem xV.rep {b:Addr} {d:D} (h:xV qb H b as d):Rep All H (.ref b) d:=by
 cases h with
 | lst e i=>exact .lst e trivial i.reps
 | dct e i n=>exact .dK e trivial i.reps n
 | pln z e m r p=>exact r
 | any z e i l=>exact .lst e trivial i.reps
theorem xV.same {b:Addr} {d:D} (h:xV qb H b as d) (s:cN H H'):xV qb H' b as d:=by
 cases h with
 | lst e i=>exact .lst (s _ _ e) (i.same s)
 | dct e i n=>exact .dct (s _ _ e) (i.same s) n
 | pln z e m r p=>exact .pln z (s _ _ e) m (r.same s) p
 | any z e i l=>exact .any z (s _ _ e) (i.same s) fun a ha=>let ⟨ws,h⟩:=l a ha;⟨ws,s _ _ h⟩
theorem xV.live {b:Addr} {d:D} (h:xV qb H b as d):∀a∈b::as,∃o,H a=some o/\wQ o=true:=by
 intro a ha;cases h with
 | lst e i=>
  rcases List.mem_cons.mp ha with rfl|ha
  ·exact ⟨_,e,rfl⟩
  ·obtain ⟨ws,h⟩:=i.live a ha;exact ⟨_,h,rfl⟩
 | dct e i n=>
  rcases List.mem_cons.mp ha with rfl|ha
  ·exact ⟨_,e,rfl⟩
  ·obtain ⟨ws,h⟩:=i.live a ha;exact ⟨_,h,rfl⟩
 | pln z e m r p=>
  subst z;rw [List.mem_singleton.mp ha];exact ⟨_,e,PJ m⟩
 | any z e i l=>
  rcases List.mem_cons.mp ha with rfl|ha
  ·exact ⟨_,e,rfl⟩
  ·obtain ⟨ws,h⟩:=l a ha;exact ⟨_,h,rfl⟩
theorem xV.upd {b x:Addr} {d:D} {o u:HO} (h:xV qb H b as d) (hx:x∉b::as) (hu:H x=some u) (hm:wQ u=true):xV qb (L2.upd H x o) b as d:=by
 rw [List.mem_cons,not_or] at hx;cases h with
 | lst e i=>exact .lst (by rw [aR (Ne.symm hx.1)];exact e) (i.upd hx.2 hu hm)
 | dct e i n=>exact .dct (by rw [aR (Ne.symm hx.1)];exact e) (i.upd hx.2 hu hm) n
 | pln z e m r p=>exact .pln z (by rw [aR (Ne.symm hx.1)];exact e) m (r.aGw p hx.1 hu hm) p
 | any z e i l=>exact .any z (by rw [aR (Ne.symm hx.1)];exact e) (i.upd hx.2 hu hm) fun a ha=>let ⟨ws,h⟩:=l a ha;⟨ws,by rw [aR (fun z=>hx.2 (by rw [<-z];exact ha))];exact h⟩
end
structure NQ (S:Nat->Bool) (c:Cel) (H:Hp) (σ:L2.St) (ρ:List D):Prop where
 len:σ.length=ρ.length
 dom:∀i p,c i=some p->S i=true
 nd:∀i b as,c i=some (b,as)->(b::as).Nodup
 dj:∀i j b as b' as',i≠j->c i=some (b,as)->c j=some (b',as')->∀a∈b::as,a∉b'::as'
 at_:∀i,ρ.getD i .uD≠.uD->∃v,σ[i]?=some (some v)/\(S i=false->Rep (fun a=>¬nC c a) H v (ρ.getD i .uD))
 nst:∀i b as,c i=some (b,as)->σ[i]?=some (some (.ref b))/\xV (S (i+1000)) H b as (ρ.getD i .uD)
 all:∀i,S i=true->ρ.getD i .uD≠.uD->∃p,c i=some p
variable {S:Nat->Bool}
theorem NQ.er {c:Cel} {H:Hp} {σ:L2.St} {ρ:List D} (E:NQ S c H σ ρ):ER H σ ρ:=fun i hi=>by
 obtain ⟨v,h1,h2⟩:=E.at_ i hi;cases ho:S i with
 | false=>exact ⟨v,h1,(h2 ho).all⟩
 | true=>
  obtain ⟨⟨b,as⟩,hp⟩:=E.all i ho hi;obtain ⟨h3,h4⟩:=E.nst i b as hp;exact ⟨_,h3,h4.rep⟩
theorem NQ.live {c:Cel} {H:Hp} {σ:L2.St} {ρ:List D} (E:NQ S c H σ ρ) {a:Addr} (h:nC c a):∃o,H a=some o/\wQ o=true:=by
 obtain ⟨i,b,as,hc,ha⟩:=h;exact (E.nst i b as hc).2.live a ha
theorem NQ.same {c:Cel} {H H':Hp} {σ:L2.St} {ρ:List D} (E:NQ S c H σ ρ) (s:cN H H'):NQ S c H' σ ρ:=
 ⟨E.len,E.dom,E.nd,E.dj,fun i hi=>let ⟨v,h1,h2⟩:=E.at_ i hi;⟨v,h1,fun ho=>(h2 ho).same s⟩,fun i b as hc=>let ⟨h1,h2⟩:=E.nst i b as hc;⟨h1,h2.same s⟩,E.all⟩
def KC (c:Cel) (H:Hp) (c':Cel) (H':Hp):Prop:=∀a o,H a=some o->¬nC c a->H' a=some o/\¬nC c' a
theorem KC.trans {c c1 c2:Cel} {H H1 H2:Hp} (a:KC c H c1 H1) (b:KC c1 H1 c2 H2):KC c H c2 H2:=fun x o e n=>let ⟨e1,n1⟩:=a x o e n;b x o e1 n1
theorem KC.same {c:Cel} {H H':Hp} (s:cN H H'):KC c H c H':=fun a o e n=>⟨s a o e,n⟩
theorem KC.rep {c c':Cel} {σ:L2.St} {H H':Hp} {ρ:List D} (k:KC c H c' H') (E:NQ S c H σ ρ) {v:V} {d:D} (r:Rep (fun a=>¬nC c a) H v d):Rep (fun a=>¬nC c' a) H' v d:=by
 refine r.dom.keep (P':=fun a=>¬nC c' a) (fun a o h hp=>?_) fun a ⟨h1,h2⟩=>?_
 ·by_cases ho:nC c a
  ·obtain ⟨o',g1,g2⟩:=E.live ho;rw [h] at g1;cases g1;rcases hp with hp|hp
   ·exact absurd ho hp.1
   ·rw [g2] at hp;cases hp
  ·exact (k a o h ho).1
 ·cases q:H a with
  | none=>exact absurd q h2
  | some o=>exact (k a o q h1).2
def kN (S:Nat->Bool) (D:Ends) (c:Cel) (H:Hp):Fl->Prop
 | .nx ρ=>∀c' σ' H',KC c H c' H'->NQ S c' H' σ' ρ->D.nx σ' H'
 | .bk ρ=>∀c' σ' H',KC c H c' H'->NQ S c' H' σ' ρ->D.bk σ' H'
 | .ct ρ=>∀c' σ' H',KC c H c' H'->NQ S c' H' σ' ρ->D.ct σ' H'
 | .rt d=>∀v H',(∀a o,H a=some o->¬nC c a->H' a=some o)->Rep (fun a=>nC c a\/H a=none) H' v d->D.rt v H'
theorem kN.step {D:Ends} {c c':Cel} {H H':Hp} {fl:Fl} (k:KC c H c' H') (h:kN S D c H fl):kN S D c' H' fl:=by
 cases fl with
 | nx ρ=>exact fun c2 σ2 H2 k2 e=>h c2 σ2 H2 (k.trans k2) e
 | bk ρ=>exact fun c2 σ2 H2 k2 e=>h c2 σ2 H2 (k.trans k2) e
 | ct ρ=>exact fun c2 σ2 H2 k2 e=>h c2 σ2 H2 (k.trans k2) e
 | rt d=>
  refine fun v H2 hk r=>h v H2 (fun a o e n=>let ⟨e1,n1⟩:=k a o e n;hk a o e1 n1) (r.mono fun a ha=>?_)
  cases q:H a with
  | none=>exact .inr rfl
  | some o=>
   refine .inl (Classical.byContradiction fun n=>?_);obtain ⟨e1,n1⟩:=k a o q n;rcases ha with ha|ha
   ·exact n1 ha
   ·rw [e1] at ha;cases ha
noncomputable def tN (S:Nat->Bool) (f:FS):TS:=fun D σ H=>∃c ρ fl,NQ S c H σ ρ/\f ρ=.ok fl/\kN S D c H fl
structure QS (X:Cx) (st:Stmt) (t:TS):Prop where
 out:PS X st t
structure QSs (X:Cx) (st:List Stmt) (t:TS):Prop where
 out:PSs X st t
section
variable {X:Cx} {a b c e:Expr} {pos pos':Pos} {fe:FE} {re:Bool} {g:FS}
theorem aA3:QSs X [] (tN S d_):=QSs.mk <| PSs.imp KN fun D σ H ⟨c,ρ,fl,E,h,q⟩=>by
 cases h;exact q c σ H (fun a o e n=>⟨e,n⟩) E
theorem aD4 (he:PE X e (gE fe re)):QS X (.Return (some e) pos) (tN S (fJ fe re)):=QS.mk <| PS.imp (KQ he) fun D σ H ⟨c,ρ,fl,E,h,q⟩=>by
 obtain ⟨d,h1,h2⟩:=bH h;split at h2
 ·rename_i hk;cases h2;refine ⟨ρ,d,E.er,h1,fun v H' s r n=>q v H' (fun a o e _=>s a o e) ?_⟩;rw [Bool.or_eq_true] at hk;rcases hk with hk|hk
  ·exact (n hk).mono fun a ha=>.inr ha
  ·exact r.cP hk
 ·cases h2
theorem NQ.set {c:Cel} {H:Hp} {σ:L2.St} {ρ:List D} {i:Nat} {v:V} {d:D} (E:NQ S c H σ ρ) (ho:S i=false) (r:Rep (fun a=>¬nC c a) H v d):NQ S c H (σ.set i (some v)) (ρ.set i d):=by
 have hne:∀j,S j=true->i≠j:=fun j hj z=>by subst z;rw [ho] at hj;cases hj
 refine ⟨by simp [E.len],E.dom,E.nd,E.dj,fun j hj=>?_,fun j b as hc=>?_,fun j hj hd=>?_⟩
 ·rw [bR] at hj ⊢;by_cases h:i=j/\i<ρ.length
  ·rw [if_pos h];obtain ⟨rfl,hl⟩:=h;exact ⟨v,by rw [List.getElem?_set_self (by rw [E.len];exact hl)],fun _=>r⟩
  ·rw [if_neg h] at hj ⊢;obtain ⟨w,h1,h2⟩:=E.at_ j hj;by_cases hij:i=j
   ·subst hij;have:i<σ.length:=(List.getElem?_eq_some_iff.mp h1).1;rw [E.len] at this;exact absurd ⟨rfl,this⟩ h
   ·exact ⟨w,by rw [List.getElem?_set_ne hij];exact h1,h2⟩
 ·have hij:=hne j (E.dom j _ hc);rw [bR,if_neg fun z=>hij z.1,List.getElem?_set_ne hij];exact E.nst j b as hc
 ·have hij:=hne j hj;rw [bR,if_neg fun z=>hij z.1] at hd;exact E.all j hj hd
theorem W8 {i:Nat} {x:Str} (ho:S i=false) (hN:X.N.Nodup) (hi:X.N[i]?=some x) (hx:Loc X.env.scope x) (he:PE X e (gE fe re)) (hs:swapsWith e (some (.Name x pos')) pos.line X.env=pure false:=by rfl) (hf:X.fn x=true\/X.env.scope.names.lookup x=some .local:=by first|exact .inl rfl|exact .inr rfl|assumption) :
  QS X (.Assign [.Name x pos'] e pos) (tN S (dI false i fe re)):=QS.mk <| PS.imp (BZ hN hi hx he hs hf) fun D σ H ⟨c,ρ,fl,E,h,q⟩=>by
 obtain ⟨d,h1,h2⟩:=bH h;simp only [Bool.false_eq_true,if_false] at h2;split at h2
 ·rename_i hk;cases h2;refine ⟨ρ,d,E.er,h1,fun v H' s r n=>?_⟩;rw [Bool.or_eq_true] at hk;have r2:Rep (fun a=>¬nC c a) H' v d:=by
   rcases hk with hk|hk
   ·refine (n hk).mono fun a ha ho=>?_
    obtain ⟨o,h1,_⟩:=E.live ho;rw [show H a=none from ha] at h1;cases h1
   ·exact r.cP hk
  exact q c _ H' (.same s) ((E.same s).set ho r2)
 ·cases h2
theorem NQ.app {c:Cel} {H:Hp} {σ:L2.St} {ρ:List D} {i:Nat} {b x:Addr} {as:List Addr} {d:D} {o u:HO} (E:NQ S c H σ ρ) (hc:c i=some (b,as)) (hx:x∈b::as) (hu:H x=some u) (hm:wQ u=true) (hn:xV (S (i+1000)) (upd H x o) b as d):NQ S c (upd H x o) σ (ρ.set i d)/\KC c H c (upd H x o):=by
 have hO:nC c x:=⟨i,b,as,hc,hx⟩
 have k:KC c H c (upd H x o):=fun a oa e n=>⟨by rw [aR (fun z=>by subst z;exact n hO)];exact e,n⟩
 obtain ⟨hσ,_⟩:=E.nst i b as hc;have hl:i<ρ.length:=by rw [<-E.len];exact (List.getElem?_eq_some_iff.mp hσ).1
 have hS:=E.dom i _ hc;refine ⟨⟨by simp [E.len],E.dom,E.nd,E.dj,fun j hj=>?_,fun j b' as' hc'=>?_,fun j hj hd=>?_⟩,k⟩
 ·rw [bR] at hj ⊢;by_cases h:i=j/\i<ρ.length
  ·obtain ⟨rfl,_⟩:=h;exact ⟨_,hσ,fun z=>by rw [hS] at z;cases z⟩
  ·rw [if_neg h] at hj ⊢;obtain ⟨w,h1,h2⟩:=E.at_ j hj;exact ⟨w,h1,fun hj=>k.rep E (h2 hj)⟩
 ·by_cases hij:i=j
  ·subst hij;rw [hc] at hc';cases hc';rw [bR,if_pos ⟨rfl,hl⟩];exact ⟨hσ,hn⟩
  ·rw [bR,if_neg fun z=>hij z.1];obtain ⟨h1,h2⟩:=E.nst j b' as' hc';exact ⟨h1,h2.upd (E.dj i j b as b' as' hij hc hc' x hx) hu hm⟩
 ·by_cases hij:i=j
  ·subst hij;exact ⟨_,hc⟩
  ·rw [bR,if_neg fun z=>hij z.1] at hd;exact E.all j hj hd
def aGx (K:PySem.W.Frag):R2:=fun x y H Q=>aFy K x y H Q\/∃a kvs k v,x=.ref a/\y=kV k/\H a=some (.dK kvs)/\uW kvs k=some v/\Q v H
theorem aGy (hu:X.A.units+20<cLine):IxR X (aGx X.K):=IxR.or oE fun value slice pins s σ H x y v u Q I rx ry h hs=>by
 obtain ⟨a,kvs,k,w,rfl,rfl,e,hv,q⟩:=h;cases rx;have g:J3 H a (kV k) (uW kvs k):=.k e;rw [hv] at g;exact oV hu I g ry hs (fun _ h=>h) q
theorem aA4 {i:Nat} {x:Str} {k:Expr} {fk:FE} {rk:Bool} {p1 p2 apos cpos:Pos} (hu:X.A.units+20<cLine) (ho:S i=true) (hN:X.N[i]?=some x) (hv:Vis X.env.scope x) (hk:PE X k (gE fk rk)) (he:PE X e (gE fe re)) (hp:oA k:=by exact fun _ _=>rfl) (hd:nDb x:=by decide) (hcd:nCd x:=by decide)
  (hbase:attributeBase (.Subscript (.Name x p1) k p2) "append" X.env (eval (.Subscript (.Name x p1) k p2) X.env)=eval (.Subscript (.Name x p1) k p2) X.env:=by rfl)
  (hs1:starEach [e] X.env=(false,eval e X.env)::starEach [] X.env:=by rfl)
  (hfew:((backTo cpos (starEach [e] X.env)).all (fun x=>!x.1)&&(backToKw cpos (keywordEach [] X.env)).all (fun x=>x.1.isSome)
   && decide (([e]:List Expr).length+([]:List Keyword).length+(if ([]:List Keyword).isEmpty then 0 else 1)<30))=true:=by rfl)
  (hline:(apos.endLine==cpos.line)=true:=by rfl)
  (hs:swapsWith (.Call (.Attribute (.Subscript (.Name x p1) k p2) "append" apos) [e] [] cpos) none pos.line X.env=pure false:=by rfl)
  (hq:S (i+1000)=false:=by rfl):QS X (.Expr (.Call (.Attribute (.Subscript (.Name x p1) k p2) "append" apos) [e] [] cpos) pos) (tN S (PB i fk fe)):=QS.mk <|
 PS.imp (vM (R4 PySem.F.plainAttrs_list PySem.F.slot_list_append PySem.F.type_list_append oF (YT (aGy hu) (fV hN hv hd hcd) hk hp) (b7 he fW hs1) hbase hfew hline hs1 rfl) hs) fun D' σ H ⟨c,ρ,fl,E,h,q⟩=>by
 obtain ⟨d,h1,hA⟩:=bH h;obtain ⟨kd,h2,hB⟩:=bH hA;obtain ⟨ed,h3,hC⟩:=bH hB;obtain ⟨r,h4,hD⟩:=bH hC;cases hD;obtain ⟨v0,hv0,r0,e0⟩:=E.er.var h1;have hne:ρ.getD i .uD≠.uD:=fun z=>by rw [z] at e0;subst e0;exact Rep.uD r0
 obtain ⟨⟨b,as⟩,hc⟩:=E.all i ho hne;obtain ⟨hσ,hN0⟩:=E.nst i b as hc;have hnd:=E.nd i b as hc;rw [List.nodup_cons] at hnd;rw [e0,hq] at hN0;unfold T6 at h4;split at h4
 ·rename_i xs j;split at h4
  ·rename_i n ys hix;split at h4
   ·rename_i hg;cases h4;rw [Bool.and_eq_true] at hg;obtain ⟨n',hx1,hx2⟩:=Option.bind_eq_some_iff.mp hix;obtain ⟨y',hx3,hx4⟩:=Option.map_eq_some_iff.mp hx2;cases hx4;refine ⟨.ref b,hσ,ρ,_,E.er,h2,fun kv H1 sm1 rk1 _=>?_⟩;cases rk1;have N1:=hN0.same sm1;cases N1 with
    | lst eb il=>
     obtain ⟨a,ws,zs,q1,q2,q3,q4,q5,q6⟩:=il.at_ hx3 hnd.2;cases q1;refine .inl ⟨b,_,j,.ref a,rfl,rfl,.of eb,by rw [WN,il.reps.length,hx1];exact q2,?_⟩;refine ⟨.inl ⟨rfl,_,.of q4⟩,ρ,_,E.er.same sm1,h3,fun ev H2 sm2 re2 _=>⟨a,ws,ev,rfl,rfl,sm2 _ _ q4,by rw [q5.length];exact NB hg.1,?_⟩⟩;obtain ⟨E2,k2⟩:=(E.same (sm1.trans sm2)).app (o:=.lst (ws++[ev])) hc (List.mem_cons_of_mem _ q3) (sm2 _ _ q4) rfl (.lst (by rw [aR (fun z=>hnd.1 (by rw [z];exact q3))];exact sm2 _ _ eb) (q6 H2 ev ed sm2 re2 hg.2));exact q c σ _ ((KC.same (sm1.trans sm2)).trans k2) E2
    | pln _ _ _ _ pp=>
     have:=T7 pp hx3;cases this
    | any z=>cases z
   ·cases h4
  ·cases h4
 ·rename_i kvs;split at h4
  rotate_left
  ·cases h4
  rename_i hfk;obtain ⟨z,rfl⟩:∃z:Key,kd=kD z:=by
   cases kd <;> first|exact ⟨.inl _,rfl⟩|exact ⟨.inr _,rfl⟩|cases hfk
  split at h4
  ·rename_i ys hlk;split at h4
   ·rename_i hg;cases h4;rw [Bool.and_eq_true] at hg;refine ⟨.ref b,hσ,ρ,_,E.er,h2,fun kv H1 sm1 rk1 _=>?_⟩;obtain rfl:kv=kV z:=by
     cases z with
     | inl i=>cases rk1;rfl
     | inr x=>cases rk1;rfl
    have N1:=hN0.same sm1;cases N1 with
    | pln _ _ _ _ pp=>
     have:=PK pp hlk;cases this
    | dct eb il nk=>
     obtain ⟨a,ws,zs,q1,q2,q3,q4,q5,q6⟩:=il.at_ (k:=z) hlk hnd.2;cases q1;refine .inr ⟨b,_,z,.ref a,rfl,rfl,eb,q2,?_⟩;refine ⟨.inl ⟨rfl,_,.of q4⟩,ρ,_,E.er.same sm1,h3,fun ev H2 sm2 re2 _=>⟨a,ws,ev,rfl,rfl,sm2 _ _ q4,by rw [q5.length];exact NB hg.1,?_⟩⟩;obtain ⟨E2,k2⟩:=(E.same (sm1.trans sm2)).app (o:=.lst (ws++[ev])) hc (List.mem_cons_of_mem _ q3) (sm2 _ _ q4) rfl (.dct (by rw [aR (fun z=>hnd.1 (by rw [z];exact q3))];exact sm2 _ _ eb) (q6 H2 ev ed sm2 re2 hg.2) nk);exact q c σ _ ((KC.same (sm1.trans sm2)).trans k2) E2
   ·cases h4
  ·cases h4
 ·cases h4
end
def aBc (H:Hp):List Addr->Hp
 | []=>H
 | a::as=>aBc (upd H a (.lst [])) as
theorem o9:∀(as:List Addr) {H:Hp},as.Nodup->(∀a∈as,H a=none)->cN H (aBc H as)
 | [],H,_,_=>cN.refl _
 | a::as,H,nd,h=>by
  rw [List.nodup_cons] at nd;refine (cN.upd (h a (List.mem_cons_self ..))).trans (o9 as nd.2 fun x hx=>?_);rw [aR (fun z=>nd.1 (by rw [<-z];exact hx))];exact h x (List.mem_cons_of_mem _ hx)
theorem PL:∀(as:List Addr) {H:Hp} {x:Addr},as.Nodup->(∀a∈as,H a=none)->x∈as->aBc H as x=some (.lst [])
 | [],H,x,_,_,hx=>by cases hx
 | a::as,H,x,nd,h,hx=>by
  rw [List.nodup_cons] at nd;have h':∀y∈as,upd H a (.lst []) y=none:=fun y hy=>by
   rw [aR (fun z=>nd.1 (by rw [<-z];exact hy))];exact h y (List.mem_cons_of_mem _ hy)
  rcases List.mem_cons.mp hx with rfl|hx
  ·exact o9 as nd.2 h' _ _ aH
  ·exact PL as nd.2 h' hx
def PN:List Str->L2.St->Hp->(List (V×V)->Hp->Prop)->Prop
 | [],_,H,Q=>Q [] H
 | k::ks,σ,H,Q=>∀p,H p=none->PN ks σ (upd H p (.lst [])) fun ps H1=>Q ((.str k,.ref p)::ps) H1
theorem xW:∀(ks:List Str) {σ:L2.St} {H:Hp} {Q:List (V×V)->Hp->Prop},(∀as:List Addr,as.length=ks.length->as.Nodup->(∀a∈as,H a=none)->Q ((ks.zip as).map fun p=>(V.str p.1,V.ref p.2)) (aBc H as))->PN ks σ H Q
 | [],σ,H,Q,h=>h [] rfl List.nodup_nil fun _ z=>by cases z
 | k::ks,σ,H,Q,h=>fun p hp=>xW ks (σ:=σ) fun as hl nd hf=>by
  refine h (p::as) (by simp [hl]) (List.nodup_cons.mpr ⟨fun z=>?_,nd⟩) fun a ha=>?_
  ·have:=hf p z;rw [aH] at this;cases this
  ·rcases List.mem_cons.mp ha with rfl|ha
   ·exact hp
   ·have:=hf a ha;by_cases hap:a=p
    ·subst hap;exact hp
    ·rwa [aR hap] at this
theorem PP:∀(ks:List Str) (as:List Addr) {H:Hp},as.length=ks.length->(∀a∈as,H a=some (.lst []))->InK H ((ks.zip as).map fun p=>(.inr p.1,V.ref p.2)) (ks.map fun k=>(.str k,.lst [])) as
 | [],[],H,_,_=>.nil
 | k::ks,a::as,H,hl,h=>.cons (k:=.inr k) (h a (List.mem_cons_self ..)) .nil rfl (PP ks as (by simpa using hl) fun x hx=>h x (List.mem_cons_of_mem _ hx))
 | [],_::_,H,hl,_=>by cases hl
 | _::_,[],H,hl,_=>by cases hl
variable {S:Nat->Bool}
theorem NQ.new {c:Cel} {H H':Hp} {σ:L2.St} {ρ:List D} {i:Nat} {b:Addr} {as:List Addr} {d:D} (E:NQ S c H σ ρ) (ho:S i=true) (hl:i<σ.length) (sm:cN H H') (nd:(b::as).Nodup) (hf:∀a∈b::as,H a=none) (hn:xV (S (i+1000)) H' b as d):∃c',NQ S c' H' (σ.set i (some (.ref b))) (ρ.set i d)/\KC c H c' H':=by
 have hlv:∀a,nC c a->a∉b::as:=fun a ha z=>by
  obtain ⟨o,h1,_⟩:=E.live ha;rw [hf a z] at h1;cases h1
 have own:∀a,nC (fun j=>if j=i then some (b,as) else c j) a->nC c a\/a∈b::as:=fun a ⟨j,b',as',hc,ha⟩=>by
  by_cases hj:j=i
  ·simp only [hj,if_true,Option.some.injEq,Prod.mk.injEq] at hc;obtain ⟨rfl,rfl⟩:=hc;exact .inr ha
  ·simp only [hj,if_false] at hc;exact .inl ⟨j,b',as',hc,ha⟩
 have k:KC c H (fun j=>if j=i then some (b,as) else c j) H':=fun a o e n=>⟨sm a o e,fun z=>by
  rcases own a z with z|z
  ·exact n z
  ·rw [hf a z] at e;cases e⟩
 have hlr:i<ρ.length:=by rw [<-E.len];exact hl
 refine ⟨fun j=>if j=i then some (b,as) else c j,⟨by simp [E.len],fun j p hc=>?_,fun j b' as' hc=>?_,fun j1 j2 b1 as1 b2 as2 hne h1 h2 a ha=>?_,fun j hj=>?_,fun j b' as' hc=>?_,fun j hj hd=>?_⟩,k⟩
 ·by_cases hj:j=i
  ·rw [hj];exact ho
  ·simp only [hj,if_false] at hc;exact E.dom j p hc
 ·by_cases hj:j=i
  ·simp only [hj,if_true,Option.some.injEq,Prod.mk.injEq] at hc;obtain ⟨rfl,rfl⟩:=hc;exact nd
  ·simp only [hj,if_false] at hc;exact E.nd j b' as' hc
 ·by_cases e1:j1=i
  ·by_cases e2:j2=i
   ·exact absurd (e1.trans e2.symm) hne
   ·simp only [e1,if_true,Option.some.injEq,Prod.mk.injEq] at h1;simp only [e2,if_false] at h2;obtain ⟨rfl,rfl⟩:=h1;exact fun z=>hlv a ⟨j2,b2,as2,h2,z⟩ ha
  ·simp only [e1,if_false] at h1;by_cases e2:j2=i
   ·simp only [e2,if_true,Option.some.injEq,Prod.mk.injEq] at h2;obtain ⟨rfl,rfl⟩:=h2;exact hlv a ⟨j1,b1,as1,h1,ha⟩
   ·simp only [e2,if_false] at h2;exact E.dj j1 j2 b1 as1 b2 as2 hne h1 h2 a ha
 ·rw [bR] at hj ⊢;by_cases h:i=j/\i<ρ.length
  ·obtain ⟨rfl,_⟩:=h;exact ⟨.ref b,by rw [List.getElem?_set_self hl],fun z=>by rw [ho] at z;cases z⟩
  ·rw [if_neg h] at hj ⊢;have hij:i≠j:=fun z=>h ⟨z,hlr⟩
   obtain ⟨w,h1,h2⟩:=E.at_ j hj;exact ⟨w,by rw [List.getElem?_set_ne hij];exact h1,fun hs=>k.rep E (h2 hs)⟩
 ·by_cases hj:j=i
  ·subst hj;simp only [if_true,Option.some.injEq,Prod.mk.injEq] at hc;obtain ⟨rfl,rfl⟩:=hc;rw [bR,if_pos ⟨rfl,hlr⟩,List.getElem?_set_self hl];exact ⟨rfl,hn⟩
  ·simp only [hj,if_false] at hc;rw [bR,if_neg fun z=>hj z.1.symm,List.getElem?_set_ne (Ne.symm hj)];obtain ⟨h1,h2⟩:=E.nst j b' as' hc;exact ⟨h1,h2.same sm⟩
 ·by_cases hji:j=i
  ·exact ⟨(b,as),by simp [hji]⟩
  ·rw [bR,if_neg fun z=>hji z.1.symm] at hd;obtain ⟨p,hp⟩:=E.all j hj hd;exact ⟨p,by simp [hji,hp]⟩
section
variable {X:Cx} {a b c e:Expr} {es:List Expr} {pos pos':Pos} {g:FS} {n:Nat}
def trE (ks:List Str):List (TE×TE):=ks.map fun k=>(tC (.str k),aFx fun _ H Q=>Q [] H)
theorem PQ:∀(ks:List Str) {σ:L2.St} {H:Hp} {Q:List (V×V)->Hp->Prop},PN ks σ H Q->CJ (trE ks) σ H Q
 | [],_,_,_,h=>h
 | k::ks,_,_,_,h=>⟨Nat.zero_le _,fun p hp=>PQ ks (h p hp)⟩
theorem xX:∀(more kvs:List (Key×V)),((kvs++more).map (·.1)).Nodup->oG kvs more=kvs++more
 | [],kvs,_=>(List.append_nil _).symm
 | p::r,kvs,h=>by
  have hp:putK kvs p.1 p.2=kvs++[p]:=by
   unfold putK;rw [if_neg];rw [Bool.not_eq_true,List.any_eq_false];intro q hq hd;rw [List.map_append,List.nodup_append] at h;exact h.2.2 q.1 (List.mem_map.mpr ⟨q,hq,rfl⟩) p.1 (by simp) (of_decide_eq_true hd)
  show oG (putK kvs p.1 p.2) r=kvs++p::r;rw [hp,xX r (kvs++[p]) (by simpa using h),List.append_assoc];rfl
theorem aA5 {i:Nat} {x:Str} {p2:Pos} {keys:List (Option Expr)} {values:List Expr} {ks:List Str} (ho:S i=true) (hN:X.N.Nodup) (hi:X.N[i]?=some x) (hx:Loc X.env.scope x) (hp:PPs X p2 keys values (trE ks)) (hall:keys.all (·.isSome)=true) (hkl:keys.length=values.length) (h0:keys≠[]) (h15:keys.length<=15) (hk15:ks.length<=15) (hks:ks.Nodup) (hs:swapsWith (.Dict keys values p2) (some (.Name x pos')) pos.line X.env=pure false:=by rfl) (hf:X.fn x=true\/X.env.scope.names.lookup x=some .local:=by first|exact .inl rfl|exact .inr rfl|assumption) :
  QS X (.Assign [.Name x pos'] (.Dict keys values p2) pos) (tN S (aG4 i (aF9 ks))):=QS.mk fun pins s σ H D I ⟨c,ρ,fl,E,h,q⟩=>by
 cases h;have hl:i<σ.length:=by
  rw [I.len];exact (List.getElem?_eq_some_iff.mp hi).1
 refine BZ hN hi hx (Y4 hp hall hkl h0 h15) hs hf pins s σ H D I fun b hb=>PQ ks (xW ks fun as hln nd hfr=>?_)
 have sm0:cN H (upd H b (.dK [])):=cN.upd hb;have sm1:=o9 as nd hfr;have hbn:b∉as:=fun z=>by have:=hfr b z;rw [aH] at this;cases this
 have hfr':∀a∈as,H a=none:=fun a ha=>sm0.free (hfr a ha)
 have keys:((ks.zip as).map fun p=>(Sum.inr p.1,V.ref p.2)).map (·.1)=ks.map (Sum.inr:Str->Key):=by
  rw [List.map_map,show ((fun x:Key×V=>x.1) ∘ fun p:Str×Addr=>((Sum.inr p.1:Key),V.ref p.2))=(Sum.inr:Str->Key) ∘ Prod.fst from rfl,<-List.map_map,List.map_fst_zip (by lia)]
 have hnk:(((ks.zip as).map fun p=>((Sum.inr p.1:Key),V.ref p.2)).map (·.1)).Nodup:=by
  rw [keys];exact List.pairwise_map.mpr (hks.imp fun h z=>h (by cases z;rfl))
 refine ⟨sm1 _ _ aH,(ks.zip as).map fun p=>(.inr p.1,V.ref p.2),by rw [List.map_map];rfl,by rw [List.length_map,List.length_zip];lia,?_⟩;rw [xX _ [] (by rw [List.nil_append];exact hnk),List.nil_append];have e2:∀a∈as,upd (aBc (upd H b (.dK [])) as) b (.dK ((ks.zip as).map fun p=>(Sum.inr p.1,V.ref p.2))) a=some (.lst []):=fun a ha=>by
  rw [aR (fun z=>hbn (by rw [<-z];exact ha))];exact PL as nd hfr ha
 have sm:cN H (upd (aBc (upd H b (.dK [])) as) b (.dK ((ks.zip as).map fun p=>(Sum.inr p.1,V.ref p.2)))):=fun a o e=>by
  rw [aR (bQ e hb)];exact sm1 _ _ (sm0 _ _ e)
 obtain ⟨c',E',k⟩:=E.new (i:=i) (b:=b) (as:=as) (d:=aF9 ks) ho hl sm (List.nodup_cons.mpr ⟨hbn,nd⟩) (fun a ha=>by
  rcases List.mem_cons.mp ha with rfl|ha
  ·exact hb
  ·exact hfr' a ha) (.dct aH (PP ks as hln e2) hnk)
 exact q c' _ _ k E'
def TgN (S:Nat->Bool) (g:TG) (t:D->List D->Res (List D)):Prop:=∀(v:V) (d:D) (ρ ρ':List D) (σ:L2.St) (H:Hp) (c:Cel) (Q:L2.St->Hp->Prop),NQ S c H σ ρ->Rep (fun a=>¬nC c a) H v d->t d ρ=.ok ρ'->(∀σ',NQ S c H σ' ρ'->Q σ' H)->g v σ H Q
theorem NQ.sets {c:Cel} {H:Hp}:∀{is:List Nat} {vs:List V} {ds:List D} {σ:L2.St} {ρ:List D},(∀i∈is,S i=false)->NQ S c H σ ρ->bV (fun a=>¬nC c a) H vs ds->NQ S c H (vX is vs σ) (xK is ds ρ)
 | [],_,_,_,_,_,E,_=>by simp only [vX,xK];exact E
 | i::is,_,_,σ,ρ,h,E,.nil=>by simp only [vX,xK];exact E
 | i::is,_,_,σ,ρ,h,E,.cons r t=>NQ.sets (is:=is) (fun j hj=>h j (List.mem_cons_of_mem _ hj)) (E.set (h i (List.mem_cons_self ..)) r) t
theorem aA6 (K:PySem.W.Frag) {is:List Nat} (ho:∀i∈is,S i=false):TgN S (aEk K is.length (gIx is)) (tgN is):=fun v d ρ ρ' σ H c Q E r h q=>by
 cases d <;> simp only [tgN] at h <;> (try (cases h;done))
 split at h
 ·rename_i hl;cases h;have hl':=of_decide_eq_true hl;obtain ⟨a,xs,rfl,e,rr⟩:=r.eZ;exact ⟨a,xs,rfl,.of e,by rw [rr.length];exact hl',zQ _ _ _ (by rw [rr.length];exact hl') (q _ (E.sets ho rr))⟩
 ·cases h
theorem ItQ.kc {K:PySem.W.Frag} {J:It} {items:List D} {c c':Cel} {σ:L2.St} {H H':Hp} {ρ:List D} (h:ItQ K (fun a=>¬nC c a) J H items) (k:KC c H c' H') (E:NQ S c H σ ρ):ItQ K (fun a=>¬nC c' a) J H' items:=by
 cases h with
 | lst a e r=>exact .lst a e (k.rep E r)
 | tup a e r=>exact .tup a e (k.rep E r)
 | rng lo n e r=>exact .rng lo n e r
 | chs x e r=>exact .chs x e r
 | enm a ds e r h=>exact .enm a ds e (k.rep E r) h
 | enf m a ds e r h=>exact .enf m a ds e (k.rep E r) h
 | zip a b ds es e r q n h=>exact .zip a b ds es e (k.rep E r) (k.rep E q) n h
 | rev a ds e r h=>exact .rev a ds e (k.rep E r) h
 | scr a hK e r=>exact .scr a hK e (k.rep E r)
end
theorem T8 {N ps:List Str} {f:FS} {vs:List V} {H:Hp} {Q:VK} {E:XK} (hown:∀i,i<ps.length->S i=false) (h0:spD (fnS ps.length N.length f) ps.length vs H Q E):tN S f {nx:=fun _ H'=>Q .non H',rt:=Q} (start N vs) H:=by
 obtain ⟨ds,d,hl,r,h,q⟩:=h0;obtain ⟨fl,h1,h2⟩:=bH h;have hst:start N vs=vs.map some++List.replicate (N.length-ps.length) none:=by
  show vs.map some++List.replicate (N.length-vs.length) none=_;rw [r.length,hl]
 have no:∀a,¬nC (fun _=>none) a:=fun a ⟨i,b,as,hc,_⟩=>by cases hc
 have old:=vZ (own:=fun _=>false) hst hl r (fun _ _=>rfl) fun a ⟨i,hi,_⟩=>by cases hi
 have hlt:∀i,(ds++List.replicate (N.length-ps.length) D.uD).getD i .uD≠.uD->i<ps.length:=fun i hi=>Nat.lt_of_not_le fun hge=>hi (by
  rw [List.getD_eq_getElem?_getD,List.getElem?_append_right (by lia),List.getElem?_replicate];split <;> rfl)
 have E0:NQ S (fun _=>none) H (start N vs) (ds++List.replicate (N.length-ps.length) .uD):=by
  refine ⟨old.len,fun i p hc=>(by cases hc),fun i b as hc=>(by cases hc),fun i j b as b' as' _ hc=>(by cases hc),fun i hi=>?_,fun i b as hc=>(by cases hc),fun i hi hd=>?_⟩
  ·obtain ⟨v,g1,g2⟩:=old.at_ i hi;exact ⟨v,g1,fun _=>(g2 rfl).mono fun a _=>no a⟩
  ·rw [hown i (hlt i hd)] at hi;cases hi
 refine ⟨_,_,fl,E0,h1,?_⟩;have sm:∀{c':Cel} {H':Hp},KC (fun _=>none) H c' H'->cN H H':=fun k a o e=>(k a o e (no a)).1
 cases fl with
 | nx ρ'=>cases h2;exact fun c' σ' H' k E'=>q .non H' (sm k) .non fun _=>.non
 | rt d'=>
  cases h2;refine fun v H' hk rp=>q v H' (fun a o e=>hk a o e (no a)) rp.all fun _=>rp.mono fun a ha=>?_
  rcases ha with ha|ha
  ·exact absurd ha (no a)
  ·exact ha
 | bk ρ'=>cases h2
 | ct ρ'=>cases h2
end Mi
namespace Wn
open PySem PySem.Spec
section
variable {prog:Program} {w:World} {A:Around} {E:Value->Shared->Prop} {s:Shared}
theorem both {α:Type} {M:Model} {c:Prop} [Decidable c] {a b:Sem α} {Q:α->Shared->Prop} (h1:wpAny M A a Q E s) (h2:wpAny M A b Q E s):wpAny M A (if c then a else b) Q E s:=by
 by_cases h:c
 ·rw [if_pos h];exact h1
 ·rw [if_neg h];exact h2
theorem aD5 (l:Addr) (items:Array Value) (n:Nat) (dd:Option Addr) (sl:Array (Option Value)) (t:Tok) :
  Meets (Builtin.«enumerate.__new__» ⟨[.type "enumerate",.ref l],[("start",.int 1 t)]⟩) (fun _ R s=>s.heap.get? l=some {cls:=.type "list",dict:=dd,data:=.seq items n,slots:=sl}/\
   ∀h' e it tk,it=s.heap.objs.size->e=it+1->IsEnum h' e it 1 .none->h'.IsListIter it l 0->h'.objs.size=it+2->(∀b o,s.heap.get? b=some o->h'.get? b=some o)->R (.ok (.ret (.ref e))) {s with heap:=h',toks:=tk}):=.of_wp fun prog w A R s hs=>by
 obtain ⟨hp,g,d,tk,os⟩:=s;obtain ⟨hl,q⟩:=hs;have sub:=sub_enumerate;have p:Heap.IsList (Shared.heap ⟨hp,g,d,tk,os⟩) l items:=⟨_,hl,rfl,n,rfl⟩
 have hz:(hp.push {cls:=.type "list_iterator",data:=.fields #[.ref l,.int 0 0]}).objs.size=hp.objs.size+1:=Heap.size_push ..;have fin:∀(tk':Nat),R (.ok (.ret (.ref (hp.push {cls:=.type "list_iterator",data:=.fields #[.ref l,.int 0 0]}).objs.size))) ⟨(hp.push {cls:=.type "list_iterator",data:=.fields #[.ref l,.int 0 0]}).push {cls:=.type "enumerate",data:=.fields #[.none,.bool false,.ref hp.objs.size,rawInt 1,.none,.none]},g,d,tk',os⟩:=fun tk'=>by
  refine q _ _ _ tk' rfl hz (Heap.get?_push_size _ rfl) ⟨_,Heap.get?_push_of_some _ (Heap.get?_push_size _ rfl),rfl,rfl⟩ ?_ fun b o e=>Heap.get?_push_of_some _ (Heap.get?_push_of_some _ e)
  rw [Heap.size_push,hz]
 wp_walk using PySem.AutoSeq1.wpAny_loadPart' hl
 refine wpAny_stack_any fun st=>wpAny_pure ?_
 refine both ?_ ?_
 ·wp_walk using PySem.AutoSeq1.wpAny_loadPart' hl,wpAny_pyIter_list p
  exact ⟨_,rfl,fin tk⟩
 ·wp_walk using PySem.AutoSeq1.wpAny_loadPart' hl,wpAny_pyIter_list p
  exact ⟨_,rfl,fin tk⟩
theorem aFa (a:Value) (t:Tok):checkTypeCall "enumerate" ⟨[a],[("start",.int 1 t)]⟩=pure ():=by kernel_rfl
theorem aFb (a:Value) (t:Tok):checkBuiltinCall "enumerate.__new__" ⟨[.type "enumerate",a],[("start",.int 1 t)]⟩=pure ():=by kernel_rfl
theorem aFc (a b:Value) (t:Tok):argsOk "object.__init__" ⟨[a,b],[("start",.int 1 t)]⟩:=by kernel_rfl
theorem aA7 {self b:Value} {t:Tok} {R:PySem.Fin->Shared->Prop} (hT:s.TypeIs self "enumerate") (q:R (.done (.ret .none)) s):wpAny (model prog w) A (Builtin.«object.__init__» ⟨[self,b],[("start",.int 1 t)]⟩) R E s:=by
 have hl:=F.called_enumerate.init.lookup;have hm:=F.called_enumerate.made
 repeat (any_goals (first|assumption|wp_step))
theorem aA8 {l:Addr} {items:Array Value} {t:Tok} {Q:Value->Shared->Prop} (hL:s.heap.IsList l items)
  (q:∀h' e it tk,it=s.heap.objs.size->e=it+1->IsEnum h' e it 1 .none->h'.IsListIter it l 0->h'.objs.size=it+2->(∀b o,s.heap.get? b=some o->h'.get? b=some o)->Q (.ref e) {s with heap:=h',toks:=tk}) :
  wpAny (model prog w) A (call (.type "enumerate") [.ref l] [("start",.int 1 t)]) Q E s:=by
 have ft:=F.called_enumerate;obtain ⟨c,tl,m0⟩:=ft.mro;have m1:=ft.made;have m2:=ft.sub;have m3:=ft.notType;have m4:=ft.canCreate;have k1:=aFa (.ref l) t;obtain ⟨⟨cl,dd,da,sl⟩,e,hc,n,hd⟩:=hL;simp only at hc hd;subst hc hd;refine wpAny_call (codeAny_of_tree (show wpAny _ _ (callAny (.type "enumerate") _) _ _ _ from wpAny_pure ⟨Code.quiet_builtin _ (by decide +kernel),codeAny_builtin F.entry_type_call ?_⟩));rw [Around.under_plain (weight_type_call_type "enumerate" _ _) (units_type_call_type "enumerate" _ _)]
 repeat (any_goals (first|assumption|wp_step))
 have step:∀c (R:Result->Shared->Prop),c=(Code.call (.builtin "enumerate.__new__") ⟨[.type "enumerate",.ref l],[("start",.int 1 t)]⟩)->(∀h' e it tk,it=s.heap.objs.size->e=it+1->IsEnum h' e it 1 .none->h'.IsListIter it l 0->h'.objs.size=it+2->(∀b o,s.heap.get? b=some o->h'.get? b=some o)->R (.ok (.ret (.ref e))) {s with heap:=h',toks:=tk})->codeAny (model prog w) A.in1 c R s:=fun c R hc hq=>by
  subst hc;exact codeAny_call_builtin ft.plain F.entry_enumerate_new (wpAny_of_eq (aFb (.ref l) t) (aD5 l items n dd sl t prog w A.in1 R s ⟨e,hq⟩))
 refine codeAny_mono (step _ (fun r s1=>∃h' a it tk,r=.ok (.ret (.ref a))/\s1={s with heap:=h',toks:=tk}/\IsEnum h' a it 1 .none/\Q (.ref a) s1) rfl fun h' a it tk x1 x2 x3 x4 x5 x6=>⟨h',a,it,tk,rfl,rfl,x3,q h' a it tk x1 x2 x3 x4 x5 x6⟩) fun r s1 hr=>?_
 obtain ⟨h',a,it,tk,rfl,rfl,x3,hq⟩:=hr;have hT:({s with heap:=h',toks:=tk}:Shared).TypeIs (.ref a) "enumerate":=⟨_,x3,rfl⟩
 have hli:=ft.init.lookup;have hbi:=ft.init.bind (.ref a)
 repeat (any_goals (first|assumption|wp_step))
 have step2:∀c (R:Result->Shared->Prop),c=(Code.call (.builtin "object.__init__") ⟨[.ref a,.ref l],[("start",.int 1 t)]⟩)->R (.ok (.ret .none)) {s with heap:=h',toks:=tk}->codeAny (model prog w) A.in1 c R {s with heap:=h',toks:=tk}:=fun c R hc hq=>by
  subst hc;exact codeAny_call_builtin ft.init.plain F.entry_object_init (ft.init.check _ _ _ _ _ _ _ _ hT (aFc _ _ _) (aA7 hT hq))
 refine codeAny_mono (step2 _ (fun r s2=>r=.ok (.ret .none)/\s2={s with heap:=h',toks:=tk}) rfl ⟨rfl,rfl⟩) fun r s2 hr=>?_
 obtain ⟨rfl,rfl⟩:=hr
 repeat (any_goals (first|assumption|wp_step))
end
theorem shift {prog:Program} {w:World} {A:Around} {it:Addr} {fp:List Addr} {n:Nat} {P:Nat->Value->Prop} {St:Nat->Heap->Prop} (D:Draws prog w A it fp n P St) (m:Nat):Draws prog w A it fp (m+n) (fun j v=>P (j-m) v) (fun j h=>∃i,j=m+i/\St i h) where
 live:=fun j h ⟨i,_,st⟩=>D.live i h st
 frame:=fun j h h' ⟨i,e,st⟩ k=>⟨i,e,D.frame i h h' st k⟩
 item:=fun j s Q E hj ⟨i,e,st⟩ hQ=>D.item i s Q E (by lia) st fun x h' tk px st' sb=>hQ x h' tk (by rw [e,Nat.add_sub_cancel_left];exact px) ⟨i+1,by lia,st'⟩ sb
 done:=fun s Q E ⟨i,e,st⟩ hE=>by
  obtain rfl:n=i:=by lia
  exact D.done s Q E st hE
theorem over {prog:Program} {w:World} {A:Around} (hh:A.handled=none) (it l:Addr) (items:Array Value) (i:Nat) (hi:items[i]?=none):Draws prog w A it [it,l] 0 (fun _ _=>True) (fun _ h=>h.IsListIter it l i/\h.IsList l items) where
 live:=fun _ _ st=>let ⟨o,ho,_⟩:=st.1;⟨o,ho⟩
 frame:=fun _ _ _ st k=>⟨st.1.at fun o e=>k it (List.mem_cons_self ..) o e,st.2.at fun o e=>k l (by simp) o e⟩
 item:=fun j s Q E hj=>absurd hj (Nat.not_lt_zero _)
 done:=fun s Q E st hE=>wpAny_nextOf_list_end hh st.1 st.2 hi hE
end Wn
namespace Mi
open PySem L2 PySem.SeqAt PySem.Spec PyProof.Rows
def xY (m:Nat) (a:FE) (fr:Bool):FI:=fun ρ=>do let x <- a ρ;let xs <- TV x;pure (zP m xs,fr||x.pure)
variable [KFrag]
theorem W9 {h:Heap} {a b:Addr} {o u:Obj} {T U:String} (e:h.get? a=some o) (hc:o.cls=.type T) (e':h.get? b=some u) (hc':u.cls=.type U) (ne:(Value.type T==Value.type U)=false):a≠b:=fun q=>by
 subst q;rw [e] at e';cases e';rw [hc] at hc';rw [hc'] at ne;simp at ne
theorem JL {P:Program} {w:World} {K:PySem.W.Frag} {elts:List Expr} {x1} {tp:Pos} (m:Nat) (a e it:Addr) (hne:e≠it):Turn P w K (.Tuple elts x1 tp) (aG3 K m a) [e,it] e (fun i h=>(∃old,IsEnum h e it ((m+i:Nat):Int) old)/\h.IsListIter it a i) where
 mem:=List.mem_cons_self ..
 obj:=fun i h ⟨⟨old,h1⟩,o,h2,_,h3⟩ b hb=>by
  simp only [List.mem_cons,List.not_mem_nil,or_false] at hb;rcases hb with rfl|rfl
  ·exact ⟨_,h1,fun v z=>nomatch (show Data.fields _=Data.cell v from z)⟩
  ·exact ⟨o,h2,fun v z=>by rw [h3] at z;cases z⟩
 keep:=fun i h h' ⟨⟨old,h1⟩,h2⟩ k=>⟨⟨old,k e (List.mem_cons_self ..) _ h1⟩,h2.at fun o q=>k it (by simp) o q⟩
 item:=by
  intro Y hP hw hK hc i pins s σ H E I hf ⟨⟨old,h1⟩,h2⟩ ⟨xs,x,hq,hx⟩;subst hP hw hK;obtain ⟨its,rv,p,hz⟩:=I.list hq;obtain ⟨u,hu,ru⟩:=rv.get hx;have hlt:e<s.heap.objs.size:=Heap.lt_size h1;obtain ⟨oi,e2,c2,d2⟩:=id h2;obtain ⟨ol,e3,c3,_⟩:=id p.isList;have nai:a≠it:=W9 e3 c3 e2 c2 (by decide);have nea:e≠a:=W9 h1 rfl e3 c3 (by decide);have D:=Wn.shift (Draws.list (prog:=Y.prog) (w:=Y.w) (A:=Y.A.in1) (show Y.A.in1.handled=none from I.ok.hd hc) it a nai its.toArray) m;have hil:i<its.toArray.size:=by
   have:=(List.getElem?_eq_some_iff.mp hu).1;simpa using this
  refine wpAny_pyNext_enum_itemD D h1 ⟨i,rfl,h2,p.isList⟩ (by lia) hne (by simp [hne,nea]) fun v h' tk o0 o1 o2 o3 o4 o5=>?_
  rw [Nat.add_sub_cancel_left] at o0;obtain rfl:u=v:=by
   have:its[i]?=some v:=by simpa using o0
   rw [hu] at this;exact Option.some.inj this
  obtain ⟨i',ei,st1,st2⟩:=o2;obtain rfl:i'=i+1:=by lia
  refine ⟨_,rfl,wpAny_letOwnedTupleGo_enum o1 fun h'' g1 g2=>?_⟩;have sb:Heap.SameBut e h' h'':=g2;have kk:∀b o,b∉[e,it]->s.heap.get? b=some o->h''.get? b=some o:=fun b o hb eb=>by
   simp only [List.mem_cons,List.not_mem_nil,or_false,not_or] at hb;exact (sb.2 b hb.1).trans (o5 b o hb.1 hb.2 eb)
  have t3:h''.get? s.heap.objs.size=some {cls:=.type "tuple",data:=.seq #[.int ((m+i:Nat):Int) tk,u]}:=(sb.2 _ (Nat.ne_of_gt hlt)).trans o3;refine ⟨.ref s.heap.objs.size,upd H s.heap.objs.size (.tup [.int ((m+i:Nat):Int),x]),oZ (s:=s) (h':=h'') (t':=tk+1) (ch:=[e,it]) I kk (fun b hb=>hf b hb) (Nat.le_refl _) ?_,rfl,⟨_,x,fun ys hy=>by rw [I.vJ hy hq];exact hx,rfl,I.hok.fresh (Nat.le_refl _),rfl⟩,⟨⟨u,?_⟩,?_⟩,fun b hb=>?_⟩
  ·exact ⟨by show 2<=sizeLine;rw [sizeLine_eq];decide,[.int ((m+i:Nat):Int) tk,u],.cons ⟨_,rfl⟩ (.cons ru .nil),⟨_,t3,rfl,0,rfl⟩⟩
  ·have:((m+(i+1):Nat):Int)=((m+i:Nat):Int)+1:=by lia
   rw [this];exact g1
  ·obtain ⟨o,ho,r⟩:=st1;exact ⟨o,(sb.2 it (Ne.symm hne)).trans ho,r⟩
  ·rw [aR]
   ·exact (hf b hb).1
   ·intro z;simp only [List.mem_cons,List.not_mem_nil,or_false] at hb;rcases hb with h|h
    ·rw [<-h,z] at hlt;exact Nat.lt_irrefl _ hlt
    ·have:=Heap.lt_size e2;rw [<-h,z] at this;exact Nat.lt_irrefl _ this
 done:=by
  intro Y hP hw hK hc i pins s σ H E I hf ⟨⟨old,h1⟩,h2⟩ ⟨xs,hq,hx⟩;subst hP hw hK;obtain ⟨its,rv,p,hz⟩:=I.list hq;obtain ⟨f0,f1,f2,f3,f4,f5⟩:=hf it (by simp);have hl:=rv.length;exact wpAny_pyNext_enum_endD (Wn.over (show Y.A.in1.handled=none from I.ok.hd hc) it a its.toArray i (by simp;lia)) h1 ⟨h2,p.isList⟩ fun h' eb=>⟨rfl,I.turned (t':=s.toks) (fun b o hb e=>eb b o hb e) f0 f1 f3 f4 f5⟩
 self:=fun _ _ _ _ _ ⟨⟨old,h1⟩,_⟩ h=>wpAny_pyIter_enum h1 h
section
variable {X:Cx} {a:Expr} {fa:FE} {ra:Bool} {p pos:Pos}
theorem aA9 {M:Model} {A:Around} {E:Value->Shared->Prop} {s:Shared} {T:String} {args:List (Bool×Sem Value)} {kws:List (Option Str×Sem Value)} {Q:Value->Shared->Prop} (hp:args.any (·.1)=false) (hk:kws.any (·.1.isNone)=false)
  (h:wpAny M A (evalArgs (.type T) true args kws) (fun a s₁=>wpAny M A (call (.type T) a.pos a.kw) Q E s₁) E s):wpAny M A (callWith pos (.type T) [] args kws) Q E s:=by
 unfold callWith;refine wpAny_bind (wpAny_holding (wpAny_mono h (fun a s1 h1=>wpAny_bind (wpAny_standAt ?_)) fun _ _ x=>x));rw [hp,hk];exact wpAny_bind (wpAny_pure (wpAny_bind (wpAny_mono h1 (fun r s2 hr=>wpAny_bind (wpAny_holding (wpAny_point (wpAny_pure hr)))) fun _ _ x=>x)))
theorem T9 {elts:List Expr} {x1} {tp kp cp:Pos} {j:Nat} (hg:Gl X "enumerate") (hm:X.mg "enumerate" = none) (ha:PA X [a] (gA (aD fa aZ) ra)) (hs:starEach [a] X.env=[(false,eval a X.env)]:=by rfl) :
  PI X (.Tuple elts x1 tp) (.Call (.Name "enumerate" p) [a] [⟨some "start",.Constant (.int 1) j cp,kp⟩] pos) (gI X.K (xY 1 fa ra)):=by
 intro pins s σ H R I ⟨ρ,items,k,E,h,q⟩;obtain ⟨d,h1,h⟩:=bH h;obtain ⟨its,h2,h⟩:=bH h;cases h;have hd:d=.lst its:=by
  unfold TV at h2;split at h2
  ·cases h2;rfl
  ·cases h2
 subst hd;have hb:aD fa aZ ρ=.ok [D.lst its]:=by
  unfold aD;rw [h1];rfl
 refine wpAny_Call_Name_kw (uR I hg hm PyProof.Rows.boot_enumerate (aA9 (by rw [hs];rfl) rfl ?_));have hA:=ha pos pins s σ H (fun vs H1=>∃v,vs=[v]/\cN H H1/\Rep All H1 v (.lst its)/\(ra=true->Rep (New H) H1 v (.lst its))) I ⟨ρ,_,E,hb,fun vs H1 s1 r1 n1=>by
  cases r1 with
  | cons r t=>
   cases t;refine ⟨_,rfl,s1,r,fun z=>?_⟩;cases n1 z with
   | cons r' _=>exact r'⟩
 rw [hs] at hA ⊢;refine evalArgs_kwB rfl (thn hA fun us s1 ⟨vs,H1,I1,r1,q1⟩=>kws_cons (wpAny_Constant_int (kws_nil ?_)));obtain ⟨v,rfl,s1',r,n⟩:=q1;cases r1 with
 | cons rv rr=>
  cases rr;obtain ⟨l,ys,rfl,hl,rr⟩:=r.fK (K:=X.K);cases rv;obtain ⟨vs,rvs,pl,hz⟩:=I1.list hl;refine Wn.aA8 (s:={s1 with toks:=s1.toks+1}) pl.isList fun h' e it tk e1 e2 e3 e4 e5 e6=>wpAny_pyIter_enum e3 ?_
  subst e2 e1;have hp1:∀b o,s1.heap.get? b=some o->h'.get? b=some o:=e6;refine ⟨s1.heap.objs.size+1,[s1.heap.objs.size+1,s1.heap.objs.size],_,_,H1,rfl,I1.kept (t':=tk) fun b o e=>hp1 b o e,JL 1 l (s1.heap.objs.size+1) s1.heap.objs.size (Nat.succ_ne_self _),⟨⟨_,e3⟩,e4⟩,fun b hb=>?_,q _ H1 s1' (.enf 1 l its rfl r rfl) fun hk=>.enf 1 l its rfl ?_ rfl⟩
  ·simp only [List.mem_cons,List.not_mem_nil,or_false] at hb;rcases hb with rfl|rfl
   ·exact I1.V6 (Nat.le_succ _) (I1.hok.fresh (Nat.le_succ _))
   ·exact I1.V6 (Nat.le_refl _) (I1.hok.fresh (Nat.le_refl _))
  ·rw [Bool.or_eq_true] at hk;rcases hk with hk|hk
   ·exact n hk
   ·cases hk
end
end Mi
namespace Mi
open PySem L2 PySem.SeqAt PySem.Spec PyProof.Rows
noncomputable def J7:D->Option (List D)
 | .lst xs=>some xs
 | .cel _ xs=>some xs
 | _=>none
noncomputable def aD6:D->List D->D
 | .cel a _,xs=>.cel a xs
 | _,xs=>.lst xs
def jO (i:Nat) (fk fv:FE):FS:=fun ρ=>do
 let d <- fv ρ
 let k <- fk ρ
 match J7 (ρ.getD i .uD),k with
 | some xs,.int k=>if d.pure then (match ixD xs.length k with|some j=>.ok (.nx (ρ.set i (aD6 (ρ.getD i .uD) (xs.set j d))))|none=>.bad) else .bad
 | _,_=>.bad
noncomputable def bPu (f:FE):FE:=fun ρ=>do
 let d <- f ρ
 if d.pure then .ok d else .bad
variable [KFrag]
section
variable {own:Nat->Bool}
theorem aD7 {P:Addr->Prop} {H:Hp} {a:Addr} {d:D} {xs:List D} (r:Rep P H (.ref a) d) (h:J7 d=some xs):∃vs,H a=some (.lst vs)/\P a/\bV P H vs xs:=by
 cases d <;> simp only [J7] at h <;> cases h <;> cases r
 ·exact ⟨_,by assumption,by assumption,by assumption⟩
 ·exact ⟨_,by assumption,by assumption,by assumption⟩
theorem aAa {P:Addr->Prop} {H:Hp} {v:V} {b:Nat} {xs:List D} (r:Rep P H v (.cel b xs)):v=.ref b:=by cases r;rfl
theorem aD8 {P P':Addr->Prop} {H H':Hp} {a:Addr} {d:D} {xs xs':List D} {vs':List V} (r:Rep P H (.ref a) d) (h:J7 d=some xs) (e:H' a=some (.lst vs')) (p:P' a) (r':bV P' H' vs' xs'):Rep P' H' (.ref a) (aD6 d xs'):=by
 cases d <;> simp only [J7] at h <;> cases h <;> cases r
 ·exact .lst e p r'
 ·exact .cel e p r'
theorem aD9 {d:D} {xs:List D} (h:J7 d=some xs):inner d=D.bU xs:=by
 cases d <;> simp only [J7] at h <;> cases h <;> rfl
theorem aAb {d:D} {xs xs':List D} (h:J7 d=some xs):inner (aD6 d xs')=D.bU xs':=by
 cases d <;> simp only [J7] at h <;> cases h <;> rfl
theorem aDa {d:D} {xs:List D} (h:J7 d=some xs):d≠.uD:=fun z=>by subst z;cases h
theorem ES.aGz {H H':Hp} {σ:L2.St} {ρ:List D} {i:Nat} {a:Addr} {o:HO} {d:D} (E:ES own H σ ρ) (ho:own i=true) (hi:σ[i]?=some (some (.ref a))) (hk:∀b ob,H b=some ob->b≠a->H' b=some ob) (e:H' a=some o) (hm:wQ o=true) (r:Rep All H' (.ref a) d) (hin:inner d=true) :
  ES own H' σ (ρ.set i d)/\KU own σ H σ H':=by
 have hOa:Own own σ a:=⟨i,ho,hi⟩
 obtain ⟨a',oa,ea,_,_,hHa,hma,huq⟩:=E.own i _ ho hi;cases ea;have k:KU own σ H σ H':=fun b ob e n=>⟨hk b ob e (fun z=>by subst z;exact n hOa),n⟩
 have hl:i<ρ.length:=by rw [<-E.len];exact (List.getElem?_eq_some_iff.mp hi).1
 refine ⟨⟨by simp [E.len],fun j hj=>?_,fun j w hj hw=>?_⟩,k⟩
 ·rw [bR] at hj ⊢;by_cases h:i=j/\i<ρ.length
  ·obtain ⟨rfl,_⟩:=h;exact ⟨_,hi,fun z=>by rw [ho] at z;cases z⟩
  ·rw [if_neg h] at hj ⊢;obtain ⟨w,h1,h2⟩:=E.at_ j hj;exact ⟨w,h1,fun hj=>k.rep E (h2 hj)⟩
 ·by_cases hij:i=j
  ·subst hij;rw [hi] at hw;cases hw;rw [bR,if_pos ⟨rfl,hl⟩];exact ⟨a,o,rfl,r,hin,e,hm,huq⟩
  ·rw [bR,if_neg fun z=>hij z.1];obtain ⟨b,ob,h1,h2,h3,h4,h5,h6⟩:=E.own j w hj hw;subst h1;have hba:b≠a:=fun z=>by subst z;exact hij (h6 i ho hi)
   refine ⟨b,ob,rfl,?_,h3,hk _ _ h4 hba,h5,h6⟩;refine (h2.aE7 (P':=fun c=>c=b) h3 rfl).keep (fun c oc hc hp=>?_) fun _ _=>trivial
   refine hk _ _ hc fun z=>?_
   subst z;rcases hp with hp|hp
   ·exact hba hp.symm
   ·rw [hHa] at hc;cases hc;rw [hma] at hp;cases hp
end
section
variable {own:Nat->Bool} {a b e:Expr}
theorem aAc {σ:L2.St} {H:Hp} {ρ:List D} {i:Nat} {xs:List D} (E:ES own H σ ρ) (ho:own i=true) (h:J7 (ρ.getD i .uD)=some xs):∃a vs,σ[i]?=some (some (.ref a))/\H a=some (.lst vs)/\bV All H vs xs/\D.bU xs=true/\Rep All H (.ref a) (ρ.getD i .uD)/\∀b,ρ.getD i .uD=.cel b xs->b=a:=by
 obtain ⟨a,o,hσ,r,hin,ha,hm⟩:=E.ownAt ho (aDa h);obtain ⟨vs,e,_,rr⟩:=aD7 r h;exact ⟨a,vs,hσ,e,rr,by rw [aD9 h] at hin;exact hin,r,fun b hb=>by rw [hb] at r;have:=aAa r;cases this;rfl⟩
end
section
variable {own:Nat->Bool} {X:Cx} {a b e:Expr} {pos pos':Pos}
theorem lW {i:Nat} {x:Str} {p1:Pos} {value k:Expr} {fv fk:FE} {rv rk:Bool} (ho:own i=true) (hN:X.N[i]?=some x) (hvi:Vis X.env.scope x) (hk:PE X k (gE fk rk)) (hv:PE X value (gE fv rv)) (hs:swapsWith value (some (.Subscript (.Name x p1) k pos')) pos.line X.env=pure false:=by rfl) (hd:nDb x:=by decide) (hcd:nCd x:=by decide) :
  PS X (.Assign [.Subscript (.Name x p1) k pos'] value pos) (tS own (jO i fk fv)):=by
 intro pins s σ H D' I ⟨ρ,fl,E,h,q⟩;obtain ⟨d,h0,h⟩:=bH h;obtain ⟨kd,h1,h2⟩:=bH h;split at h2
 ·rename_i xs kk hx;split at h2
  ·rename_i hp;split at h2
   ·rename_i j hj;cases h2;obtain ⟨a,vs,hσ,e0,rr,hin,rp,_⟩:=aAc E ho hx;have pn:D.bU (xs.set j d)=true:=jC.mpr fun y hy=>by
     rcases List.mem_or_eq_of_mem_set hy with hy|hy
     ·exact jC.mp hin y hy
     ·subst hy;exact hp
    have go:∀{v:V} {H2:Hp},cN H H2->Rep All H2 v d->D'.nx σ (upd H2 a (.lst (vs.set j v))):=fun {v H2} sm rv=>by
     have rn:bV All (upd H2 a (.lst (vs.set j v))) (vs.set j v) (xs.set j d):=((rr.same sm).set rv j).upd pn (sm _ _ e0) rfl;obtain ⟨E2,k2⟩:=(E.same sm).aGz (H':=upd H2 a (.lst (vs.set j v))) (o:=.lst (vs.set j v)) (d:=aD6 (ρ.getD i .uD) (xs.set j d)) ho hσ (fun b ob e n=>by rw [aR n];exact e) aH rfl (aD8 (rp.same sm) hx aH trivial rn) (by rw [aAb hx];exact pn);exact q _ _ ((KU.same sm).trans k2) E2
    refine wpAny_Assign_Subscript (thn (hv pins s σ H (fun v H1=>cN H H1/\Rep All H1 v d) I ⟨ρ,d,E.er,h0,fun v H1 s1 r1 _=>⟨s1,r1⟩⟩) fun u1 t1 ⟨v,H1,I1,rv1,sm1,rp1⟩=>
     thn (fV hN hvi hd hcd pins t1 σ H1 (fun w H2=>w=.ref a/\H2=H1) I1 ⟨_,hσ,rfl,rfl⟩) fun u2 t2 ⟨xx,H2,I2,rx,ex,eH⟩=>?_) hs
    subst ex;rw [eH] at I2;refine thn (hk pins t2 σ _ (fun w H3=>cN H1 H3/\w=.int kk) I2 ⟨ρ,_,E.er.same sm1,h1,fun w H3 s3 r3 _=>⟨s3,by cases r3;rfl⟩⟩) fun u3 t3 ⟨y,H3,I3,ry,sm3,ey⟩=>?_
    subst ey;exact thn (set_list pins t3 σ H3 (.ref a) (.int kk) v u2 u3 u1 (fun H4=>D'.nx σ H4) I3 rx ry rv1 ⟨a,vs,kk,j,rfl,rfl,(sm1.trans sm3) _ _ e0,by rw [rr.length];exact hj,go (sm1.trans sm3) (rp1.same sm3)⟩) fun _ t4 ⟨H4,I4,q4⟩=>⟨σ,H4,I4,q4⟩
   ·cases h2
  ·cases h2
 ·cases h2
end
section
variable {X:Cx} {a:Expr} {fa:FE} {ra:Bool}
theorem aFd (ha:PE X a (gE fa ra)):PE X a (gE (bPu fa) true):=PE.imp ha fun σ H Q ⟨ρ,d,E,h,q⟩=>by
 obtain ⟨x,h1,h⟩:=bH h;split at h
 ·rename_i hp;cases h;exact ⟨ρ,_,E,h1,fun v H' s r _=>q v H' s r fun _=>r.cP hp⟩
 ·cases h
end
end Mi
namespace Mi
open PySem
theorem PX (o:Obj) (f:Array Value->Array Value):(o.mapFields f).dict=o.dict:=by
 obtain ⟨c,d,dt,sl⟩:=o;cases dt <;> rfl
theorem FN (T:Addr):(Value.ref T != Value.none)=true:=by simp
theorem T_ (L:Addr):¬((Value.none==rawInt L)=true):=by simp [rawInt]
def TrD (h B:Heap) (e:Addr) (c:Value) (dd:Option Addr) (fl:Value):Prop:=
 ∃o vs T oT ts,(h.get? e=some o/\o.cls=c/\o.dict=dd/\o.data=.fields vs)/\(vs[1]?=some (.ref T)/\B.get? T=none/\T≠e)/\h.get? T=some oT/\oT.data=.fields ts/\ts[3]?=some fl
def FD (B:Heap) (l:List Env) (e:Addr) (c:Value) (dd:Option Addr) (fl:Value) (h:Heap):Prop:=B.StaysIn h/\B.get? e=none/\h.FunFrames B l/\TrD h B e c dd fl
theorem FD.there {B h:Heap} {l:List Env} {e:Addr} {c fl:Value} {dd:Option Addr} (x:FD B l e c dd fl h):∃o,h.get? e=some o/\o.cls=c/\o.dict=dd/\∃vs,o.data=.fields vs:=by
 obtain ⟨_,_,_,o,vs,_,_,_,⟨a,b,d,f⟩,_⟩:=x;exact ⟨o,a,b,d,vs,f⟩
section
variable {M:Model} {A:Around} {E:Value->Shared->Prop} {s:Shared} {B:Heap} {env:Env} {outer l:List Env} {L e:Addr} {oe:Obj} {vs:Array Value} {head c:Value} {dd:Option Addr} {Q:Unit->Shared->Prop}
theorem v6 {h:Heap} {a:Addr} {o:Obj} {ws:Array Value} (i:Nat) (v:Value) (ho:h.get? a=some o) (hd:o.data=.fields ws) :
  ∃h2:Heap,h2=h.update a (Obj.mapFields (·.setIfInBounds i v))/\(∀b,b≠a->h2.get? b=h.get? b)/\∃o2,h2.get? a=some o2/\o2.cls=o.cls/\o2.dict=o.dict/\o2.data=.fields (ws.setIfInBounds i v):=
 ⟨_,rfl,fun b hb=>Heap.get?_update_other _ _ (Ne.symm hb),_,Heap.get?_update_self _ ho (Obj.isFreed_of_fields (Obj.data_mapFields hd _)),Obj.cls_mapFields _ _,PX _ _,Obj.data_mapFields hd _⟩
theorem FP {had:Bool} (hfr:A.frames=some (env::outer)) (hl:s.heap.FunFrames B (env::outer)) (hf:env.frame=some L) (he:s.heap.get? e=some oe) (hB:B.StaysIn s.heap) (hn:B.get? e=none) (hd:oe.data=.fields vs) (hz:1<vs.size)
  (q:∀h',FD B (env::outer) e oe.cls oe.dict (rawInt L) h'->s.heap.UpToSlots h'->Q () {s with heap:=h'}) :
  wpAny M A (do let a <- frameOf env;let pl <- entryPlaceOf L had;let b <- EntryCells.newEntry head a .none (rawInt L) .none pl;setField (.ref e) 1 b) Q E s:=by
 have nf:e∉(env::outer).filterMap (·.frame):=fun z=>by
  obtain ⟨_,o,ho,k⟩:=hl.mem z;cases he.symm.trans ho;exact k _ hd
 refine wpAny_bind (wpAny_frameOf_fun hfr hl hf fun h1 so=>wpAny_bind (wpAny_entryPlaceOf fun pl hp=>?_));unfold EntryCells.newEntry;unfold newFields;refine wpAny_bind (wpAny_newObj_type ?_ (hp.sizeOk5 _ _ _ _ _));generalize hon:({cls:=.type "traceback",dict:=none,data:=.fields ([head,.ref L,.none,rawInt L,.none]++(if pl.isEmpty then List.replicate 6 Value.none else pl)).toArray}:Obj)=on;have e1:h1.get? e=some oe:=(so.2.1 e nf).trans he;have B1:B.StaysIn h1:=fun b o k=>(so.2.1 b fun z=>by rw [(hl.mem z).1] at k;cases k).trans (hB b o k)
 have e2:=Heap.get?_push_of_some (h:=h1) on e1;obtain ⟨h3,r3,k3,o3,g3,c3,d3,f3⟩:=v6 1 (.ref h1.objs.size) e2 hd;have ne:h1.objs.size≠e:=Nat.ne_of_gt (Heap.lt_size e1);have t3:h3.get? h1.objs.size=some on:=(k3 _ ne).trans (Heap.get?_push_size h1 (by rw [<-hon];rfl));have keep:∀b o,b≠e->h1.get? b=some o->h3.get? b=some o:=fun b o hb k=>(k3 b hb).trans (Heap.get?_push_of_some _ k)
 have nr:∀b o,s.heap.get? b=some o->(∀vs,o.data≠.fields vs)->b≠e:=fun b o k z w=>by
  rw [w] at k;cases he.symm.trans k;exact z _ hd
 have up:s.heap.UpToSlots h3:=fun b o k z=>by
  obtain ⟨sl,w⟩:=so.2.2 b o k;exact ⟨sl,keep b _ (nr b o k z) w⟩
 refine wpAny_setField e2 hd hz ?_;rw [<-r3];refine q h3 ⟨fun b o k=>keep b o (fun z=>by rw [z,hn] at k;cases k) (B1 b o k),hn,hl.of_keeps fun b o k z=>let ⟨sl,w⟩:=up b o k z;⟨_,w,rfl⟩,?_⟩ up;have don:on.data=.fields ([head,.ref L,.none,rawInt L,.none]++(if pl.isEmpty then List.replicate 6 Value.none else pl)).toArray:=by rw [<-hon]
 exact ⟨o3,_,h1.objs.size,on,_,⟨g3,c3,d3,f3⟩,⟨by simp [hz],B1.fresh,ne⟩,t3,don,by simp⟩
theorem o_ {fl:Value} (x:FD B l e c dd fl s.heap) (q:∀h',FD B l e c dd .none h'->s.heap.UpToSlots h'->Q () {s with heap:=h'}):wpAny M A (setFlight (.ref e) none) Q E s:=by
 obtain ⟨k1,k2,k3,o,vs,T,oT,ts,⟨g1,g2,g3,g4⟩,⟨t1,t2,t3⟩,u1,u2,u3⟩:=x;obtain ⟨h2,r2,j2,o2,p1,p2,p3,p4⟩:=v6 3 Value.none u1 u2;have hz:3<ts.size:=(Array.getElem?_eq_some_iff.mp u3).1;have up:∀b o,s.heap.get? b=some o->(∀vs,o.data≠.fields vs)->h2.get? b=some o:=fun b o k z=>(j2 b fun w=>by
  rw [w] at k;cases u1.symm.trans k;exact z _ u2).trans k
 unfold setFlight;refine wpAny_bind (wpAny_field g1 g4 t1 ?_);rw [if_pos (FN T)];refine wpAny_setField u1 u2 hz ?_;show Q () {s with heap:=s.heap.update T (Obj.mapFields (·.setIfInBounds 3 Value.none))};rw [<-r2];exact q h2 ⟨fun b o k=>(j2 b fun w=>by rw [w,t2] at k;cases k).trans (k1 b o k),k2,k3.of_keeps fun b o k z=>⟨o,up b o k z,rfl⟩,o,vs,T,o2,_,⟨(j2 e (Ne.symm t3)).trans g1,g2,g3,g4⟩,⟨t1,t2,t3⟩,p1,p4,by simp [hz]⟩ fun b o k z=>⟨o.slots,up b o k z⟩
theorem aAd (hfr:A.frames=some (env::outer)) (hf:env.frame=some L) (x:FD B (env::outer) e c dd .none s.heap) (q:∀h',FD B (env::outer) e c dd (rawInt L) h'->s.heap.UpToSlots h'->Q () {s with heap:=h'}):wpAny M A (noteFrame (.ref e) env) Q E s:=by
 obtain ⟨k1,k2,k3,o,vs,T,oT,ts,⟨g1,g2,g3,g4⟩,⟨t1,t2,t3⟩,u1,u2,u3⟩:=x;obtain ⟨h2,r2,j2,o2,p1,p2,p3,p4⟩:=v6 3 Value.none u1 u2;have up:∀b o,s.heap.get? b=some o->(∀vs,o.data≠.fields vs)->h2.get? b=some o:=fun b o k z=>(j2 b fun w=>by
  rw [w] at k;cases u1.symm.trans k;exact z _ u2).trans k
 unfold noteFrame;simp only [hf];refine wpAny_bind (wpAny_field g1 g4 t1 ?_);rw [if_pos (FN T)];refine wpAny_bind (wpAny_field u1 u2 u3 ?_);rw [if_neg (T_ L)];refine wpAny_bind (wpAny_setField u1 u2 (Array.getElem?_eq_some_iff.mp u3).1 ?_);rw [<-r2];have g1':h2.get? e=some o:=(j2 e (Ne.symm t3)).trans g1;subst g2 g3;refine FP (s:={s with heap:=h2}) hfr (k3.of_keeps fun b o k z=>⟨o,up b o k z,rfl⟩) hf g1' (fun b o k=>(j2 b fun w=>by rw [w,t2] at k;cases k).trans (k1 b o k)) k2 g4 (Array.getElem?_eq_some_iff.mp t1).1 fun h' y z=>q h' y fun b o k w=>z b o (up b o k w) w
theorem UG (hfr:A.frames=some (env::outer)) (hf:env.frame=some L) (hl:s.heap.FunFrames B (env::outer)) (he:s.heap.get? e=some oe) (hB:B.StaysIn s.heap) (hn:B.get? e=none) (hd:oe.data=.fields vs) (hv:vs[1]?=some .none)
  (q:∀h',FD B outer e oe.cls oe.dict .none h'->s.heap.UpToSlots h'->Q () {s with heap:=h'}):wpAny M A (leaving env (.ref e)) Q E s:=by
 unfold leaving noteFrame;simp only [hf];refine wpAny_bind (wpAny_bind (wpAny_field he hd hv ?_));rw [if_neg (by decide)];exact FP hfr hl hf he hB hn hd (Array.getElem?_eq_some_iff.mp hv).1 fun h1 x1 u1=>o_ (s:={s with heap:=h1}) x1 fun h2 x2 u2=>q h2 ⟨x2.1,x2.2.1,x2.2.2.1.2.2,x2.2.2.2⟩ (u1.trans u2)
end
end Mi
namespace Mi
open PySem PySem.W Builtin Builtin.ObjectAttr
noncomputable abbrev vMr:List Value:=[.type "ValueError",.type "Exception",.type "BaseException",.type "object"]
def exC (K:Frag) (C:Addr):Bool:=match K.lookup C with
 | some o=>(match o.cls,o.data,o.slots.toList with
  | .type "type",.cls k,[_,_,_,_,some (.builtin n),_]=>(match k.mro with
   | .ref C'::r=>C'==C&&n == "ValueError.__new__" && !k.hasDel&&k.hasDict&&tailIn K vMr r&&nsOkIn K k.ns
   | _=>false)
  | _,_,_=>false)
 | none=>false
structure ExO (h:Heap) (C:Addr) where
 bm:List Value
 N:Addr
 nm:Str
 qn:Str
 bs:List Value
 sn:List Str
 sub:List Value
 ab:Bool
 col:Option Bool
 dd:Option Addr
 k0:Option Value
 k1:Option Value
 k2:Option Value
 k3:Option Value
 k5:Option Value
 mN:Str->Option Value
 ob:h.get? C=some (excClassObj nm qn C N bs bm true sn sub ab col dd k0 k1 k2 k3 k5 "ValueError.__new__")
 ns:h.Ns N mN
 tl:OwnTail h vMr bm
theorem FQ {K:Frag} {h:Heap} {C:Addr} (X:K.In h) (q:exC K C=true):Nonempty (ExO h C):=by
 unfold exC at q;split at q
 ·rename_i o ho;split at q
  ·rename_i k k0 k1 k2 k3 n k5 e1 e2 e3;split at q
   ·rename_i C' r e4;rw [Bool.and_eq_true,Bool.and_eq_true,Bool.and_eq_true,Bool.and_eq_true,Bool.and_eq_true] at q;obtain ⟨⟨⟨⟨⟨q1,q2⟩,q3⟩,q4⟩,q5⟩,q6⟩:=q;have q1:=beq_iff_eq.mp q1;have q2:=beq_iff_eq.mp q2;rw [Bool.not_eq_true'] at q3;subst q1 q2;obtain ⟨oc,od,dt,⟨sl⟩⟩:=o;dsimp only at e1 e2 e3;subst e1 e2 e3;obtain ⟨nm,bs,mro,ns,qn,hd,sn,sub,ab,col,del⟩:=k;dsimp only at e4 q3 q4 q6;subst e4 q3 q4;exact ⟨⟨r,ns,nm,qn,bs,sn,sub,ab,col,od,k0,k1,k2,k3,k5,_,X _ _ ho,.of_isNs (isNs_of_in X q6),tail_of_in X q5⟩⟩
   ·cases q
  ·cases q
 ·cases q
section
variable {prog:Program} {w:World} {A:Around} {E:Value->Shared->Prop} {K:Frag} {C:Addr}
theorem call_exc {h:Heap} {g:Array GenState} {d:Drawn} {t:Nat} {os:OsState} {f:Addr} {us:List Value} {Q:Value->Shared->Prop} (X:K.In h) (q:exC K C=true) (hi:findIn K (.ref C) "__init__" = some (some (.ref f))) (hf:typeIn K (.ref f)=some (.type "function")) (hz:us.length<=sizeLine)
  (hq:wpAny (model prog w) (A.under (.builtin "type.__call__" ⟨.ref C::us,[]⟩)) (call (.ref f) (.ref (h.objs.size+1)::us)) (fun r s'=>r=.none/\Q (.ref (h.objs.size+1)) s') E
   ⟨(h.push {cls:=.type "tuple",data:=.seq us.toArray}).push {cls:=.ref C,data:=.fields #[.ref h.objs.size,.none,.none,.none,.bool false,.none]},g,d,t,os⟩) :
  wpAny (model prog w) A (call (.ref C) us) Q E ⟨h,g,d,t,os⟩:=by
 obtain ⟨⟨bm,N,nm,qn,bs,sn,sub,ab,col,dd,k0,k1,k2,k3,k5,mN,hC,hN,T⟩⟩:=FQ X q;have F:=PySem.F.excBase_ValueError;have f1:=tc_lookup;have f2:=tc_bind (.ref C);have ty:(⟨h,g,d,t,os⟩:Shared).TypeIs (.ref C) "type":=⟨_,hC,rfl⟩
 have kk:∀b o,h.get? b=some o->((h.push {cls:=.type "tuple",data:=.seq us.toArray}).push {cls:=.ref C,data:=.fields #[.ref h.objs.size,.none,.none,.none,.bool false,.none]}).get? b=some o:=fun b o e=>Heap.get?_push_of_some _ (Heap.get?_push_of_some _ e)
 have X1:=X.keeps kk;have c1:=kk _ _ hC;have hg:((h.push {cls:=.type "tuple",data:=.seq us.toArray}).push {cls:=.ref C,data:=.fields #[.ref h.objs.size,.none,.none,.none,.bool false,.none]}).get? (h.objs.size+1)=some {cls:=.ref C,data:=.fields #[.ref h.objs.size,.none,.none,.none,.bool false,.none]}:=by heap_get
 have own:(Value.ref C::bm).contains (.ref C)=true:=by simp
 refine wpAny_call (codeAny_of_tree (show wpAny _ _ (callAny (.ref C) _) _ _ _ from ?_))
 repeat (any_goals (first|with_reducible refine wpAny_loadPart_at hC ?_|assumption|wp_step))
 refine ⟨rfl,?_⟩;refine codeAny_call_builtin_at (Code.quiet_builtin _ (by decide +kernel)) entry_typeCall (wpAny_check_type_call_sub hC ?_)
 repeat (first|with_reducible refine wpAny_madeBy_exc hC ?_|with_reducible refine wpAny_loadPart_at hC ?_|wp_step)
 refine codeAny_call_builtin_code (Code.quiet_builtin _ F.quiet) (wpAny_check_new_subU F F.hasB T hC ?_);refine codeAny_exc_new_subU F F.hasB F T hC ?_ hz;show wpAny _ _ _ _ _ (⟨(h.push {cls:=.type "tuple",data:=.seq us.toArray}).push {cls:=.ref C,data:=.fields #[.ref h.objs.size,.none,.none,.none,.bool false,.none]},g,d,t,os⟩:Shared);unfold isInstance
 repeat (first|with_reducible refine wpAny_loadPart_at hg ?_|(with_reducible refine wpAny_isSubtype_exc c1 ?_;rw [own])|wp_step)
 refine (looks_findIn X1 hi).at (M:=model prog w) ?_;refine wpAny_holding (wpAny_bind ((bind_fn X1 _ hf).at (wpAny_bind (wpAny_mono hq (fun r s' hr=>?_) fun _ _ x=>x))));obtain ⟨rfl,hQ⟩:=hr
 wp_walk
 exact hQ
theorem P0 {h:Heap} {g:Array GenState} {d:Drawn} {t:Nat} {os:OsState} {e:Addr} {us:List Value} {oe:Obj} {a0:Addr} {r1 r2 r3 r4 r5:Value} {Q:Value->Shared->Prop} (X:K.In h) (q:exC K C=true) (he:h.get? e=some oe) (hc:oe.cls=.ref C) (hd:oe.data=.fields #[.ref a0,r1,r2,r3,r4,r5])
  (hq:Q .none ⟨(h.push {cls:=.type "tuple",data:=.seq us.toArray}).update e (Obj.mapFields (·.setIfInBounds 0 (.ref h.objs.size))),g,d,t,os⟩) (hz:us.length<=sizeLine) :
  wpAny (model prog w) A (call (.builtin "ValueError.__init__") (.ref e::us)) Q E ⟨h,g,d,t,os⟩:=by
 obtain ⟨⟨bm,N,nm,qn,bs,sn,sub,ab,col,dd,k0,k1,k2,k3,k5,mN,hC,hN,T⟩⟩:=FQ X q;have F:=PySem.F.excBase_ValueError;obtain ⟨oc,od,dt,sl⟩:=oe;dsimp only at hc hd;subst hc hd;refine wpAny_call (codeAny_call_builtin F.init.plain F.initEntry (wpAny_check_init_subU F T hC he rfl ?_));have he1:=Heap.get?_push_of_some (h:=h) {cls:=.type "tuple",data:=.seq us.toArray} he
 wp_walk
 exact hq
theorem zU {h:Heap} {l:List Value} (T:OwnTail h vMr l) (self:Value):refuseLoop self "__setattr__" l=pure ():=by
 induction T with
 | base=>exact PySem.F.store_ValueError.passes self
 | own _ _ _ _ ih=>rw [refuseLoop_ref];exact ih
theorem aAe {h:Heap} {g:Array GenState} {d:Drawn} {t:Nat} {os:OsState} {x:Addr} {o:Obj} {ws:Array Value} {name:Str} {v:Value} {Q:Unit->Shared->Prop} (X:K.In h) (q:exC K C=true) (hs:findIn K (.ref C) "__setattr__" = some (some (.builtin "object.__setattr__"))) (hn:findIn K (.ref C) name=some none)
  (ho:mroIn K C (.type "object")=some true) (hx:h.get? x=some o) (hc:o.cls=.ref C) (hd:o.dict=none) (hw:o.data=.fields ws)
  (hq:∀h' tk,h'.Ns1 h.objs.size (fun y=>if y=name then some v else none)->h'.get? x=some {o with dict:=some h.objs.size}->(∀b u,b≠x->h.get? b=some u->h'.get? b=some u)->Q () ⟨h',g,d,tk,os⟩) :
  wpAny (model prog w) A (setAttr (Value.ref x) name v) Q E (⟨h,g,d,t,os⟩:Shared):=by
 obtain ⟨⟨bm,N,nm,qn,bs,sn,sub,ab,col,dd,k0,k1,k2,k3,k5,mN,hC,hN,T⟩⟩:=FQ X q;have SF:=PySem.F.store_ValueError;have hpass:=zU T (.ref x);have I:InstAt h x o C none:=⟨hx,hc,by unfold notCls;rw [hw],by rw [hd];trivial⟩
 refine set_plain X I hs ?_;have sub:Looks (model prog w) h (isInstance (.ref x) (.type "object")) true:=I.type.andThen (looks_mroIn X ho);refine codeAny_call_builtin SF.slot.plain SF.entry (@check_slot (model prog w) _ _ ⟨h,g,d,t+1,os⟩ "object.__setattr__" "object" "__setattr__" (.ref x) [.str name t,v] [] _ SF.kind SF.split sub (SF.args (.ref x) (.str name t) v) ?_);have hm:Looks (model prog w) h (mroOf (.ref C)) (.ref C::bm):=((Looks.ld (part:=none) hC).andThen .now).andThen .now;show wpAny _ _ (Builtin.«object.__setattr__» ⟨[.ref x,.str name t,v],[]⟩) _ _ _;rw [osa_eq,refuse_eq];refine wpAny_bind (wpAny_bind (I.type.here (s:=⟨h,g,d,t+1,os⟩) (wpAny_bind (hm.here ?_))));rw [refuseLoop_ref,hpass];refine wpAny_pure (wpAny_bind (I.type.here (wpAny_bind ((looks_findIn X hn).here (wpAny_bind (wpAny_pure ?_))))));show wpAny _ _ (storeInOwnDict (.ref x) (.ref C) (.str name t) name v false) _ _ (⟨h,g,d,t+1,os⟩:Shared)
 repeat (first|(with_reducible refine wpAny_loadPart_at hx ?_;rw [hc])|wp_step)
 rw [hd,if_neg (by simp [typeHasDict])];split
 ·rename_i z;cases z
 split
 ·rename_i z;rw [hw] at z;cases z
 have hx1:=Heap.get?_push_of_some (h:=h) {cls:=.type "dict",data:=.dict #[]} hx;have ne:x≠h.objs.size:=Nat.ne_of_lt (Heap.lt_size hx);refine wpAny_bind (wpAny_alloc' (wpAny_bind (wpAny_update' hx1 (wpAny_pure ?_))));generalize hh2:((h.push {cls:=.type "dict",data:=.dict #[]}).update x fun o=>{cls:=o.cls,dict:=some h.objs.size,data:=o.data,slots:=o.slots})=h2;have g1:h2.get? h.objs.size=some {cls:=.type "dict",data:=.dict #[]}:=by
  rw [<-hh2];exact (Heap.get?_update_ne _ _ _ _ ne.symm).trans (Heap.get?_push_at rfl rfl)
 have g2:h2.get? x=some {o with dict:=some h.objs.size}:=by
  rw [<-hh2];refine Heap.get?_update_self _ hx1 ?_;obtain ⟨oc,od,dt,sl⟩:=o;dsimp only at hw;subst hw;rfl
 have g3:∀b u,b≠x->h.get? b=some u->h2.get? b=some u:=fun b u hb k=>by
  rw [<-hh2];exact (Heap.get?_update_ne _ _ _ _ hb).trans (Heap.get?_push_of_some _ k)
 have n1:h2.Ns h.objs.size (fun _=>none):=⟨_,#[],_,g1,rfl,fun e he=>absurd he (by simp),fun _=>rfl⟩
 show wpAny _ _ (storeInDict h.objs.size (.str name _) name v) _ _ _;unfold storeInDict;unfold newKeyGuard;refine wpAny_bind (wpAny_pure (wpAny_bind (wpAny_nsSet1 (Heap.Ns1.of_empty n1) fun h' hn' hs'=>?_)));obtain ⟨od,_,_,g4,g5,g6⟩:=hn'.count (Within.cons name v Within.nil);refine wpAny_bind (wpAny_lookBehind g4 (by rw [g5];exact pastItsLine_dict (Nat.le_trans g6 (by rw [List.length_cons,List.length_nil,sizeLine_eq];lia))) ?_)
 wp_walk
 exact hq h' _ hn' ((hs'.2 x ne).trans g2) fun b u hb k=>(hs'.2 b (Nat.ne_of_lt (Heap.lt_size k))).trans (g3 b u hb k)
end
end Mi
namespace Mi
open PySem L2 PySem.W PySem.SeqAt PySem.Spec PyProof.Rows Builtin Builtin.ObjectAttr
def XO0 (a C:Addr) (h:Heap):Prop:=∃t,h.get? a=some {cls:=.ref C,data:=.fields #[.ref t,.none,.none,.none,.bool false,.none]}
def XO1 (a C dx:Addr) (h:Heap):Prop:=∃t,h.get? a=some {cls:=.ref C,dict:=some dx,data:=.fields #[.ref t,.none,.none,.none,.bool false,.none]}
theorem XO0.stay {a C:Addr} {h1 h2:Heap} (x:XO0 a C h1) (k:∀o,h1.get? a=some o->h2.get? a=some o):XO0 a C h2:=let ⟨t,e⟩:=x;⟨t,k _ e⟩
theorem XO1.stay {a C dx:Addr} {h1 h2:Heap} (x:XO1 a C dx h1) (k:∀o,h1.get? a=some o->h2.get? a=some o):XO1 a C dx h2:=let ⟨t,e⟩:=x;⟨t,k _ e⟩
theorem XO.stay {a C:Addr} {dx:Option Addr} {h1 h2:Heap} (x:XO a C dx h1) (k:∀o,h1.get? a=some o->h2.get? a=some o):XO a C dx h2:=let ⟨o,e,r⟩:=x;⟨o,k _ e,r⟩
theorem XD.stay {dx:Addr} {fs:List (Str×Int)} {h1 h2:Heap} (x:XD dx fs h1) (k:∀o,h1.get? dx=some o->h2.get? dx=some o):XD dx fs h2:=let ⟨m,n,r⟩:=x;⟨m,n.at k,r⟩
theorem XO1.xo {a C dx:Addr} {h:Heap} (x:XO1 a C dx h):XO a C (some dx) h:=let ⟨t,e⟩:=x;⟨_,e,rfl,rfl,_,rfl⟩
section
variable {P:Program} {w:World} {H:Hp} {h:Heap} {a C dx:Addr} {fs:List (Str×Int)}
theorem W_ (x:XO0 a C h):fB P w H h a (.ext (XO0 a C)):=⟨x,let ⟨_,e⟩:=x;⟨_,e⟩,fun _ _ y k=>y.stay k⟩
theorem aDb (x:XO1 a C dx h):fB P w H h a (.ext (XO1 a C dx)):=⟨x,let ⟨_,e⟩:=x;⟨_,e⟩,fun _ _ y k=>y.stay k⟩
theorem aDc {dx:Option Addr} (x:XO a C dx h):fB P w H h a (.ext (XO a C dx)):=⟨x,let ⟨o,e,_⟩:=x;⟨o,e⟩,fun _ _ y k=>y.stay k⟩
theorem aFe (x:XD dx fs h):fB P w H h dx (.ext (XD dx fs)):=⟨x,let ⟨_,⟨o,_,_,e,_⟩,_⟩:=x;⟨o,e⟩,fun _ _ y k=>y.stay k⟩
end
def CX2 (P:Program) (w:World):CXT:=fun outer H s E e s'=>∃(a C:Addr) (dd:Option Addr) (H1:Hp) (B:Heap),e=.ref a/\s'.os=s.os/\AllBare s'.gens/\FD B outer a (.ref C) dd .none s'.heap/\
 (∀h6:Heap,B.StaysIn h6->s'.heap.UpToSlots h6->Un (L2.frs outer) [] H H1 s.heap h6/\HOk P w H1 h6)/\H1 a=none/\s.heap.get? a=none/\E (.ref C) dd H1
noncomputable def hid (H:Hp) (a:Addr):Hp:=fun b=>if b=a then none else H b
theorem p_ {H:Hp} {a b:Addr} (h:b≠a):hid H a b=H b:=if_neg h
theorem FW {H:Hp} {a:Addr}:hid H a a=none:=if_pos rfl
section
variable {P:Program} {w:World} {K:PySem.W.Frag} {mg:Str->Option Value} {base:Heap} {N:List Str} {qual:Str} {scope:Scope} {f C:Addr} {cd:Value} {A:Around} {outer:List Env} {s:Shared} {H:Hp} {E:XK}
theorem P_ {pins:List (Addr×Obj)} {σ:L2.St} {H1:Hp} {s1:Shared} {a dx:Addr} (I:Inv (uB (CX2 P w) P w K mg base N qual scope f cd A outer s H E) pins σ H1 s1) (ea:H1 a=some (.ext (XO1 a C dx))) (hg:s.heap.get? a=none) (hE:E (.ref C) (some dx) (hid H1 a)) :
  (uB (CX2 P w) P w K mg base N qual scope f cd A outer s H E).xe (.ref a) s1:=by
 let env:=envOfC qual scope s.heap.objs.size f cd
 have hfr:L2.frs (env::outer)=s.heap.objs.size::L2.frs outer:=by
  unfold L2.frs;rw [List.filterMap_cons];rfl
 have hin:∀v∈(env::outer),∀b,v.frame=some b->b∈a::L2.frs (env::outer):=fun v hv b hb=>List.mem_cons_of_mem _ (List.mem_filterMap.mpr ⟨v,hv,hb⟩)
 have stk:s1.heap.FunFrames base (env::outer):=I.stack;have sfree:∀b∈L2.frs (env::outer),H1 b=none:=I.zB;have u0:Un (L2.frs outer) [] H H1 s.heap s1.heap:=I.base;obtain ⟨⟨t,ht⟩,_⟩:=I.hok a _ ea;show wpAny (model P w) (A.deeper env) (leaving env (.ref a)) (fun _ s''=>CX2 P w outer H s E (.ref a) s'') (fun e' s''=>CX2 P w outer H s E e' s'') s1;refine UG (B:=PySem.W.hideAll s1.heap (a::L2.frs (env::outer))) (L:=s.heap.objs.size) I.ok.frames rfl (PySem.W.funFrames_hide stk hin) ht (fun b o q=>PySem.W.of_hideAll _ q) (PySem.W.hideAll_none _ (by simp)) rfl rfl fun h' x1 x4=>?_
 refine ⟨a,C,some dx,hid H1 a,_,rfl,I.os,I.bare,x1,fun h6 st up=>?_,FW,hg,hE⟩;have na:∀b o,s.heap.get? b=some o->b≠a:=fun b o e z=>by rw [z,hg] at e;cases e
 have k:∀b o,s1.heap.get? b=some o->b≠a->b∉L2.frs (env::outer)->h6.get? b=some o:=fun b o eb h1 hb=>st b o (PySem.W.hideAll_get _ eb (by simp only [List.mem_cons,not_or];exact ⟨h1,hb⟩))
 have up6:s1.heap.UpToSlots h6:=x4.trans up;have nL:∀b o,s.heap.get? b=some o->b∉L2.frs outer->b∉L2.frs (env::outer):=fun b o eb hb z=>by
  rw [hfr] at z;rcases List.mem_cons.mp z with z|z
  ·exact absurd (Heap.lt_size eb) (by rw [z];exact Nat.lt_irrefl _)
  ·exact hb z
 have slot:∀b o,s1.heap.get? b=some o->b∈L2.frs outer->∃sl,h6.get? b=some {o with slots:=sl}:=fun b o eb hb=>by
  obtain ⟨_,o',ho',hd⟩:=stk.mem (show b∈L2.frs (env::outer) by rw [hfr];exact List.mem_cons_of_mem _ hb);rw [eb] at ho';cases ho';exact up6 b o eb hd
 have nt:∀b u,H1 b=some u->(∀φ,u≠.ext φ)->b≠a:=fun b u e1 e2 z=>by rw [z,ea] at e1;cases e1;exact e2 _ rfl
 refine ⟨⟨fun b o eb hn hb hx'=>k b o (u0.keep b o eb hn hb hx') (na b o eb) (nL b o eb hb),fun b o eb hn hb hx'=>?_,fun b o eb hn hx'=>?_,fun b o eb hx'=>?_,fun b xs q=>?_,fun b o u q=>?_,fun b ps q=>?_⟩,fun b u eb=>?_⟩
 ·obtain ⟨sl,e1⟩:=u0.slot b o eb hn hb hx';obtain ⟨sl',e2⟩:=slot b _ e1 hb;exact ⟨sl',e2⟩
 ·rw [p_ (na b o eb)];exact u0.free b o eb hn hx'
 ·obtain ⟨o',e1⟩:=u0.there b o eb hx';by_cases hb:b∈L2.frs outer
  ·obtain ⟨sl,e2⟩:=slot b o' e1 hb;exact ⟨_,e2⟩
  ·exact ⟨o',k b o' e1 (na b o eb) (nL b o eb hb)⟩
 ·have e1:=u0.tups b xs q;rw [p_ (nt b _ e1 fun φ z=>by cases z)];exact e1
 ·have e1:=u0.frzs b o u q;rw [p_ (nt b _ e1 fun φ z=>by cases z)];exact e1
 ·obtain ⟨m1,e1⟩:=u0.tbls b ps q;exact ⟨m1,by rw [p_ (nt b _ e1 fun φ z=>by cases z)];exact e1⟩
 ·have hb:b≠a:=fun z=>by rw [z,FW] at eb;cases eb
  rw [p_ hb] at eb;refine (I.hok b u eb).stay (fun c v hc q=>k c v q (fun z=>?_) fun z=>?_) (fun c q=>?_) fun c xs q=>?_
  ·rcases hc with hc|hc
   ·exact hb (hc▸z)
   ·rw [z,ea] at hc;cases hc
  ·have:=sfree c z;rcases hc with hc|hc
   ·rw [hc,eb] at this;cases this
   ·rw [hc] at this;cases this
  ·rw [p_ (nt c _ q fun φ z=>by cases z)];exact q
  ·rw [p_ (nt c _ q fun φ z=>by cases z)];exact q
end
structure XI (K:Frag) (C f:Addr):Prop where
 cl:exC K C=true
 init:findIn K (.ref C) "__init__" = some (some (.ref f))
 fn:isFn K (.ref f)=true
 kp:keepIn K (.ref C)=true
 sa:findIn K (.ref C) "__setattr__" = some (some (.builtin "object.__setattr__"))
 ob:mroIn K C (.type "object")=some true
def q_ (C:Addr) (fl:List Str):Sp:=fun vs H Q _=>∃(e:Addr) (ts:List Int),vs=.ref e::ts.map V.int/\ts.length=fl.length/\H e=some (.ext (XO0 e C))/\∀dx,H dx=none->Q .non (upd (upd H dx (.ext (XD dx (fl.zip ts)))) e (.ext (XO1 e C dx)))
theorem aDd {H:Hp} {a:Addr} {o:HO} (e:H a=some o):upd H a o=H:=by
 funext b
 unfold upd;split
 ·rename_i z;rw [z,e]
 ·rfl
theorem aDe {H:Hp} {a:Addr} {o o':HO}:upd (upd H a o) a o'=upd H a o':=by
 funext b
 unfold upd;split <;> rfl
section
variable {X:Cx} {C f:Addr} {fl:List Str} {k:Nat} {fd:FuncData} {ps:List Str} {pins:List (Addr×Obj)} {σ:L2.St} {H:Hp} {s:Shared} {us:List Value} {ts:List Int}
theorem aAf {Q:Value->Shared->Prop} (M:XI X.K C f) (F:uU X.prog X.w X.K X.mg X.base CX0 k f fd ps (q_ C fl)) (hr:jK (k+1) X.A) (hb:Binds X.K fd ps []) (I:Inv X pins σ H s) (r:Vals (ts.map V.int) us) (hl:ts.length=fl.length) (hz:us.length<=sizeLine) (hex:X.ex=[])
  (h:∀a dx s2,X.s₀.heap.get? a=none->H a=none->H dx=none->dx≠a->Inv X pins σ (upd (upd H dx (.ext (XD dx (fl.zip ts)))) a (.ext (XO1 a C dx))) s2->Q (.ref a) s2) :
  wpAny (model X.prog X.w) X.A (call (.ref C) us) Q X.xe s:=by
 obtain ⟨hh,g,d,t,os⟩:=s;have I:Inv X pins σ H ⟨hh,g,d,t,os⟩:=I;generalize hot:({cls:=.type "tuple",data:=.seq us.toArray}:Obj)=ot;generalize hoe:({cls:=.ref C,data:=.fields #[.ref hh.objs.size,.none,.none,.none,.bool false,.none]}:Obj)=oe;have fa:H (hh.objs.size+1)=none:=I.hok.fresh (Nat.le_succ _);have I1:Inv X pins σ H ⟨hh.push ot,g,d,t,os⟩:=I.kept (t':=t) fun b u q=>Heap.get?_push_of_some _ q
 have ge:((hh.push ot).push oe).get? (hh.objs.size+1)=some oe:=Heap.get?_push_at (by rw [Heap.size_push]) (by rw [<-hoe];rfl);have I2:Inv X pins σ (upd H (hh.objs.size+1) (.ext (XO0 (hh.objs.size+1) C))) ⟨(hh.push ot).push oe,g,d,t,os⟩:=
  I1.laid (a:=hh.objs.size+1) (t':=t) (fun b u q=>Heap.get?_push_of_some _ q) (Nat.le_of_eq (Heap.size_push _ _)) (W_ ⟨hh.objs.size,by rw [ge,hoe]⟩)
 have ng:X.s₀.heap.get? (hh.objs.size+1)=none:=by
  cases z:X.s₀.heap.get? (hh.objs.size+1) with
  | none=>rfl
  | some o=>
   obtain ⟨o',e1⟩:=I.base.there _ o z (by rw [hex];simp);exact absurd (Heap.lt_size e1) (by show ¬hh.objs.size+1<hh.objs.size;lia)
 have r2:Vals (V.ref (hh.objs.size+1)::ts.map V.int) (Value.ref (hh.objs.size+1)::us):=.cons rfl r;have sp:q_ C fl (V.ref (hh.objs.size+1)::ts.map V.int) (upd H (hh.objs.size+1) (.ext (XO0 (hh.objs.size+1) C))) (fun v H'=>v=.non/\∃dx,H dx=none/\dx≠hh.objs.size+1/\H'=upd (upd H dx (.ext (XD dx (fl.zip ts)))) (hh.objs.size+1) (.ext (XO1 (hh.objs.size+1) C dx))) (fun _ _ _=>False):=
  ⟨_,ts,rfl,hl,aH,fun dx hd=>⟨rfl,dx,by
   have ne:dx≠hh.objs.size+1:=fun z=>by rw [z,aH] at hd;cases hd
   rw [aR ne] at hd;refine ⟨hd,ne,?_⟩
   funext b
   unfold upd;split
   ·rfl
   ·rfl⟩⟩
 have hln:(Value.ref (hh.objs.size+1)::us++[]).length=ps.length:=by
  rw [List.append_nil];have e:=r2.length;rw [F.len _ _ _ _ sp] at e;exact e.symm
 have hb':=hb ⟨(hh.push ot).push oe,g,d,t,os⟩ (Value.ref (hh.objs.size+1)::us) I2.kIn hln;rw [List.append_nil] at hb';refine call_exc I.kIn M.cl M.init (beq_iff_eq.mp M.fn) hz ?_;rw [hot,hoe];refine wpAny_call (codeAny_mono (F.run _ X.stack _ _ ⟨Value.ref (hh.objs.size+1)::us,[]⟩ (Value.ref (hh.objs.size+1)::us) _ _ _ (hr.make C us []) (I2.env0.make C us []) hb' r2 sp) fun r s' hq=>?_);cases r with
 | error e=>exact hq.elim
 | ok fl=>
  cases fl with
  | ret u=>
   obtain ⟨v,H',I3,rv,ev,dx,e1,e2,e3⟩:=I2.after hq;subst ev e3;exact ⟨rv,h _ dx s' ng fa e1 e2 I3⟩
  | next=>exact False.elim hq
  | brk=>exact False.elim hq
  | cont=>exact False.elim hq
end
noncomputable def tBase (C:Addr) (t:TA):TE:=fun σ H Q=>t σ H fun vs H1=>∃a vs',vs=.ref a::vs'/\vs'.length<=sizeLine/\H1 a=some (.ext (XO0 a C))/\Q .non H1
theorem aAg {X:Cx} {M C:Addr} {x:Str} {np ap cp:Pos} {e:Expr} {es:List Expr} {t:TA} (q:exC X.K C=true) (hg:Gl X x) (hm:X.mg x=some (.ref M)) (hga:specialIn X.K (.ref M) "__getattribute__" = some (some (.builtin "type.__getattribute__"))) (hr:readsIn X.K M (.type "type")=true)
  (hf:findCls X.K (.ref M) (.type "type") "__init__" = some (.val (.builtin "ValueError.__init__"))) (ha:PA X (e::es) t) (hdb:nDb x:=by decide) (he:starEach (e::es) X.env=(false,eval e X.env)::starEach es X.env:=by rfl) (hpl:(backTo cp (starEach es X.env)).any (·.1)=false:=by rfl)
  {pl:Sem Bool} (ht:eval (.Call (.Attribute (.Name x np) "__init__" ap) (e::es) [] cp) X.env=(do
   let ov <- eval (.Name x np) X.env
   standAt ap.atName
   let (f,first) <- holding [ov] (getMethod ov "__init__" pl)
   callWith cp f first (backTo cp (starEach (e::es) X.env)) (backToKw cp (keywordEach [] X.env))):=by rfl):PE X (.Call (.Attribute (.Name x np) "__init__" ap) (e::es) [] cp) (tBase C t):=by
 intro pins s σ H Q I h;refine methodCall_KW (pl:=pl) (lJ I hg hm ?_ hdb) ht;refine method_cls I.kIn hga (cls_value I.kIn hr hf rfl ?_);refine PyProof.Rows.callWith_builtin1 (thn (ha cp pins _ σ H _ (I.tok _) h) fun us s1 ⟨vs,H1,I1,r1,a,vs',ev,hz,ea,q1⟩=>?_) he hpl;subst ev;obtain ⟨us,rfl,r5⟩:∃us2,us=Value.ref a::us2/\Vals vs' us2:=by
  cases r1 with
  | cons r0 r1=>cases r0;exact ⟨_,rfl,r1⟩
 obtain ⟨⟨t0,ht0⟩,_⟩:=I1.hok a _ ea;obtain ⟨hh,g,d,t,os⟩:=s1;refine P0 (us:=us) I1.kIn q ht0 rfl rfl ?_ (by rw [<-r5.length];exact hz);generalize hot:({cls:=.type "tuple",data:=.seq us.toArray}:Obj)=ot;have I2:Inv X pins σ H1 ⟨hh.push ot,g,d,t,os⟩:=I1.kept (t':=t) fun b u q=>Heap.get?_push_of_some _ q
 have e2:(hh.push ot).get? a=some _:=Heap.get?_push_of_some _ ht0;obtain ⟨h3,r3,k3,o3,g3,c3,d3,f3⟩:=v6 0 (.ref hh.objs.size) e2 rfl;rw [<-r3];have g4:h3.get? a=some {cls:=.ref C,data:=.fields #[.ref hh.objs.size,.none,.none,.none,.bool false,.none]}:=by
  rw [r3];exact Heap.get?_update_self _ e2 rfl
 have I3:Inv X pins σ (upd H1 a (.ext (XO0 a C))) ⟨h3,g,d,t,os⟩:=I2.write (x:=a) (e:=a) (t':=t) (by rw [ea];exact True.intro) (.inl rfl) (fun b u hb z=>(k3 b hb).trans z) ⟨_,g4⟩ (W_ ⟨_,g4⟩);rw [aDd ea] at I3;exact ⟨.non,H1,I3,rfl,q1⟩
def aDf (C:Addr) (f:Str) (ta tv:TE):TS:=fun D σ H=>tv σ H fun y H1=>ta σ H1 fun x H2=>∃(a:Addr) (t:Int),x=.ref a/\y=.int t/\H2 a=some (.ext (XO0 a C))/\∀dx,H2 dx=none->D.nx σ (upd (upd H2 dx (.ext (XD dx [(f,t)]))) a (.ext (XO1 a C dx)))
theorem aAh {X:Cx} {C fi:Addr} {f:Str} {o value:Expr} {pos' pos:Pos} {ta tv:TE} (M:XI X.K C fi) (hn:findIn X.K (.ref C) f=some none) (ha:PE X o ta) (hv:PE X value tv) (hs:swapsWith value (some (.Attribute o f pos')) pos.line X.env=pure false:=by rfl):PS X (.Assign [.Attribute o f pos'] value pos) (aDf C f ta tv):=by
 intro pins s σ H D I h;refine plainObj_wpAny_Assign_Attribute (thn (hv pins s σ H _ I h) fun u s1 ⟨y,H1,I1,ry,q⟩=>thn (ha pins s1 σ H1 _ I1 q) fun ov s2 ⟨x,H2,I2,rx,a,t,ex,ey,ea,q2⟩=>?_) hs;subst ex ey;obtain rfl:ov=Value.ref a:=rx;obtain ⟨tk,rfl⟩:∃tk,u=Value.int t tk:=ry;obtain ⟨⟨t0,ht0⟩,_⟩:=I2.hok a _ ea;obtain ⟨hh,g,d,tt,os⟩:=s2;refine aAe I2.kIn M.cl M.sa hn M.ob ht0 rfl rfl rfl fun h' tk' n1 g1 k1=>?_
 have ne:hh.objs.size≠a:=Nat.ne_of_gt (Heap.lt_size ht0);have fr:H2 hh.objs.size=none:=I2.hok.fresh (Nat.le_refl _);have hn1:upd H2 a (.ext (XO1 a C hh.objs.size)) hh.objs.size=none:=by rw [aR ne];exact fr
 have hg1:hh.get? hh.objs.size=none:=Heap.get?_none_of_le (Nat.le_refl _);have mu:L2.Mut (H2 a):=by rw [ea];exact True.intro
 have xd:XD hh.objs.size [(f,t)] h':=by
  refine ⟨_,n1,fun g hg=>?_,fun g=>?_⟩
  ·by_cases z:g=f
   ·simp [z]
   ·simp [z] at hg
  ·by_cases z:g=f
   ·subst z;rw [List.lookup_cons_self];exact ⟨tk,if_pos rfl⟩
   ·rw [List.lookup_cons,beq_eq_false_iff_ne.mpr z];exact if_neg z
 have I3:Inv X pins σ (upd (upd H2 a (.ext (XO1 a C hh.objs.size))) hh.objs.size (.ext (XD hh.objs.size [(f,t)]))) ⟨h',g,d,tk',os⟩:=
  I2.un (t':=tk') (W7 (Un.write mu (.inl rfl) (fun b u hb z=>k1 b u hb z) ⟨_,g1⟩) hg1 hn1) (O6 (I2.hok.write mu (.inl rfl) (fun b u hb z=>k1 b u hb z) ⟨_,g1⟩ (aDb ⟨t0,g1⟩)) hn1 (aFe xd))
 have e:upd (upd H2 a (.ext (XO1 a C hh.objs.size))) hh.objs.size (.ext (XD hh.objs.size [(f,t)]))=upd (upd H2 hh.objs.size (.ext (XD hh.objs.size [(f,t)]))) a (.ext (XO1 a C hh.objs.size)):=by
  funext b
  unfold upd;by_cases h1:b=a
  ·have h2:b≠hh.objs.size:=fun z=>ne (z.symm.trans h1)
   rw [if_neg h2,if_pos h1,if_pos h1]
  ·rw [if_neg h1,if_neg h1]
 rw [e] at I3;exact ⟨σ,_,I3,q2 hh.objs.size fr⟩
end Mi
namespace Mi
open PySem L2 PySem.W PySem.SeqAt PySem.Spec PyProof.Rows
noncomputable def noE {α:Type} (f:List D->Res α):List D->Res α:=fun ρ=>match f ρ with|.ok a=>.ok a|_=>.bad
theorem jE {α:Type} {f:List D->Res α} {ρ:List D} {a:α} (h:f ρ=.ok a):noE f ρ=.ok a:=by unfold noE;rw [h]
theorem xZ {α:Type} {f:List D->Res α} {ρ:List D}:(∃a,f ρ=.ok a/\noE f ρ=.ok a)\/noE f ρ=.bad:=by
 unfold noE;cases f ρ with
 | ok a=>exact .inl ⟨a,rfl,rfl⟩
 | err c as=>exact .inr rfl
 | bad=>exact .inr rfl
def noT (t:D->List D->Res (List D)):D->List D->Res (List D):=fun x=>noE (t x)
noncomputable def JM:List D->Option (List Int)
 | []=>some []
 | .int t::r=>(JM r).map (t::·)
 | _=>none
def sE (c:Str) (fl:List Str) (fa:FA):FS:=fun ρ=>do
 let ds <- fa ρ
 match JM ds with
 | some ts=>if ts.length=fl.length then .err c [.exc c (fl.zip ts)] else .bad
 | none=>.bad
variable [KFrag]
theorem v7 {P:Addr->Prop} {H:Hp}:∀{ds:List D} {ts:List Int} {vs:List V},JM ds=some ts->bV P H vs ds->vs=ts.map V.int
 | [],_,_,h,.nil=>by cases h;rfl
 | d::r,ts,_,h,.cons r1 t=>by
  cases d with
  | int x=>
   unfold JM at h;obtain ⟨ts',h1,rfl⟩:=Option.map_eq_some_iff.mp h;cases r1;rw [v7 h1 t];rfl
  | _=>cases h
def aFf (E:XK) (H:Hp) (c:Str) (as:List D):Prop:=∃fs C,as=[.exc c fs]/\nsIn KFrag.K mainGlobals c=some (some (.ref C))/\∀H' dx,cN H H'->XDs H' fs dx->E (.ref C) dx H'
def kZE (E:XK) (H:Hp) (Q:VK):Res D->Prop
 | .ok d=>kR H d true Q
 | .err c as=>aFf E H c as
 | .bad=>False
noncomputable def spZ (f:List D->Res D) (n:Nat):Sp:=fun vs H Q E=>∃ds,ds.length=n/\bV All H vs ds/\kZE E H Q (f ds)
def JN (P:Program) (w:World) (K:PySem.W.Frag) (mg:Str->Option Value) (base:Heap) (k:Nat) (x:Str) (n:Nat) (f:List D->Res D):Prop:=
 ∃(fad:Addr) (fd:FuncData) (ps:List Str),uU P w K mg base (CX2 P w) k fad fd ps (spZ f n)/\mg x=some (.ref fad)/\PySem.W.keepIn K (.ref fad)=true/\Binds K fd ps []
theorem JN.cal {P:Program} {w:World} {K:PySem.W.Frag} {mg:Str->Option Value} {base:Heap} {k:Nat} {x:Str} {n:Nat} {f:List D->Res D} (Z:JN P w K mg base k x n f):dR P w K mg base k x n f:=by
 obtain ⟨fad,fd,ps,F,hm,hk,hb⟩:=Z;have go:∀{vs H Q E},spD f n vs H Q E->spZ f n vs H Q (fun _ _ _=>False):=fun ⟨ds,d,h1,r,h,q⟩=>⟨ds,h1,r,by rw [h];exact q⟩
 refine ⟨fad,fd,ps,⟨fun vs H Q E h=>F.len vs H Q _ (go h),fun A outer s H args us vs Q E hr he hb hv h=>codeAny_mono (F.run A outer s H args us vs Q _ hr he hb hv (go h)) fun r s' hq=>?_⟩,hm,hk,hb⟩;cases r with
 | ok fl=>cases fl <;> exact hq
 | error e=>
  obtain ⟨_,_,_,_,_,_,_,_,_,_,_,_,z⟩:=hq;exact z.elim
end Mi
namespace Mi
open PySem L2 PySem.W PySem.SeqAt PySem.Spec PyProof.Rows Builtin Builtin.ObjectAttr
def aBd (c:Str) (fl:List Str) (fa:FA):FE:=fun ρ=>do
 let ds <- fa ρ
 match JM ds with
 | some ts=>if ts.length=fl.length then .ok (.exc c (fl.zip ts)) else .bad
 | none=>.bad
noncomputable def XF (tbl:List (Str×Bool)) (i:Nat):FE:=fun ρ=>match ρ.getD i .uD with
 | .exc c _=>(match tbl.lookup c with|some b=>.ok (.bl b)|none=>.bad)
 | _=>.bad
noncomputable def zV (cs:List Str) (f:Str) (i:Nat):FE:=fun ρ=>match ρ.getD i .uD with
 | .exc c fs=>if cs.contains c then (match fs.lookup f with|some t=>.ok (.int t)|none=>.bad) else .bad
 | _=>.bad
def aFg (v:List D->Res D) (n:Nat) (fa:FA) (cs:List Str) (ic ie:Nat):FS:=fun ρ=>do
 let ds <- fa ρ
 match dC n v ds with
 | .err c [.exc c' fs]=>if c'==c&&cs.contains c&&decide (ie<ρ.length) then .ok (.nx (((ρ.set ie (.exc c fs)).set ic (.exc c fs)).set ie .uD)) else .bad
 | _=>.bad
def aH0 (X:Cx) (C:Addr) (fl:List Str) (t:TA):TE:=fun σ H Q=>t σ H fun vs H1=>∃ts:List Int,vs=ts.map V.int/\ts.length=fl.length/\∀a dx,X.s₀.heap.get? a=none->H1 a=none->H1 dx=none->dx≠a->Q (.ref a) (upd (upd H1 dx (.ext (XD dx (fl.zip ts)))) a (.ext (XO1 a C dx)))
section
variable {X:Cx} {C f:Addr} {fl:List Str} {k:Nat} {fd:FuncData} {ps:List Str} {x:Str} {p pos:Pos} {e:Expr} {es:List Expr} {t:TA}
theorem XH (M:XI X.K C f) (F:uU X.prog X.w X.K X.mg X.base CX0 k f fd ps (q_ C fl)) (hr:jK (k+1) X.A) (hb:Binds X.K fd ps []) (hz:fl.length<=sizeLine) (hex:X.ex=[]) (hg:Gl X x) (hm:X.mg x=some (.ref C)) (ha:PA X (e::es) t)
  (hdb:nDb x:=by decide) (he:starEach (e::es) X.env=(false,eval e X.env)::starEach es X.env:=by rfl) (hpl:(backTo pos (starEach es X.env)).any (·.1)=false:=by rfl):PE X (.Call (.Name x p) (e::es) [] pos) (aH0 X C fl t):=by
 intro pins s σ H Q I h;refine wpAny_Call_Name_kw (lJ I hg hm ?_ hdb);refine PySem.W.callWith_K (h₀:=X.base) I.ok.mod.kin M.kp (thn (ha pos pins s σ H _ I h) fun us s1 ⟨vs,H1,I1,r,ts,ev,hl,q⟩=>⟨I1.kIn,?_⟩) he hpl;subst ev;exact aAf M F hr hb I1 r hl (show us.length<=sizeLine from by rw [<-r.length,List.length_map,hl];exact hz) hex fun a dx s2 g1 g2 g3 g4 I2=>⟨.ref a,_,I2,rfl,q a dx g1 g2 g3 g4⟩
def aAi (X:Cx) (te:TE):TS:=fun _ σ H=>te σ H fun v H1=>∃a C dx,v=.ref a/\H1 a=some (.ext (XO1 a C dx))/\exC X.K C=true/\∀pins s,Inv X pins σ H1 s->X.xe (.ref a) s
theorem QB {te:TE} (hc:X.calm=true) (he:PE X e te):PS X (.Raise (some e) none pos) (aAi X te):=by
 intro pins s σ H D I h;have hh:=I.ok.hd hc;show wpAny _ _ (exec (.Raise (some e) none pos) X.env) _ _ _;rw [arm_exec_Raise];refine wpAny_bind (wpAny_standAt (show _ from ?_));simp only [evalOpt,Option.map];unfold raiseStmt;refine wpAny_bind (wpAny_bind (wpAny_mono (he pins s σ H _ I h) (fun u s1 ⟨v,H1,I1,rv,a,C,dx,ev,ea,qC,q⟩=>wpAny_bind (wpAny_standAt (wpAny_pure ?_))) fun _ _ x=>x));subst ev;obtain rfl:u=Value.ref a:=rv;obtain ⟨⟨t0,ht⟩,_⟩:=I1.hok a _ ea;have out:=q _ _ I1;obtain ⟨hp,g,d,tk,os⟩:=s1;obtain ⟨⟨bm,N,nm,qn,bs,sn,sub,ab,col,dd,k0,k1,k2,k3,k5,mN,hC,hN,T⟩⟩:=FQ I1.kIn qC;have hcB:(Value.ref C::bm).contains (.type "BaseException")=true:=by rw [List.contains_cons,T.hasType PySem.F.excBase_ValueError.hasBase,Bool.or_true]
 repeat (first|with_reducible refine wpAny_loadPart_at ht ?_|with_reducible refine wpAny_loadPart_at hC ?_|(with_reducible refine wpAny_isSubtype_exc hC ?_;rw [hcB])|wp_step)
 exact wpAny_raiseNew_none hh out
end
variable [KFrag]
section
variable {X:Cx} {C fi:Addr} {fl:List Str} {k:Nat} {fd:FuncData} {ps:List Str} {x:Str} {p pos:Pos} {e:Expr} {es:List Expr} {fa:FA} {r:Bool}
theorem zW {pins:List (Addr×Obj)} {σ:L2.St} {H:Hp} {s:Shared} {a dx:Addr} (I:Inv X pins σ (upd H a (.ext (XO1 a C dx))) s):Inv X pins σ (upd H a (.ext (XO a C (some dx)))) s:=by
 obtain ⟨h1,_⟩:=I.hok a _ aH;have hx:=h1.xo;have I2:=I.write (x:=a) (e:=a) (h':=s.heap) (t':=s.toks) (o:=.ext (XO a C (some dx))) (by rw [aH];exact True.intro) (.inl rfl) (fun b u _ z=>z) (let ⟨o,e,_⟩:=hx;⟨o,e⟩) (aDc hx);rw [aDe] at I2;exact I2
theorem aDg {k':Nat} (hK:KFrag.K=X.K) (hn:nsIn X.K mainGlobals x=some (some (.ref C))) (M:XI X.K C fi) (F:uU X.prog X.w X.K X.mg X.base CX0 k fi fd ps (q_ C fl)) (hr:jK k' X.A) (hkk:k+1<=k') (hb:Binds X.K fd ps []) (hz:fl.length<=sizeLine) (hex:X.ex=[]) (hg:Gl X x) (hm:X.mg x=some (.ref C)) (ha:PA X (e::es) (gA fa r))
  (hdb:nDb x:=by decide) (he:starEach (e::es) X.env=(false,eval e X.env)::starEach es X.env:=by rfl) (hpl:(backTo pos (starEach es X.env)).any (·.1)=false:=by rfl):PE X (.Call (.Name x p) (e::es) [] pos) (gE (aBd x fl fa) true):=by
 intro pins s σ H Q I ⟨ρ,d,er,h,q⟩;obtain ⟨ds,h1,h⟩:=bH h;split at h
 ·rename_i ts hts;split at h
  ·rename_i hl;cases h;refine thn (XH M F (hr.mono hkk) hb hz hex hg hm ha hdb he hpl pins s σ H (fun v H3=>∃a dx H2,v=.ref a/\cN H H2/\H2 a=none/\H2 dx=none/\dx≠a/\H3=upd (upd H2 dx (.ext (XD dx (fl.zip ts)))) a (.ext (XO1 a C dx))) I ⟨ρ,ds,er,h1,fun vs H2 sm rs _=>⟨ts,v7 hts rs,hl,fun a dx g1 g2 g3 g4=>⟨a,dx,H2,rfl,sm,g2,g3,g4,rfl⟩⟩⟩) fun u s2 ⟨v,H3,I3,rv,a,dx,H2,e1,sm,g2,g3,g4,e3⟩=>?_
   subst e1 e3;have sm3:cN H (upd (upd H2 dx (.ext (XD dx (fl.zip ts)))) a (.ext (XO a C (some dx)))):=sm.trans ((lA g3).trans (lA (by rw [aR (Ne.symm g4)];exact g2)));have rp:∀P,Rep P (upd (upd H2 dx (.ext (XD dx (fl.zip ts)))) a (.ext (XO a C (some dx)))) (.ref a) (.exc x (fl.zip ts)):=fun P=>.exc (C:=C) (dx:=some dx) (by rw [hK];exact hn) aH (by show upd _ _ _ dx=_;rw [aR g4];exact aH)
   exact ⟨.ref a,_,zW I3,rv,q _ _ sm3 (rp _) fun _=>rp _⟩
  ·cases h
 ·cases h
end
structure XA (K:Frag) (C:Addr) (f:Str):Prop where
 xc:XC K C
 hd:hasDictIn K C=true
 no:findIn K (.ref C) f=some none
theorem XO.exc {a C:Addr} {dx:Option Addr} {h:Heap} (x:XO a C dx h):ExcAt a C h:=let ⟨o,e,c,_⟩:=x;⟨o,e,c⟩
section
variable {prog:Program} {w:World} {A:Around} {E:Value->Shared->Prop} {s:Shared} {K:Frag} {x C dx:Addr} {f:Str} {t:Int} {fs:List (Str×Int)}
theorem UJ {b:Bool} {Q:Value->Shared->Prop} (X:K.In s.heap) (c:XA K C f) (xo:XO x C (some dx) s.heap) (xd:XD dx fs s.heap) (l:fs.lookup f=some t) (h:∀tk,Q (.int t tk) {s with toks:=s.toks+1}):wpAny (model prog w) A (getAttr (.ref x) f b) Q E s:=by
 obtain ⟨hh,g,dr,tt,os⟩:=s;obtain ⟨mA,n,_,hm⟩:=xd;have hf:=hm f;rw [l] at hf;obtain ⟨tk,hf⟩:=hf;obtain ⟨od,ho,hl⟩:=K7 n;have p:=xo.exc;obtain ⟨o,e1,e2,e3,vs,e4⟩:=xo;have J:InstAt hh x o C (some od):=⟨e1,e2,by unfold notCls;rw [e4],by rw [e3];exact ho⟩
 have L0:=u9 (M:=model prog w) p;have L1:=looks_findIn (M:=model prog w) X c.xc.ga;have L2:=looks_findIn (M:=model prog w) X c.xc.gh;have L3:Looks (model prog w) hh (find (.ref x) (.ref C) f) (.value (.int t tk)):=looks_find X J (findObj_own c.hd c.no rfl (by rw [hl,hf]));have z2:(Value.builtin "BaseException.__getattribute__" == Value.builtin "object.__getattribute__")=false:=by decide +kernel
 have z1:(onTheHeap (Value.ref C)&&Value.builtin "BaseException.__getattribute__" == Value.builtin "object.__getattribute__")=false:=by rw [z2];rfl
 unfold getAttr getAttrBy;refine wpAny_bind (wpAny_mkText (wpAny_holding ?_));refine wpAny_bind (L0.at (wpAny_bind (L1.at (show _ from ?_))));dsimp only;rw [z1,if_neg (by decide)];unfold getAttrByItsOwn callGetattribute hookBefore boundAndCalled;rw [if_pos (show onTheHeap (Value.ref C)=true from rfl)];refine wpAny_bind (L2.at (wpAny_bind (wpAny_attempt (wpAny_holding ?_))));rw [show (b&&onTheHeap (Value.builtin "BaseException.__getattribute__"))=false from Bool.and_false _,if_neg (by decide)];refine wpAny_bind (wpAny_of_eq (F.excAttr_ValueError.ga.bind (.ref x)) ?_);refine wpAny_call (codeAny_call_builtin F.excAttr_ValueError.ga.plain F.entry_bexc_ga (xR (K:=K) (C:=C) X p c.xc ?_));show wpAny _ _ (Builtin.«object.__getattribute__» ⟨[.ref x,.str f tt],[]⟩) _ _ _
 delta Builtin.«object.__getattribute__»
 refine wpAny_bind (wpAny_pure (wpAny_bind (wpAny_pure (wpAny_bind (L0.at (wpAny_bind (L3.at ?_)))))));refine wpAny_pure ?_;show wpAny _ _ (handedOut (.int t tk)) _ _ _;exact wpAny_pure (h tk)
end
section
variable {X:Cx} {y f:Str} {i:Nat} {np pos:Pos} {cs:List Str}
theorem v8 (hK:KFrag.K=X.K) (hc:∀c,cs.contains c=true->∃C,nsIn X.K mainGlobals c=some (some (.ref C))/\XA X.K C f) (hN:X.N[i]?=some y) (hv:Vis X.env.scope y) (hb:attributeBase (.Name y np) f X.env (eval (.Name y np) X.env)=eval (.Name y np) X.env:=by rfl)
  (hd:(y==("__debug__" : Str))=false:=by decide) (hcd:(y==("__classdict__" : Str))=false:=by decide):PE X (.Attribute (.Name y np) f pos) (gE (zV cs f i) true):=by
 intro pins s σ H Q I ⟨ρ,d,er,h,q⟩;unfold zV at h;split at h
 ·rename_i c fs hρ;split at h
  ·rename_i hcc;split at h
   ·rename_i t hl;cases h;obtain ⟨v,h1,r1⟩:=er i (by rw [hρ];intro z;cases z);rw [hρ] at r1;cases r1 with
    | @exc a C dx _ _ n e qd=>
     obtain ⟨C',n',xa⟩:=hc c hcc;rw [hK,n'] at n;cases n;refine YH hb (thn (fV hN hv hd hcd pins s σ H (fun v H1=>v=.ref a/\H1=H) I ⟨_,h1,rfl,rfl⟩) fun u s1 ⟨v,H1,I1,rv,e1,e2⟩=>?_);subst e1 e2;obtain rfl:u=Value.ref a:=rv;cases dx with
     | none=>cases qd;cases hl
     | some dx=>
      obtain ⟨xo,_⟩:=I1.hok a _ e;obtain ⟨xd,_⟩:=I1.hok dx _ qd;exact UJ I1.kIn xa xo xd hl fun tk=>⟨.int t,_,I1.tok _,⟨tk,rfl⟩,q _ _ (fun _ _ z=>z) (.int t) fun _=>.int t⟩
   ·cases h
  ·cases h
 ·cases h
end
end Mi
namespace Mi
open PySem L2 PySem.W PySem.SeqAt PySem.Spec PyProof.Rows
def aFh (K:Frag) (cM:Value) (t:TA) (sp:Sp) (ie:Nat) (ts:TS):TS:=fun D σ H=>t σ H fun vs H1=>sp vs H1 (fun _ _=>False) fun Cv dd H2=>∃C,Cv=.ref C/\exmOne K (.ref C) cM=some true/\∀a,H2 a=none->ts {nx:=fun σ' H'=>D.nx (σ'.set ie none) H',rt:=fun _ _=>False} (σ.set ie (some (.ref a))) (upd H2 a (.ext (XO a C dd)))
theorem aAj {X:Cx} {k:Nat} {fad:Addr} {cM:Value} {fd:FuncData} {ps:List Str} {sp:Sp} {f mx n:Str} {p cpos xpos mp hpos pos:Pos} {e:Expr} {es:List Expr} {t:TA} {b0:Stmt} {suite:List Stmt} {ts:TS} {ie:Nat}
  (hst:X.stack=X.env::X.outer) (hfr:X.env.frame=some X.env.locals) (F:uU X.prog X.w X.K X.mg X.base (CX2 X.prog X.w) k fad fd ps sp) (hr:jK k X.A) (hg:Gl X f) (hm:X.mg f=some (.ref fad)) (hk:keepIn X.K (.ref fad)=true) (hb:Binds X.K fd ps [])
  (ha:PA X.nox (e::es) t) (hgM:Gl X mx) (hmM:X.mg mx=some cM) (hN:X.N.Nodup) (hin:X.N[ie]?=some n) (hln:X.env.scope.names.lookup n=some .local)
  (hs:∀v,PSs (mrk X v).nox (b0::suite) ts)
  (hdb:(f==("__debug__" : Str))=false:=by decide) (hdM:(mx==("__debug__" : Str))=false:=by decide) (he:starEach (e::es) X.env=(false,eval e X.env)::starEach es X.env:=by rfl) (hpl:(backTo cpos (starEach es X.env)).any (·.1)=false:=by rfl)
  (hsw:swapsWith (.Call (.Name f p) (e::es) [] cpos) none xpos.line X.env=pure false:=by rfl) :
  PS X (.Try [.Expr (.Call (.Name f p) (e::es) [] cpos) xpos] [.ExceptHandler (some (.Name mx mp)) (some n) (b0::suite) hpos] [] [] pos) (aFh X.K cM t sp ie ts):=by
 intro pins s σ H D I h;refine wpAny_Try_except (wpAny_execs_cons (wpAny_Expr_any ?_ I.quiet hsw));refine wpAny_Call_Name_kw (lJ I hg hm ?_ hdb);refine callWith_K (h₀:=X.base) I.ok.mod.kin hk (wpAny_mono (ha cpos pins s σ H _ (I.wish _) h) (fun us s1 ⟨vs,H1,I1,r,q⟩=>⟨I1.kIn,?_⟩) fun _ _ z=>False.elim z) he hpl;have I1:Inv X pins σ H1 s1:=I1.i_;have hl:(us++[]).length=ps.length:=by rw [List.append_nil,<-r.length];exact F.len _ _ _ _ q
 have hb':=hb s1 us I1.kIn hl;rw [List.append_nil] at hb';refine wpAny_call (codeAny_mono (F.run X.A X.stack s1 H1 ⟨us,[]⟩ us vs _ _ hr I1.env0 hb' r q) fun r s' hq=>?_);cases r with
 | ok fl=>
  cases fl with
  | ret u=>obtain ⟨_,_,_,_,_,_,_,z⟩:=hq;exact z.elim
  | next=>exact False.elim hq
  | brk=>exact False.elim hq
  | cont=>exact False.elim hq
 | error e=>
  obtain ⟨a,C',dd,H2,B,rfl,os',bare',fly,clo,hn,hgone,C,eC,hx,hE⟩:=hq;cases eC;rw [hst] at fly;refine aAd (by rw [I.ok.frames,hst]) hfr fly fun h4 held4 sm4=>?_
  refine o_ (s:={s' with heap:=h4}) held4 fun h5 fly5 sm5=>?_
  have up5:s'.heap.UpToSlots h5:=Heap.UpToSlots.trans sm4 sm5;have I5:Inv X pins σ H2 {s' with heap:=h5}:=by
   obtain ⟨un,hok⟩:=clo h5 fly5.1 up5;exact I1.call' (ch:=[]) os' un hok bare' (fun b z=>absurd z (by simp))
  refine wpAny_handleBy_cons (codeAny_handlers_test ?_) (by intro q;cases q);refine lJ (X:=mrk X (.ref a)) (O4 I5 _) hgM hmM ?_ hdM;have LT:Looks (model X.prog X.w) h5 (typeOf (.ref a)) (.ref C'):=by
   obtain ⟨ob,hob,hc,_⟩:=fly5.there;rw [<-hc];exact (Looks.ld hob).andThen .now
  refine (exm_one I5.kIn LT hx).here ?_;refine codeAny_handlers_suite_as ?_;refine o_ (s:={s' with heap:=h5}) fly5 fun h6 fly6 sm6=>?_
  obtain ⟨un6,hok6⟩:=clo h6 fly6.1 (Heap.UpToSlots.trans up5 sm6);have I6:Inv X pins σ (upd H2 a (.ext (XO a C' dd))) {s' with heap:=h6}:=
   I1.call' (ch:=[]) os' (W7 un6 hgone hn) (O6 hok6 hn (aDc fly6.there)) bare' (fun b z=>absurd z (by simp))
  refine wR (X:=X) (v:=.ref a) I6 hN hin (.inl hln) rfl (fun s7 I7 _=>?_) (.inr hln);refine wpAny_mono (hs (.ref a) pins s7 _ _ _ ((O4 I7 _).wish _) (hE a hn)) (fun fl s8 q8=>?_) fun _ _ z=>False.elim z
  cases fl with
  | ret u=>obtain ⟨_,_,_,_,_,z⟩:=q8;exact z.elim
  | brk=>obtain ⟨_,_,_,z⟩:=q8;exact z.elim
  | cont=>obtain ⟨_,_,_,z⟩:=q8;exact z.elim
  | next=>
   obtain ⟨σ8,H8,I8,q⟩:=q8;have I8:Inv X pins σ8 H8 s8:=O5 I.ok I8.i_;obtain ⟨m,hm8,hl8⟩:=id I8.loc;refine wpAny_nameGoes_keeps hln hm8 (by rw [I.ok.kind];rfl) fun h9 v hn9 sb9=>?_
   exact ⟨_,H8,T5 I8 hN hin hm8 hl8 hn9 sb9,q⟩
variable [KFrag]
theorem FZ {own:Nat->Bool} {σ:L2.St} {i:Nat} (ho:own i=false) (a:Addr):Own own (σ.set i none) a↔Own own σ a:=by
 constructor
 ·rintro ⟨j,hj,e⟩;have:i≠j:=fun z=>by subst z;rw [ho] at hj;cases hj
  rw [List.getElem?_set_ne this] at e;exact ⟨j,hj,e⟩
 ·rintro ⟨j,hj,e⟩;have:i≠j:=fun z=>by subst z;rw [ho] at hj;cases hj
  exact ⟨j,hj,by rw [List.getElem?_set_ne this];exact e⟩
theorem ES.drop {own:Nat->Bool} {H:Hp} {σ:L2.St} {ρ:List D} {i:Nat} (ho:own i=false) (es:ES own H σ ρ):ES own H (σ.set i none) (ρ.set i .uD):=by
 refine ⟨by simp [es.len],fun j hj=>?_,fun j v hj hv=>?_⟩
 ·rw [bR] at hj ⊢;by_cases h:i=j/\i<ρ.length
  ·rw [if_pos h] at hj;exact absurd rfl hj
  ·rw [if_neg h] at hj ⊢;obtain ⟨v,h1,h2⟩:=es.at_ j hj;have ne:i≠j:=fun z=>by
    subst z;have:i<σ.length:=(List.getElem?_eq_some_iff.mp h1).1;exact h ⟨rfl,by rw [<-es.len];exact this⟩
   exact ⟨v,by rw [List.getElem?_set_ne ne];exact h1,fun o=>(h2 o).mono fun a n z=>n ((FZ ho a).mp z)⟩
 ·have ne:i≠j:=fun z=>by subst z;rw [ho] at hj;cases hj
  rw [List.getElem?_set_ne ne] at hv;obtain ⟨a,o,h1,h2,h3,h4,h5,h6⟩:=es.own j v hj hv;have e:(ρ.set i .uD).getD j .uD=ρ.getD j .uD:=by rw [bR,if_neg (fun z=>ne z.1)]
  refine ⟨a,o,h1,by rw [e];exact h2,by rw [e];exact h3,h4,h5,fun l hl hs=>h6 l hl ?_⟩;have:i≠l:=fun z=>by subst z;rw [ho] at hl;cases hl
  rwa [List.getElem?_set_ne this] at hs
section
variable {own:Nat->Bool} {X:Cx} {cM:Value} {k n:Nat} {f mx nm cn:Str} {p cpos xpos mp hpos pos tp ep ap:Pos} {e:Expr} {es:List Expr} {v:List D->Res D} {fa:FA} {ra:Bool} {cs:List Str} {ic ie k':Nat}
theorem aDh (hK:KFrag.K=X.K) (hst:X.stack=X.env::X.outer) (hfr:X.env.frame=some X.env.locals) (R:JN X.prog X.w X.K X.mg X.base k f n v) (hr:jK k' X.A) (hkk:k<=k') (hg:Gl X f) (ha:PA X.nox (e::es) (gA fa ra)) (hgM:Gl X mx) (hmM:X.mg mx=some cM)
  (hcs:∀c,cs.contains c=true->∃C,nsIn X.K mainGlobals c=some (some (.ref C))/\exmOne X.K (.ref C) cM=some true)
  (hN:X.N.Nodup) (hin:X.N[ie]?=some nm) (hln:X.env.scope.names.lookup nm=some .local) (hic:X.N[ic]?=some cn) (hlc:Loc X.env.scope cn) (hfc:X.fn cn=true\/X.env.scope.names.lookup cn=some .local) (oc:own ic=false) (oe:own ie=false) (hne:ie≠ic)
  (hdb:(f==("__debug__" : Str))=false:=by decide) (hdM:(mx==("__debug__" : Str))=false:=by decide) (he:starEach (e::es) X.env=(false,eval e X.env)::starEach es X.env:=by rfl) (hpl:(backTo cpos (starEach es X.env)).any (·.1)=false:=by rfl)
  (hsw:swapsWith (.Call (.Name f p) (e::es) [] cpos) none xpos.line X.env=pure false:=by rfl) (hs2:swapsWith (.Name nm ep) (some (.Name cn tp)) ap.line X.env=pure false:=by rfl) (hd1:(nm==("__debug__" : Str))=false:=by decide) (hd2:(nm==("__classdict__" : Str))=false:=by decide) :
  PS X (.Try [.Expr (.Call (.Name f p) (e::es) [] cpos) xpos] [.ExceptHandler (some (.Name mx mp)) (some nm) [.Assign [.Name cn tp] (.Name nm ep) ap] hpos] [] [] pos) (tS own (aFg v n fa cs ic ie)):=by
 obtain ⟨fm,fdm,ps,F,hm,hk,hb⟩:=R;refine PS.imp (aAj hst hfr F (hr.mono hkk) hg hm hk hb ha hgM hmM hN hin hln (fun v=>vL (BZ (X:=(mrk X v).nox) hN hic hlc (fV hin (.inl hln) hd1 hd2) hs2 hfc)) hdb hdM he hpl hsw) fun D σ H ⟨ρ,fl,es,h,q⟩=>?_
 obtain ⟨ds,h1,h⟩:=bH h;refine ⟨ρ,ds,es.er,h1,fun vs H1 sm rs _=>?_⟩;split at h
 ·rename_i c c' fs hv;split at h
  ·rename_i hc;rw [Bool.and_eq_true,Bool.and_eq_true] at hc;have ec:=beq_iff_eq.mp hc.1.1;subst ec;cases h;unfold dC at hv;split at hv
   ·rename_i hl;obtain ⟨C,hn,hx⟩:=hcs _ hc.1.2;refine ⟨ds,of_decide_eq_true hl,rs,?_⟩;rw [hv];refine ⟨fs,C,rfl,by rw [hK];exact hn,fun H2 dd s2 xd=>⟨C,rfl,hx,fun a ha=>?_⟩⟩;have hl2:ie<σ.length:=by
     rw [es.len];exact of_decide_eq_true hc.2
    have rp:∀P,Rep P (upd H2 a (.ext (XO a C dd))) (.ref a) (.exc c' fs):=fun P=>.exc (C:=C) (dx:=dd) (by rw [hK];exact hn) aH (by
     cases dd with
     | none=>exact xd
     | some d=>
      have xd:H2 d=some (.ext (XD d fs)):=xd;show upd _ _ _ d=_;rw [aR (fun z=>by rw [z,ha] at xd;cases xd)];exact xd)
    have sm3:cN H (upd H2 a (.ext (XO a C dd))):=sm.trans (s2.trans (lA ha));have es3:=(((es.same sm3).set oe (rp _)).set oc (rp _)).drop oe;refine ⟨.ref a,by rw [List.getElem?_set_self hl2],?_⟩;exact q _ _ (fun b o eb nb=>⟨sm3 b o eb,fun z=>nb ((lR oe b).mp ((lR oc b).mp ((FZ oe b).mp z)))⟩) es3
   ·cases hv
  ·cases h
 ·cases h
end
section
variable {X:Cx} {i:Nat} {y:Str} {p np tpos pos:Pos} {es:List Expr} {kk:Nat} {ce:Expr} {cs:List Addr} {tbl:List (Str×Bool)} {v:V} {u:Value}
theorem QC {ρ:List D} {σ:L2.St} {H:Hp} {c:Str} {fs:List (Str×Int)} (er:ER H σ ρ) (h:ρ.getD i .uD=.exc c fs):∃a C dx,σ[i]?=some (some (.ref a))/\nsIn KFrag.K mainGlobals c=some (some (.ref C))/\H a=some (.ext (XO a C dx)):=by
 obtain ⟨v,h1,r1⟩:=er i (by rw [h];intro z;cases z);rw [h] at r1;cases r1 with
 | @exc a C dx _ _ n e q=>exact ⟨a,C,dx,h1,n,e⟩
theorem QD (hK:KFrag.K=X.K) (ht:∀c b,tbl.lookup c=some b->∃C,nsIn X.K mainGlobals c=some (some (.ref C))/\XC X.K C/\kitAny X.K (.ref C) (cs.map Value.ref)=some b) (hz:cs.length<=sizeLine) (hg:Gl X "isinstance") (hm:X.mg "isinstance" = none) (hN:X.N[i]?=some y) (hv:Vis X.env.scope y) (ha:PA X es fun _ H Q=>Q (cs.map V.ref) H)
  (hd:(y==("__debug__" : Str))=false:=by decide) (hcd:(y==("__classdict__" : Str))=false:=by decide) :
  PE X (.Call (.Name "isinstance" p) [.Name y np,.Tuple es kk tpos] [] pos) (gE (XF tbl i) true):=by
 have hc:jN X (.builtin "isinstance") (fun vs H Q=>∃a tp C dx b,vs=[.ref a,.ref tp]/\H a=some (.ext (XO a C dx))/\H tp=some (.tup (cs.map V.ref))/\XC X.K C/\kitAny X.K (.ref C) (cs.map Value.ref)=some b/\Q (.bl b) H):=by
  intro pins s σ H vs us Q I r ⟨a,tp,C,dx,b,e,ea,et,c,hk,q⟩;subst e;cases r with
  | cons r1 r=>
   cases r with
   | cons r2 r=>
    cases r;cases r1;cases r2;obtain ⟨_,its,ri,o,ho,hoc,n,hod⟩:=I.hok tp _ et;have e2:=xT ri;subst e2;obtain ⟨c1,d1,dt,sl⟩:=o;replace hod:=congrArg Prod.fst hod;dsimp only at hoc hod;subst hoc hod;obtain ⟨px,_⟩:=I.hok a _ ea;exact kia_tup (E_ c) I.kIn px.exc ho hk (by intro z;cases z) fun tk=>⟨.bl b,H,I.tok tk,rfl,q⟩
 refine PE.imp (nP hc hg hm (by decide +kernel) (b7 (fV hN hv hd hcd) (b7 (V9 ha) fW))) fun σ H Q ⟨ρ,d,er,h,q⟩=>?_
 unfold XF at h;split at h
 ·rename_i c fs hρ;split at h
  ·rename_i b hb;cases h;obtain ⟨a,C,dx,h1,n,e⟩:=QC er hρ;obtain ⟨C',n',xc,hk⟩:=ht c b hb;rw [hK,n'] at n;cases n;refine ⟨.ref a,h1,⟨by simpa using hz,fun tp htp=>⟨a,tp,C,dx,b,rfl,?_,aH,xc,hk,q _ _ (lA htp) (.bl b) fun _=>.bl b⟩⟩⟩;rw [aR (bQ e htp)];exact e
  ·cases h
 ·cases h
theorem QF (hK:KFrag.K=X.K) (ht:∀c b,tbl.lookup c=some b->∃C,nsIn X.K mainGlobals c=some (some (.ref C))/\XC X.K C/\kitOne X.K (.ref C) u=some b) (hu:∀u',RelV v u'->u'=u) (hg:Gl X "isinstance") (hm:X.mg "isinstance" = none) (hN:X.N[i]?=some y) (hv:Vis X.env.scope y) (ha:PE X ce (tC v))
  (hst:starEach [ce] X.env=(false,eval ce X.env)::starEach [] X.env) (hpl:(backTo pos (starEach [ce] X.env)).any (·.1)=false)
  (hd:(y==("__debug__" : Str))=false:=by decide) (hcd:(y==("__classdict__" : Str))=false:=by decide) :
  PE X (.Call (.Name "isinstance" p) [.Name y np,ce] [] pos) (gE (XF tbl i) true):=by
 have hc:jN X (.builtin "isinstance") (fun vs H Q=>∃a C dx b,vs=[.ref a,v]/\H a=some (.ext (XO a C dx))/\XC X.K C/\kitOne X.K (.ref C) u=some b/\Q (.bl b) H):=by
  intro pins s σ H vs us Q I r ⟨a,C,dx,b,e,ea,c,hk,q⟩;subst e;cases r with
  | cons r1 r=>
   cases r with
   | cons r2 r=>
    cases r;cases r1;have e2:=hu _ r2;subst e2;obtain ⟨px,_⟩:=I.hok a _ ea;exact kia_one (E_ c) I.kIn px.exc hk (by intro z;cases z) fun tk=>⟨.bl b,H,I.tok tk,rfl,q⟩
 refine PE.imp (nP hc hg hm (by decide +kernel) (b7 (fV hN hv hd hcd) (b7 ha fW hst)) (hpl:=hpl)) fun σ H Q ⟨ρ,d,er,h,q⟩=>?_
 unfold XF at h;split at h
 ·rename_i c fs hρ;split at h
  ·rename_i b hb;cases h;obtain ⟨a,C,dx,h1,n,e⟩:=QC er hρ;obtain ⟨C',n',xc,hk⟩:=ht c b hb;rw [hK,n'] at n;cases n;exact ⟨.ref a,h1,a,C,dx,b,rfl,e,xc,hk,q _ _ (fun _ _ z=>z) (.bl b) fun _=>.bl b⟩
  ·cases h
 ·cases h
end
end Mi
namespace Mi
open PySem L2 PySem.W PySem.SeqAt PySem.Spec PyProof.Rows
noncomputable def aFi (s:Stmt) (j:Nat):Stmt:=match s with
 | .ClassDef _ _ _ b _ _ _ _ _ _ _=>b.getD j (.Pass ⟨0,0,0,0⟩)
 | _=>.Pass ⟨0,0,0,0⟩
def aDi (P:Program) (w:World) (K:Frag) (mg:Str->Option Value) (base:Heap) (k:Nat) (c:Str) (fl:List Str):Prop:=
 ∃(C fi:Addr) (fd:FuncData) (ps:List Str),nsIn K mainGlobals c=some (some (.ref C))/\mg c=some (.ref C)/\XI K C fi/\uU P w K mg base CX0 k fi fd ps (q_ C fl)/\Binds K fd ps []/\fl.length<=sizeLine
def aBe (p:Str->Bool->Prop):List (Str×Bool)->Prop
 | []=>True
 | (c,b)::r=>p c b/\aBe p r
theorem sG {p:Str->Bool->Prop}:∀{t:List (Str×Bool)},aBe p t->∀c b,t.lookup c=some b->p c b
 | [],_,_,_,h=>by cases h
 | (d,e)::r,⟨h1,h2⟩,c,b,h=>by
  rw [List.lookup_cons] at h;split at h
  ·rename_i z;rw [beq_iff_eq.mp z];cases h;exact h1
  ·exact sG h2 c b h
def aAk (p:Str->Prop):List Str->Prop
 | []=>True
 | c::r=>p c/\aAk p r
theorem lX {p:Str->Prop}:∀{t:List Str},aAk p t->∀c,t.contains c=true->p c
 | [],_,_,h=>by cases h
 | d::r,⟨h1,h2⟩,c,h=>by
  rw [List.contains_cons] at h;rcases (Bool.or_eq_true _ _).mp h with z|z
  ·rw [beq_iff_eq.mp z];exact h1
  ·exact lX h2 c z
theorem UL {P:Program} {w:World} {K:Frag} {mg:Str->Option Value} {base:Heap} {x qual:Str} {st:Stmt} {fad C M:Addr} {fd:FuncData} {N ps:List Str} {f:Str} {k:Nat} (F:Fun K x qual st fad fd) (S:cJ N ps (aU st)) (hN:N.length=2) (hp:ps.length=2)
  (hbody:∀(cdv:Value) (A:Around) (outer:List Env) (s:Shared) (H:Hp) (E:XK),jK k (A.deeper (envOfC qual (aU st) s.heap.objs.size fad cdv))->
   PSs (uB CX0 P w K mg base N qual (aU st) fad cdv A outer s H E).nox (fC st) (aE2 (aBt (tBase C (YJ (aBk 0) (YJ (aBk 1) aFw)))) (aDf C f (aBk 0) (aBk 1)))):uU P w K mg base CX0 (k+1) fad fd ps (q_ C [f]):=by
 refine F.ok S (fun vs H Q E ⟨e,ts,h1,h2,_⟩=>by rw [h1,hp];simp at h2;simp [h2]) fun cdv A outer s H vs Q E hr ⟨e,ts,h1,h2,h3,h4⟩=>⟨_,hbody cdv A outer s H E hr,?_⟩
 obtain ⟨t,rfl⟩:∃t,ts=[t]:=by
  match ts,h2 with
  | [t],_=>exact ⟨t,rfl⟩
 subst h1;have e0:L2.start N [V.ref e,V.int t]=[some (V.ref e),some (V.int t)]:=by
  unfold L2.start;rw [hN];rfl
 show aE2 _ _ _ (L2.start N [V.ref e,V.int t]) H;rw [e0];refine ⟨.ref e,rfl,.int t,rfl,e,[.int t],rfl,show 1<=sizeLine from by decide,h3,?_⟩;exact ⟨.int t,rfl,.ref e,rfl,e,t,rfl,rfl,h3,fun dx hd=>h4 dx hd⟩
variable [KFrag]
theorem aAl {X:Cx} {x:Str} {p pos:Pos} {e:Expr} {es:List Expr} {fa:FA} {r:Bool} {fl:List Str} {k k':Nat} (R:aDi X.prog X.w X.K X.mg X.base k x fl) (hK:KFrag.K=X.K) (hr:jK k' X.A) (hkk:k+1<=k') (hex:X.ex=[]) (hg:Gl X x) (ha:PA X (e::es) (gA fa r))
  (hdb:nDb x:=by decide) (he:starEach (e::es) X.env=(false,eval e X.env)::starEach es X.env:=by rfl) (hpl:(backTo pos (starEach es X.env)).any (·.1)=false:=by rfl):PE X (.Call (.Name x p) (e::es) [] pos) (gE (aBd x fl fa) true):=by
 obtain ⟨C,fi,fd,ps,hn,hm,M,F,hb,hz⟩:=R;exact aDg hK hn M F hr hkk hb hz hex hg hm ha hdb he hpl
end Mi
namespace Mi
open PySem L2 PySem.W PySem.SeqAt PySem.Spec PyProof.Rows Builtin Builtin.Str
noncomputable def upS (x:Str):Option Str:=if x==("kind" : Str) then some "KIND" else if x==("maker" : Str) then some "MAKER" else if x==("taker" : Str) then some "TAKER" else if x==("rule" : Str) then some "RULE" else none
def bUp (fo:FE):FE:=fun ρ=>do
 let d <- fo ρ
 match d with
 | .str x=>(match upS x with|some y=>.ok (.str y)|none=>.bad)
 | _=>.bad
def aEa:D->D->Res D
 | .lst xs,.int i=>Res.ofOpt ((ixD xs.length i).bind fun j=>xs[j]?)
 | _,_=>.bad
variable [KFrag]
section
variable {X:Cx} {a b o:Expr} {fa fb fo:FE} {ro rb:Bool} {pos apos cpos:Pos}
theorem aFj {x y:Str} (h:upS x=some y):Txt.upper x=y/\tooLong (Txt.upper x).length=false:=by
 unfold upS at h;split at h
 ·rename_i e;rw [eq_of_beq e];cases h;constructor <;> decide +kernel
 split at h
 ·rename_i e;rw [eq_of_beq e];cases h;constructor <;> decide +kernel
 split at h
 ·rename_i e;rw [eq_of_beq e];cases h;constructor <;> decide +kernel
 split at h
 ·rename_i e;rw [eq_of_beq e];cases h;constructor <;> decide +kernel
 ·cases h
theorem UT:MtR X "str.upper" (fun x xs H Q=>∃z y,x=.str z/\xs=[]/\upS z=some y/\Q (.str y) H):=by
 intro pins s σ H x xs v us Q I rx rxs ⟨z,y,e1,e2,hu,q⟩;subst e1 e2;obtain ⟨t,rfl⟩:=rx;cases rxs;obtain ⟨h1,h2⟩:=aFj hu;refine SC.upper h2 ?_;rw [h1];exact ⟨.str y,H,I.tok _,⟨_,rfl⟩,q⟩
theorem UV (ho:PE X o (gE fo ro)) (hbase:attributeBase o "upper" X.env (eval o X.env)=eval o X.env:=by rfl) (hline:(apos.endLine==cpos.line)=true:=by rfl):PE X (.Call (.Attribute o "upper" apos) [] [] cpos) (gE (bUp fo) true):=
 PE.imp (aCb PySem.F.plainAttrs_str PySem.F.slot_str_upper PySem.F.type_str_upper UT ho hbase hline) fun σ H Q ⟨ρ,d,E,h,q⟩=>by
 obtain ⟨x,h1,h⟩:=bH h;cases x <;> try (cases h;done)
 rename_i x;dsimp only at h;split at h
 ·rename_i y hy;cases h;refine ⟨ρ,.str x,E,h1,fun v H' sm r _=>?_⟩;cases r;exact ⟨rfl,x,y,rfl,rfl,hy,q _ _ sm (.str y) fun _=>.str y⟩
 ·cases h
theorem aDj (ha:PE X a (gE fa true)) (hb:PE X b (gE fb rb)) (hs:oA b):PE X (.Subscript a b pos) (gE (b2 aEa fa fb) true):=PE.imp (YT oE ha hb hs) fun σ H Q ⟨ρ,d,E,h,q⟩=>by
 obtain ⟨x,h1,h⟩:=bH h;obtain ⟨y,h2,h⟩:=bH h;refine ⟨ρ,x,E,h1,fun v H1 s1 rp1 n1=>⟨ρ,y,E.same s1,h2,fun u H2 s2 rp2 _=>?_⟩⟩;have n1:=n1 rfl;unfold aEa at h;split at h
 ·rename_i xs i;have e':=Res.fY h;cases rp2;have n2:=n1.same s2;cases n2 with
  | lst ee pp rr=>
   obtain ⟨w,g1,g2⟩:=rr.atI e';exact ⟨_,_,_,w,rfl,rfl,.inl (.inl ee),g1,q _ _ (s1.trans s2) g2.all fun _=>g2⟩
 ·cases h
end
def QG (E:XK) (c:Cel) (H:Hp) (cl:Str) (as:List D):Prop:=∃fs C,as=[.exc cl fs]/\nsIn KFrag.K mainGlobals cl=some (some (.ref C))/\∀c' H' dx,KC c H c' H'->XDs H' fs dx->E (.ref C) dx H'
def kNZ (S:Nat->Bool) (E:XK) (D:Ends) (c:Cel) (H:Hp):Res Fl->Prop
 | .ok fl=>kN S D c H fl
 | .err cl as=>QG E c H cl as
 | .bad=>False
noncomputable def tNZ (S:Nat->Bool) (E:XK) (f:FS):TS:=fun D σ H=>∃c ρ,NQ S c H σ ρ/\kNZ S E D c H (f ρ)
section
variable {S:Nat->Bool} {E:XK} {D':Ends} {c c':Cel} {H H':Hp}
theorem QG.step {cl:Str} {as:List D} (k:KC c H c' H') (h:QG E c H cl as):QG E c' H' cl as:=let ⟨fs,C,h1,h2,h3⟩:=h;⟨fs,C,h1,h2,fun c2 H2 dx k2 x=>h3 c2 H2 dx (k.trans k2) x⟩
theorem kNZ.step {r:Res Fl} (k:KC c H c' H') (h:kNZ S E D' c H r):kNZ S E D' c' H' r:=by
 cases r with
 | ok fl=>exact kN.step k h
 | err cl as=>exact QG.step k h
 | bad=>exact h
end
section
variable {S:Nat->Bool} {E:XK} {X:Cx} {st:Stmt} {rest s1 s2:List Stmt} {f g:FS} {ce:Expr} {gc:FT} {pos:Pos}
theorem sI (h:QS X.nox st (tN S f)):QS X st (tNZ S E (noE f)):=QS.mk <| PS.imp (PS.nox h.out) fun D σ H ⟨c,ρ,ns,k⟩=>by
 rcases xZ (f:=f) (ρ:=ρ) with ⟨fl,h1,h2⟩|h2
 ·rw [h2] at k;exact ⟨c,ρ,fl,ns,h1,k⟩
 ·rw [h2] at k;exact k.elim
theorem XJ:QSs X [] (tNZ S E d_):=QSs.mk <| PSs.imp (aA3 (S:=S)).out fun D σ H ⟨c,ρ,ns,k⟩=>⟨c,ρ,_,ns,rfl,k⟩
theorem F_ (h:QS X st (tNZ S E f)):QSs X [st] (tNZ S E f):=⟨vL h.out⟩
theorem sJ (h1:QS X st (tNZ S E f)) (h2:QSs X rest (tNZ S E g)):QSs X (st::rest) (tNZ S E (bI f g)):=QSs.mk <| PSs.imp (vK h1.out h2.out) fun D σ H ⟨c,ρ,ns,k⟩=>by
 refine ⟨c,ρ,ns,?_⟩;cases hf:f ρ with
 | ok r=>
  cases r with
  | nx ρ'=>
   have e:bI f g ρ=g ρ':=by unfold bI;rw [hf];rfl
   rw [e] at k;exact fun c' σ' H' ku E'=>⟨c',ρ',E',k.step ku⟩
  | bk ρ'=>
   have e:bI f g ρ=.ok (.bk ρ'):=by unfold bI;rw [hf];rfl
   rw [e] at k;exact k
  | ct ρ'=>
   have e:bI f g ρ=.ok (.ct ρ'):=by unfold bI;rw [hf];rfl
   rw [e] at k;exact k
  | rt d=>
   have e:bI f g ρ=.ok (.rt d):=by unfold bI;rw [hf];rfl
   rw [e] at k;exact k
 | err cl as=>
  have e:bI f g ρ=.err cl as:=by unfold bI;rw [hf];rfl
  rw [e] at k;exact k
 | bad=>
  have e:bI f g ρ=.bad:=by unfold bI;rw [hf];rfl
  rw [e] at k;exact k
theorem aDk (hc:PT X ce (gT gc)) (ha:QSs X s1 (tNZ S E f)) (hb:QSs X s2 (tNZ S E g)):QS X (.If ce s1 s2 pos) (tNZ S E (sIf (noE gc) f g)):=QS.mk <| PS.imp (aBu hc ha.out hb.out) fun D σ H ⟨c,ρ,ns,k⟩=>by
 rcases xZ (f:=gc) (ρ:=ρ) with ⟨b,h1,h2⟩|h2
 ·have e:sIf (noE gc) f g ρ=if b then f ρ else g ρ:=by unfold sIf;rw [h2];rfl
  rw [e] at k;refine ⟨ρ,b,ns.er,h1,fun H' sm=>?_⟩;cases b with
  | true=>rw [if_pos rfl];rw [if_pos rfl] at k;exact ⟨c,ρ,ns.same sm,k.step (.same sm)⟩
  | false=>rw [if_neg (by simp)];rw [if_neg (by simp)] at k;exact ⟨c,ρ,ns.same sm,k.step (.same sm)⟩
 ·have e:sIf (noE gc) f g ρ=.bad:=by unfold sIf;rw [h2];rfl
  rw [e] at k;exact k.elim
end
section
variable {S:Nat->Bool} {E:XK}
theorem JP {K:PySem.W.Frag} {g:TG} {t:D->List D->Res (List D)} {body:FS} {D':Ends} {J:It} {items:List D} {c:Cel} {σ:L2.St} {H1:Hp} {ρ:List D} {rr:Res Fl} (tg:TgN S g t) (es:NQ S c H1 σ ρ) (hJ:ItQ K (fun a=>¬nC c a) J H1 items) (hf:uE (noT t) body items ρ=rr) (q:kNZ S E D' c H1 rr) :
  ∃W:Nat->Nat->L2.St->Hp->Prop,(∃m,W 0 m σ H1)/\∀i m σ H,W i m σ H->
   (J.stop i H/\D'.nx σ H)\/(J.go i H/\∃N:L2.St->Hp->Prop,(∀σ' H',N σ' H'->∃m',m'<m/\W (i+1) m' σ' H')/\∀x H',J.yld i H x H'->g x σ H' fun σ2 H2=>tNZ S E body {D' with nx:=N,ct:=N,bk:=D'.nx} σ2 H2):=by
 refine ⟨fun i m σ' H'=>m=items.length-i/\i<=items.length/\∃c' ρ',ItQ K (fun a=>¬nC c' a) J H' items/\NQ S c' H' σ' ρ'/\uE (noT t) body (items.drop i) ρ'=rr/\kNZ S E D' c' H' rr,⟨items.length,rfl,Nat.zero_le _,c,ρ,hJ,es,hf,q⟩,?_⟩;rintro i m σ' H' ⟨rfl,hi,c',ρ',hJ',E',hf',q'⟩;rcases Nat.lt_or_ge i items.length with hlt|hge
 ·refine .inr ?_;have e:items[i]?=some items[i]:=List.getElem?_eq_getElem hlt;obtain ⟨g1,g2⟩:=hJ'.go e;rw [List.drop_eq_getElem_cons hlt] at hf';rcases xZ (f:=t items[i]) (ρ:=ρ') with ⟨ρ1,h1,h2⟩|h2
  ·have hf2:(do let r <- body ρ1;match r with|.nx ρ'=>uE (noT t) body (items.drop (i+1)) ρ'|.ct ρ'=>uE (noT t) body (items.drop (i+1)) ρ'|.bk ρ'=>.ok (.nx ρ')|.rt d=>.ok (.rt d):Res Fl)=rr:=by
    rw [<-hf'];show _=(noE (t items[i]) ρ' >>= _);rw [h2];rfl
   refine ⟨g1,fun σ2 H2=>∃c' ρ',ItQ K (fun a=>¬nC c' a) J H2 items/\NQ S c' H2 σ2 ρ'/\uE (noT t) body (items.drop (i+1)) ρ'=rr/\kNZ S E D' c' H2 rr,fun σ2 H2 n2=>⟨items.length-(i+1),by lia,rfl,hlt,n2⟩,fun x H2 hy=>?_⟩;obtain ⟨sH,rx⟩:=g2 x H2 hy;have hJ2:=hJ'.kc (.same sH) E';have q2:=q'.step (.same sH);refine tg x items[i] ρ' ρ1 σ' H2 c' _ (E'.same sH) rx h1 fun σ2 E2=>⟨c',ρ1,E2,?_⟩
   cases hb:body ρ1 with
   | ok r=>
    rw [hb] at hf2;cases r with
    | nx ρ2=>exact fun c3 σ3 H3 k3 E3=>⟨c3,ρ2,hJ2.kc k3 E2,E3,hf2,q2.step k3⟩
    | ct ρ2=>exact fun c3 σ3 H3 k3 E3=>⟨c3,ρ2,hJ2.kc k3 E2,E3,hf2,q2.step k3⟩
    | bk ρ2=>
     have hf2:Res.ok (Fl.nx ρ2)=rr:=hf2;subst hf2;exact fun c3 σ3 H3 k3 E3=>q2 c3 σ3 H3 k3 E3
    | rt d=>
     have hf2:Res.ok (Fl.rt d)=rr:=hf2;subst hf2;exact q2
   | err cl as=>
    rw [hb] at hf2;have hf2:Res.err cl as=rr:=hf2;subst hf2;exact q2
   | bad=>
    rw [hb] at hf2;have hf2:Res.bad=rr:=hf2;subst hf2;exact q2
  ·have hf2:Res.bad=rr:=by
    rw [<-hf'];show _=(noE (t items[i]) ρ' >>= _);rw [h2];rfl
   subst hf2;exact q'.elim
 ·refine .inl ⟨hJ'.stop hge,?_⟩;rw [List.drop_eq_nil_of_le hge] at hf';have hf':Res.ok (Fl.nx ρ')=rr:=hf';subst hf';exact q' c' σ' H' (fun a o e n=>⟨e,n⟩) E'
end
section
variable {P:Program} {w:World} {K:PySem.W.Frag} {mg:Str->Option Value} {base:Heap} {N:List Str} {qual:Str} {scope:Scope} {fad C:Addr} {cd:Value} {A:Around} {outer:List Env} {s:Shared} {H:Hp} {E:XK} {S:Nat->Bool} {pos p cpos:Pos}
theorem aDl {tg iter:Expr} {body:List Stmt} {g:TG} {t:D->List D->Res (List D)} {it:FI} {fb:FS} (hi:PI (uB (CX2 P w) P w K mg base N qual scope fad cd A outer s H E) tg iter (gI K it)) (ht:TgN S g t) (hg:PG (uB (CX2 P w) P w K mg base N qual scope fad cd A outer s H E) tg g) (hb:QSs (uB (CX2 P w) P w K mg base N qual scope fad cd A outer s H E) body (tNZ S E fb))
  (hs:∀x,foldedSetIterable iter (envOfC qual scope s.heap.objs.size fad cd) x=pure x:=by intro _;rfl):QS (uB (CX2 P w) P w K mg base N qual scope fad cd A outer s H E) (.For tg iter body [] pos) (tNZ S E (M6 (noE it) (noT t) fb)):=by
 refine QS.mk (PS.imp (V7 PassesOwn.leaving rfl hi hg hb.out hs) fun D' σ H1 ⟨c,ρ,es,k⟩=>?_);rcases xZ (f:=it) (ρ:=ρ) with ⟨⟨items,b⟩,h1,h2⟩|h2
 ·have e:M6 (noE it) (noT t) fb ρ=if b then uE (noT t) fb items ρ else .bad:=by unfold M6;rw [h2];rfl
  rw [e] at k;cases b with
  | true=>
   rw [if_pos rfl] at k;refine ⟨ρ,items,true,es.er,h1,fun J H2 s1 _ hJ=>JP ht (es.same s1) ((hJ rfl).keep (fun _ _ e _=>e) fun a ha ho=>?_) rfl (k.step (.same s1))⟩;obtain ⟨o,e1,_⟩:=es.live ho;rw [show H1 a=none from ha] at e1;cases e1
  | false=>rw [if_neg (by simp)] at k;exact k.elim
 ·have e:M6 (noE it) (noT t) fb ρ=.bad:=by unfold M6;rw [h2];rfl
  rw [e] at k;exact k.elim
theorem QH {x:Str} {e:Expr} {es:List Expr} {fa:FA} {r:Bool} {fl:List Str} {k k':Nat} (R:aDi P w K mg base k x fl) (hK:KFrag.K=K) (hr:jK k' (A.deeper (envOfC qual scope s.heap.objs.size fad cd))) (hkk:k+1<=k') (hg:Gl (uB (CX2 P w) P w K mg base N qual scope fad cd A outer s H E) x) (ha:PA (uB (CX2 P w) P w K mg base N qual scope fad cd A outer s H E) (e::es) (gA fa r))
  (hdb:nDb x:=by decide) (he:starEach (e::es) (envOfC qual scope s.heap.objs.size fad cd)=(false,eval e (envOfC qual scope s.heap.objs.size fad cd))::starEach es (envOfC qual scope s.heap.objs.size fad cd):=by rfl) (hpl:(backTo cpos (starEach es (envOfC qual scope s.heap.objs.size fad cd))).any (·.1)=false:=by rfl) :
  QS (uB (CX2 P w) P w K mg base N qual scope fad cd A outer s H E) (.Raise (some (.Call (.Name x p) (e::es) [] cpos)) none pos) (tNZ S E (sE x fl (noE fa))):=by
 obtain ⟨C,fi,fd,ps,hn,hm,M,F,hb,hz⟩:=R;subst hK;refine QS.mk (PS.imp (QB (X:=uB (CX2 P w) P w KFrag.K mg base N qual scope fad cd A outer s H E) rfl (XH (X:=uB (CX2 P w) P w KFrag.K mg base N qual scope fad cd A outer s H E) M F (hr.mono hkk) hb hz rfl hg hm ha hdb he hpl)) fun D σ H1 ⟨c,ρ,er,q⟩=>?_);rcases xZ (f:=fa) (ρ:=ρ) with ⟨ds,h1,h2⟩|h2
 ·have e0:sE x fl (noE fa) ρ=(match JM ds with|some ts=>if ts.length=fl.length then .err x [.exc x (fl.zip ts)] else .bad|none=>.bad):=by unfold sE;rw [h2];rfl
  rw [e0] at q;split at q
  ·rename_i ts hts;split at q
   ·rename_i hl;obtain ⟨fs,C',e1,e2,e3⟩:=q;cases e1;rw [hn] at e2;cases e2;refine ⟨ρ,ds,er.er,h1,fun vs H2 sm rs _=>⟨ts,v7 hts rs,hl,fun a dx g1 g2 g3 g4=>⟨a,C,dx,rfl,aH,M.cl,fun pins s2 I2=>P_ I2 aH g1 ?_⟩⟩⟩;have eh:hid (upd (upd H2 dx (.ext (XD dx (fl.zip ts)))) a (.ext (XO1 a C dx))) a=upd H2 dx (.ext (XD dx (fl.zip ts))):=by
     funext b
     unfold hid;by_cases hb:b=a
     ·rw [if_pos hb,hb,aR (Ne.symm g4)];exact g2.symm
     ·rw [if_neg hb,aR hb]
    rw [eh];exact e3 c _ (some dx) (.same (sm.trans (lA g3))) aH
   ·exact q.elim
  ·exact q.elim
 ·have e0:sE x fl (noE fa) ρ=.bad:=by unfold sE;rw [h2];rfl
  rw [e0] at q;exact q.elim
end
theorem aAm {P:Program} {w:World} {K:PySem.W.Frag} {mg:Str->Option Value} {base:Heap} {x:Str} {st:Stmt} {fad:Addr} {fd:FuncData} {N ps:List Str} {k:Nat} {f:FS} (F:Fun K x x st fad fd) (hm:mg x=some (.ref fad)) (hb:Binds K fd ps []) (sc:cJ N ps (aU st)) (S:Nat->Bool) (hown:∀i,i<ps.length->S i=false) (hNl:ps.length<=N.length)
  (hbody:∀(cdv:Value) (A:Around) (outer:List Env) (s:Shared) (H:Hp) (E:XK),jK k (A.deeper (envOfC x (aU st) s.heap.objs.size fad cdv))->QSs (uB (CX2 P w) P w K mg base N x (aU st) fad cdv A outer s H E) (fC st) (tNZ S E f)):JN P w K mg base (k+1) x ps.length (fnS ps.length N.length f):=by
 refine ⟨fad,fd,ps,?_,hm,F.kp,hb⟩;obtain ⟨oc,od,kV,doc,pm,an,cdv,ct,osl,rfl,lk,hcd⟩:=F.ex;refine aC5 lk hcd sc (fun vs H Q E ⟨ds,h1,r,_⟩=>by rw [r.length,h1]) fun A outer s H vs Q E hr ⟨ds,hl,r,h⟩=>?_
 refine ⟨_,(hbody cdv A outer s H E hr).out,?_⟩;have no:∀a,¬nC (fun _=>none) a:=fun a ⟨i,b,as,hc,_⟩=>by cases hc
 have hst:start N vs=vs.map some++List.replicate (N.length-ps.length) none:=by
  show vs.map some++List.replicate (N.length-vs.length) none=_;rw [r.length,hl]
 have old:=vZ (own:=fun _=>false) hst hl r (fun _ _=>rfl) fun a ⟨i,hi,_⟩=>by cases hi
 have hlt:∀i,(ds++List.replicate (N.length-ps.length) D.uD).getD i .uD≠.uD->i<ps.length:=fun i hi=>Nat.lt_of_not_le fun hge=>hi (by
  rw [List.getD_eq_getElem?_getD,List.getElem?_append_right (by lia),List.getElem?_replicate];split <;> rfl)
 cases hv:fnS ps.length N.length f ds with
 | ok d=>
  rw [hv] at h;obtain ⟨c,ρ,fl,es,h1,q⟩:=T8 (N:=N) (ps:=ps) (f:=f) (S:=S) (vs:=vs) (H:=H) (Q:=Q) (E:=E) hown ⟨ds,d,hl,r,hv,h⟩;exact ⟨c,ρ,es,by rw [h1];exact q⟩
 | err cl as=>
  rw [hv] at h;have E0:NQ S (fun _=>none) H (start N vs) (ds++List.replicate (N.length-ps.length) .uD):=by
   refine ⟨old.len,fun i p hc=>(by cases hc),fun i b as hc=>(by cases hc),fun i j b as b' as' _ hc=>(by cases hc),fun i hi=>?_,fun i b as hc=>(by cases hc),fun i hi hd=>?_⟩
   ·obtain ⟨v,g1,g2⟩:=old.at_ i hi;exact ⟨v,g1,fun _=>(g2 rfl).mono fun a _=>no a⟩
   ·rw [hown i (hlt i hd)] at hi;cases hi
  refine ⟨_,_,E0,?_⟩;cases hf:f (ds++List.replicate (N.length-ps.length) .uD) with
  | ok fl=>
   exfalso;unfold fnS at hv;rw [hf] at hv;cases fl <;> cases hv
  | err c' as'=>
   unfold fnS at hv;rw [hf] at hv;cases hv;obtain ⟨fs,C,e1,e2,e3⟩:=h;exact ⟨fs,C,e1,e2,fun c' H' dx kk x=>e3 H' dx (fun a o e=>(kk a o e (no a)).1) x⟩
  | bad=>
   exfalso;unfold fnS at hv;rw [hf] at hv;cases hv
 | bad=>rw [hv] at h;exact h.elim
end Mi
section
local macro_rules | `(tactic| trivial) => `(tactic| first | exact Or.inl rfl | exact Or.inr rfl | exact Or.inr (Or.inl rfl) | exact Or.inr (Or.inr rfl))
namespace Lk43
open PySem L2 Mi PySem.W
noncomputable def top (i:Nat):Stmt:=PySem.Challenge.pw_hookmill_k43_bad_row.main.body.getD i (.Pass ⟨0,0,0,0⟩)
abbrev jF:Stmt:=top 27
noncomputable def x_:Nat->Bool:=fun i=>false
def yC:FS:=bI (dI false 2 (b2 (aP .mod) (b2 (aP .add) (b2 (aP .add) (b2 uF dN (bC (.int 40503))) (b2 uF (b2 uF (b2 (aP .add) cH J5) (b2 (aP .add) cH j8)) (bC (.int 265443)))) (bC (.int 37))) (bC (.int 999999937))) true) (fJ (b2 (aP .mod) (b2 (aP .add) (b2 uF e_ e_) (b2 uF (bC (.int 97)) e_)) (bC (.int 998244353))) true)
def cD:List D->Res D:=fnS 2 3 yC
abbrev gM:Stmt:=top 26
noncomputable def uG:Nat->Bool:=fun i=>false
def uH:FS:=bI (sIf (bTB (b2 (bO (.ord .lt)) cH (aW iZ (aD dN aZ)))) (fJ (b2 getD dN cH) false) d_) (fJ iY true)
def b_:List D->Res D:=fnS 2 2 uH
abbrev dF:Stmt:=top 20
noncomputable def jX:Nat->Bool:=fun i=>false
def jY:FS:=fJ (aW aE8 (aD (vO 1 (lU dN false) M5 lL (bCh (bO (.ord .le)) (bO (.ord .le)) (bC (.str "a")) cH (bC (.str "z"))) true) aZ)) true
def dG:List D->Res D:=fnS 1 1 jY
abbrev sO:Stmt:=top 19
noncomputable def QJ:Nat->Bool:=fun i=>false
def QK:FS:=fJ (uC (bCh (bO (.ord .le)) (bO (.ord .le)) eE (aW iZ (aD dN aZ)) R9) (aW (dC 1 dG) (aD dN aZ))) true
def gW:List D->Res D:=fnS 1 1 QK
abbrev g_:Stmt:=top 21
noncomputable def zX:Nat->Bool:=fun i=>false
def zY:FS:=fJ (aW aE8 (aD (vO 1 (lU dN false) M5 lL (aW (dC 1 gW) (aD cH aZ)) true) aZ)) true
def cW:List D->Res D:=fnS 1 1 zY
abbrev lY:Stmt:=top 24
noncomputable def JQ:Nat->Bool:=fun i=>false
def JR:FS:=bI (sIf (bTB (b2 (bO .notin) (bC (.str "=")) dN)) (fJ (bC .non) true) d_) (bI (dI false 1 (bM u_ dN (aD (bC (.str "=")) aZ)) true) (bI (dI false 2 (eO dN cG (bK cH)) true) (bI (dI false 3 (eO dN (bK (b2 (aP .add) cH eE)) cG) true) (bI (sIf (SM (J6 (bTB (bCh (bO (.ord .le)) (bO (.ord .le)) j8 (aW iZ (aD e_ aZ)) aBb)) (J6 (bTB (bCh (bO (.ord .le)) (bO (.ord .le)) eE (aW iZ (aD iW aZ)) (bC (.int 40)))) (J6 (bTr (aW (dC 1 cW) (aD e_ aZ))) (bTr (aW (dC 1 cW) (aD iW aZ))))))) (fJ (bC .non) true) d_) (fJ (Y8 (aD (b2 getD e_ iY) (aD (b2 getD e_ eE) (aD (eO e_ (bK j8) cG) (aD iW aZ))))) false)))))
def dY:List D->Res D:=fnS 1 4 JR
abbrev v9:Stmt:=top 23
noncomputable def UW:Nat->Bool:=fun i=>false
def U0:FS:=bI (dI false 1 (aW j9 (aD (eO dN (bK eE) cG) aZ)) false) (bI (sIf (bTB (b2 (bO .eq) (b2 getD dN iY) (bC (.str "rule")))) (fJ (aW (dC 1 dY) (aD cH aZ)) true) d_) (bI (sIf (SM (bTr (aW (dC 1 cW) (aD cH aZ)))) (fJ (bC .non) true) d_) (bI (sIf (J6 (bTB (b2 (bO .eq) (b2 getD dN iY) (bC (.str "kind")))) (bTB (b2 (bO .eq) (aW iZ (aD cH aZ)) eE))) (fJ (b2 getD cH iY) false) d_) (bI (sIf (J6 (bTB (b2 (bO .eq) (b2 getD dN iY) (bC (.str "maker")))) (bTB (bCh (bO (.ord .le)) (bO (.ord .le)) j8 (aW iZ (aD cH aZ)) J5))) (fJ (Y8 (aD (b2 getD cH iY) (aD (b2 getD cH eE) (aD (eO cH (bK j8) cG) aZ)))) false) d_) (bI (sIf (J6 (bTB (b2 (bO .eq) (b2 getD dN iY) (bC (.str "taker")))) (bTB (bCh (bO (.ord .le)) (bO (.ord .le)) mY (aW iZ (aD cH aZ)) J5))) (fJ (Y8 (aD (b2 getD cH iY) (aD (b2 getD cH eE) (aD (b2 getD cH j8) (aD (eO cH (bK mY) cG) aZ))))) false) d_) (fJ (bC .non) true))))))
def gD:List D->Res D:=fnS 1 2 U0
abbrev QL:Stmt:=top 22
noncomputable def aDm:Nat->Bool:=fun i=>i==1
def GC:FS:=bI (noE (aG4 1 (aF9 ["kind", "maker", "taker", "rule"]))) (bI (M6 (noE (xY 1 (bM splitM dN (aD (bC (.str "\n")) aZ)) true)) (noT (tgN [2,3])) (sIf (noE (bTB (b2 (bO .ne) iW (bC (.str ""))))) (bI (noE (dI false 4 (bM splitM iW (aD (bC (.str " ")) aZ)) true)) (bI (noE (dI false 5 (aW (dC 1 gD) (aD mX aZ)) true)) (bI (sIf (noE (bTB (b2 (bO .isN) zK (bC .non)))) (sE "BadRow" ["row"] (noE (aD e_ aZ))) d_) (noE (PB 1 (b2 getD mX iY) zK))))) d_)) (noE (fJ (Y8 (aD (aW j9 (aD (b2 getD cH (bC (.str "kind"))) aZ)) (aD (aW j9 (aD (b2 getD cH (bC (.str "maker"))) aZ)) (aD (aW j9 (aD (b2 getD cH (bC (.str "taker"))) aZ)) (aD (aW j9 (aD (b2 getD cH (bC (.str "rule"))) aZ)) aZ))))) false)))
def yD:List D->Res D:=fnS 1 6 GC
abbrev gP:Stmt:=top 34
noncomputable def uI:Nat->Bool:=fun i=>false
def uJ:FS:=bI (dI false 2 (bC .non) true) (bI (aFg yD 1 (aD dN aZ) ["BadRow"] 2 3) (bI (sIf (bTr (XF [("BadRow",false)] 2)) (fJ (bC (.bl false)) true) d_) (bI (sIf (bTr (XF [("BadRow",false)] 2)) (fJ (bC (.bl false)) true) d_) (bI (sIf (bOr (SM (bTr (XF [("BadRow",true)] 2))) (SM (bTr (XF [("BadRow",true)] 2)))) (fJ (bC (.bl false)) true) d_) (fJ (uC (b1 (Y9 .int) (zV ["BadRow"] "row" 2)) (uC (aCf (b1 (Y9 .bool) (zV ["BadRow"] "row" 2))) (b2 (bO .eq) (zV ["BadRow"] "row" 2) cH))) true)))))
def eF:List D->Res D:=fnS 2 4 uJ
abbrev h_:Stmt:=top 28
noncomputable def zZ:Nat->Bool:=fun i=>false
def z7:FS:=bI (dI false 1 (bC (.str "abcdefghijklmnopqrstuvwxyz")) true) (bI (sIf (bTB (b2 (bO .eq) (b2 (aP .mod) dN WF) R9)) (fJ (b2 getD (fG (aD (bC (.str "kind")) (aD (bC (.str "maker")) (aD (bC (.str "taker")) (aD (bC (.str "rule")) (aD (bC (.str "copy")) (aD (bC (.str "drop")) aZ))))))) (b2 (aP .mod) (b2 (aP .fdiv) dN WF) yX)) false) d_) (bI (dI false 2 (b2 (aP .add) eE (b2 (aP .mod) (b2 (aP .fdiv) dN WF) R9)) true) (bI (dI false 0 (b2 (aP .fdiv) dN (bC (.int 72))) true) (fJ (bM joinM (bC (.str "")) (aD (vO 3 (M4 (aD e_ aZ) IV) M5 lL (b2 getD cH (b2 (aP .mod) (b2 (aP .add) (b2 (aP .fdiv) dN (b2 (aP .add) (b2 uF R_ iW) eE)) (b2 (aP .mod) dN (b2 (aP .add) iW j8))) R_)) false) aZ)) true))))
def dU:List D->Res D:=fnS 1 3 z7
abbrev fL:Stmt:=top 32
noncomputable def nD:Nat->Bool:=fun i=>i==3
def iQ:FS:=bI (dI true 3 (aW M3 (aD dN aZ)) true) (bI (dI false 4 (b2 (aP .add) eE (b2 (aP .mod) e_ (b2 (aP .sub) (aW iZ (aD iW aZ)) eE))) true) (bI (sIf (bTB (b2 (bO .eq) (b2 getD iW mX) (bC (.str "=")))) (dI false 4 eE true) d_) (bI (dI false 2 (b2 (aP .fdiv) e_ Y7) true) (bI (sIf (bTB (b2 (bO .eq) cH iY)) (SN 3 mX (bC (.str ""))) d_) (bI (sIf (bTB (b2 (bO .eq) cH eE)) (SN 3 iY (bC (.str ""))) d_) (bI (sIf (bTB (b2 (bO .eq) cH j8)) (ZC 3 (bC (.str ""))) d_) (bI (sIf (bTB (b2 (bO .eq) cH mY)) (jO 3 mX (eO (b2 (aP .add) (b2 getD iW mX) (bC (.str "ponmlkjih"))) cG (bK WF))) d_) (bI (sIf (bOr (bTB (b2 (bO .eq) cH RN)) (bTB (b2 (bO .eq) cH aBb))) (bI (dI false 4 (b2 uF mX (aW aE9 (aD (b2 (bO .eq) cH RN) aZ))) true) (bI (dI false 5 (bC (.str "!\"#$&'()*+,-./0123456789:;<=>?@ABCDEFGHIJKLM")) true) (bI (dI false 5 (b2 (aP .add) zK (bC (.str "NOPQRSTUVWXYZ[\\]^_`{|}~"))) true) (bI (dI false 6 (b2 (aP .mod) e_ (aW iZ (aD (b2 getD iW mX) aZ))) true) (bI (dI false 7 (b2 getD iW mX) false) (jO 3 mX (b2 (aP .add) (b2 (aP .add) (eO WD cG (bK yW)) (b2 getD zK (b2 (aP .mod) (b2 (aP .fdiv) e_ R9) (bC (.int 67))))) (eO WD (bK (b2 (aP .add) yW eE)) cG)))))))) d_) (bI (sIf (bTB (b2 (bO .eq) cH J5)) (bI (dI false 8 (b2 getD iW iY) false) (bI (jO 3 iY (b2 getD (fG (aD (eO jW (bK eE) cG) (aD (eO jW cG (bK (b1 aCg eE))) (aD (b2 (aP .add) jW (bC (.str "s"))) aZ)))) (b2 (aP .mod) e_ mY))) (sIf (bTB (b2 (bO .eq) (b2 (aP .mod) (b2 (aP .fdiv) e_ mY) j8) eE)) (jO 3 iY (b2 getD (fG (aD (bUp jW) (aD (b2 (aP .add) jW jW) (aD (eO jW cG (bK eE)) aZ)))) (b2 (aP .mod) (b2 (aP .fdiv) e_ yX) mY))) d_))) d_) (bI (sIf (bTB (b2 (bO .eq) cH yX)) (fJ (fG (aD (bC (.str "")) (aD (bC (.str "")) aZ))) true) d_) (bI (sIf (bTB (b2 (bO .eq) cH R9)) (dI true 3 (b2 (aP .add) (fG (aD (bPu (b2 getD (fG (aD (bC (.str "#")) (aD (bC (.str "kind:")) (aD (bC (.str ".")) aZ)))) (b2 (aP .mod) e_ mY))) aZ)) (eO iW (bK (b2 (aP .mod) (b2 (aP .fdiv) e_ mY) j8)) cG)) true) d_) (bI (sIf (bTB (b2 (bO .eq) cH WF)) (bI (jO 3 iY (aW (dC 1 dU) (aD e_ aZ))) (sIf (bTB (b2 inX (b2 getD iW iY) (fG (aD (bC (.str "kind")) (aD (bC (.str "maker")) (aD (bC (.str "taker")) (aD (bC (.str "rule")) aZ))))))) (jO 3 iY (bC (.str "rules"))) d_)) d_) (Y_ 3)))))))))))))
def dM:List D->Res D:=fnS 3 9 iQ
abbrev fM:Stmt:=top 31
noncomputable def nF:Nat->Bool:=fun i=>false
def iR:FS:=bI (sIf (bTB (b2 (bO .eq) dN iY)) (fJ (fG (aD (bC (.str "kind")) aZ)) true) d_) (bI (sIf (bTB (b2 (bO .eq) dN eE)) (fJ (b2 (aP .add) (fG (aD (bC (.str "kind")) aZ)) (eO cH cG (bK j8))) true) d_) (bI (sIf (bTB (b2 (bO .eq) dN j8)) (fJ (b2 (aP .add) (fG (aD (bC (.str "maker")) aZ)) (eO cH cG (bK eE))) true) d_) (bI (sIf (bTB (b2 (bO .eq) dN mY)) (fJ (b2 (aP .add) (fG (aD (bC (.str "maker")) aZ)) (eO cH cG (bK yX))) true) d_) (bI (sIf (bTB (b2 (bO .eq) dN RN)) (fJ (b2 (aP .add) (fG (aD (bC (.str "taker")) aZ)) (eO cH cG (bK j8))) true) d_) (bI (sIf (bTB (b2 (bO .eq) dN J5)) (fJ (b2 (aP .add) (fG (aD (bC (.str "taker")) aZ)) (eO cH cG (bK yX))) true) d_) (bI (sIf (bTB (b2 (bO .eq) dN yX)) (fJ (b2 (aP .add) (fG (aD (bC (.str "rule")) aZ)) (eO cH cG (bK mY))) true) d_) (bI (sIf (bTB (b2 (bO .eq) dN aBb)) (fJ (b2 (aP .add) (b2 (aP .add) (b2 (aP .add) (fG (aD (bC (.str "rule")) aZ)) (eO cH cG (bK eE))) (fG (aD (bC (.str "=")) aZ))) (eO cH (bK eE) (bK j8))) true) d_) (bI (sIf (bTB (b2 (bO .eq) dN R9)) (fJ (b2 (aP .add) (b2 (aP .add) (b2 (aP .add) (fG (aD (bC (.str "rule")) aZ)) (eO cH cG (bK R9))) (fG (aD (bC (.str "=")) aZ))) (eO cH (bK R9) (bK WF))) true) d_) (bI (sIf (bTB (b2 (bO .eq) dN WF)) (fJ (b2 (aP .add) (b2 (aP .add) (fG (aD (bC (.str "rule")) aZ)) (eO cH cG (bK mY))) (fG (aD (bC (.str "=")) aZ))) true) d_) (bI (sIf (bTB (b2 (bO .eq) dN (bC (.int 10)))) (fJ (b2 (aP .add) (b2 (aP .add) (b2 (aP .add) (fG (aD (bC (.str "rule")) aZ)) (eO cH cG (bK j8))) (fG (aD (bC (.str "=")) aZ))) (eO cH (bK j8) (bK (bC (.int 43))))) true) d_) (bI (sIf (bTB (b2 (bO .eq) dN (bC (.int 11)))) (fJ (b2 (aP .add) (b2 (aP .add) (b2 (aP .add) (b2 (aP .add) (b2 (aP .add) (fG (aD (bC (.str "rule")) aZ)) (eO cH cG (bK mY))) (fG (aD (bC (.str "=")) aZ))) (eO cH (bK mY) (bK RN))) (fG (aD (bC (.str "=")) aZ))) (eO cH (bK RN) (bK J5))) true) d_) (bI (sIf (bTB (b2 (bO .eq) dN (bC (.int 12)))) (fJ (b2 (aP .add) (fG (aD (bC (.str "maker")) aZ)) (eO cH cG (bK WF))) true) d_) (bI (sIf (bTB (b2 (bO .eq) dN (bC (.int 13)))) (fJ (b2 (aP .add) (fG (aD (bC (.str "rule")) (aD (bC (.str "=")) aZ))) (eO cH cG (bK eE))) true) d_) (fJ (b2 aEa (fG (aD (fG (aD (bC (.str "maker")) aZ)) (aD (b2 (aP .add) (fG (aD (bC (.str "taker")) aZ)) (eO cH cG (bK eE))) (aD (fG (aD (bC (.str "rule")) aZ)) aZ)))) (b2 (aP .mod) (aW iZ (aD (b2 getD cH iY) aZ)) mY)) true))))))))))))))
def cT:List D->Res D:=fnS 2 2 iR
abbrev gF:Stmt:=top 29
noncomputable def yE:Nat->Bool:=fun i=>false
def yF:FS:=fJ (vO 2 (M4 (aD cH aZ) IV) M5 lL (aW (dC 1 dU) (aD (b2 (aP .mod) (b2 (aP .add) (b2 uF dN (b2 (aP .add) (b2 uF j8 e_) J5)) (b2 uF e_ (bC (.int 1299709)))) (bC (.int 1000000007))) aZ)) true) true
def cU:List D->Res D:=fnS 2 2 yF
abbrev jZ:Stmt:=top 30
noncomputable def z8:Nat->Bool:=fun i=>false
def z9:FS:=bI (dI false 1 (b2 (aP .mod) dN J5) true) (bI (dI false 2 (b2 (aP .fdiv) dN J5) true) (bI (sIf (bTB (b2 (bO .eq) cH iY)) (fJ (b2 (aP .add) (fG (aD (bC (.str "kind")) aZ)) (aW (dC 2 cU) (aD e_ (aD eE aZ)))) true) d_) (bI (sIf (bTB (b2 (bO .eq) cH eE)) (fJ (b2 (aP .add) (fG (aD (bC (.str "maker")) aZ)) (aW (dC 2 cU) (aD e_ (aD (b2 (aP .add) j8 (b2 (aP .mod) e_ RN)) aZ)))) true) d_) (bI (sIf (bTB (b2 (bO .eq) cH j8)) (fJ (b2 (aP .add) (fG (aD (bC (.str "taker")) aZ)) (aW (dC 2 cU) (aD e_ (aD (b2 (aP .add) mY (b2 (aP .mod) e_ mY)) aZ)))) true) d_) (bI (dI false 3 (b2 (aP .add) j8 (b2 (aP .mod) e_ yX)) true) (bI (dI false 4 (aW (dC 2 cU) (aD e_ (aD (b2 (aP .add) (b2 (aP .add) iW eE) (b2 (aP .mod) (b2 (aP .fdiv) e_ yX) RN)) aZ))) true) (fJ (b2 (aP .add) (b2 (aP .add) (b2 (aP .add) (fG (aD (bC (.str "rule")) aZ)) (eO mX cG (bK iW))) (fG (aD (bC (.str "=")) aZ))) (eO mX (bK iW) cG)) true)))))))
def dW:List D->Res D:=fnS 1 5 z9
abbrev lZ:Stmt:=top 33
noncomputable def JS:Nat->Bool:=fun i=>false
def JT:FS:=bI (dI false 1 (b2 (aP .mod) dN SJ) true) (bI (dI false 2 (b2 (aP .fdiv) dN SJ) true) (bI (sIf (bTB (b2 (bO (.ord .lt)) cH (bC (.int 15)))) (fJ (aW (dC 2 cT) (aD cH (aD (aW (dC 2 cU) (aD e_ (aD (bC (.int 43)) aZ))) aZ))) true) d_) (fJ (aW (dC 3 dM) (aD (aW (dC 1 dW) (aD e_ aZ)) (aD (b2 (aP .sub) cH (bC (.int 15))) (aD (b2 (aP .fdiv) e_ aBb) aZ)))) true)))
def fD:List D->Res D:=fnS 1 3 JT
abbrev v_:Stmt:=top 35
noncomputable def o_law:Nat->Bool:=fun i=>i==1
def aFk:FS:=bI (dI true 1 (fG aZ) true) (bI (dI false 2 (bC (.int 3000)) true) (bI (M6 (TX (eO dN cG (bK (bC (.int 120)))) true) (tgN [3,4]) (bI (dI false 5 (aW (dC 2 cD) (aD mX (aD iW aZ))) true) (bI (dI false 6 (bC (.str "")) true) (bI (sIf (bTB (b2 (bO (.ord .gt)) (b2 (aP .mod) zK yX) iY)) (dI false 6 (bM joinM (bC (.str " ")) (aD (aW (dC 1 dW) (aD (b2 (aP .fdiv) zK yX) aZ)) aZ)) true) d_) (sIf (bTB (b2 (bO (.ord .lt)) (aW iZ (aD yW aZ)) e_)) (bI (ZC 1 yW) (dI false 2 (b2 (aP .sub) (b2 (aP .sub) e_ (aW iZ (aD yW aZ))) eE) true)) d_))))) (bI (dI false 7 (aW (dC 2 cD) (aD (aW (dC 2 b_) (aD dN (aD iY aZ))) (aD (bC (.int 201)) aZ))) true) (bI (dI false 8 (b2 (aP .mod) (aW (dC 2 cD) (aD (aW (dC 2 b_) (aD dN (aD eE aZ))) (aD (bC (.int 202)) aZ))) (b2 (aP .add) (aW iZ (aD cH aZ)) eE)) true) (bI (SN 1 jW (bM joinM (bC (.str " ")) (aD (aW (dC 1 fD) (aD WD aZ)) aZ))) (bI (dI false 9 (aW (dC 2 cD) (aD (aW (dC 2 b_) (aD dN (aD j8 aZ))) (aD (bC (.int 203)) aZ))) true) (bI (sIf (bTB (b2 (bO .eq) (b2 (aP .mod) (fU 9) j8) eE)) (bI (dI false 10 (b2 (aP .add) (b2 (aP .add) jW eE) (b2 (aP .mod) (b2 (aP .fdiv) (fU 9) j8) (b2 (aP .sub) (aW iZ (aD cH aZ)) jW))) true) (SN 1 (fU 10) (bM joinM (bC (.str " ")) (aD (aW (dC 1 fD) (aD (aW (dC 2 cD) (aD (aW (dC 2 b_) (aD dN (aD mY aZ))) (aD (bC (.int 204)) aZ))) aZ)) aZ)))) d_) (bI (dI false 11 (aBd "BadRow" ["row"] (aD (b2 (aP .add) jW eE) aZ)) true) (fJ (uC (aW (dC 2 eF) (aD (bM joinM (bC (.str "\n")) (aD cH aZ)) (aD (b2 (aP .add) jW eE) aZ))) (b2 (bO .eq) (zV ["BadRow"] "row" 11) (b2 (aP .add) jW eE))) true)))))))))
def JV:List D->Res D:=fnS 1 12 aFk
abbrev iB:Stmt:=aFi (top 13) 0
noncomputable abbrev mQ:List Str:=["cell", "k", "number"]
noncomputable abbrev jT:List Str:=["script", "k"]
noncomputable abbrev bA:List Str:=["word"]
noncomputable abbrev iC:List Str:=["words"]
noncomputable abbrev vA:List Str:=["rest", "place", "heads", "words"]
noncomputable abbrev GD:List Str:=["words", "rest"]
noncomputable abbrev XM:List Str:=["text", "rows", "count", "line", "words", "row"]
noncomputable abbrev jU:List Str:=["text", "row", "caught", "e"]
noncomputable abbrev iD:List Str:=["number", "letters", "size"]
noncomputable abbrev iT:List Str:=["item", "choice", "more", "words", "at", "signs", "cut", "old", "head"]
noncomputable abbrev iU:List Str:=["choice", "some"]
noncomputable abbrev gG:List Str:=["number", "many"]
noncomputable abbrev sS:List Str:=["number", "form", "more", "ahead", "some"]
noncomputable abbrev vB:List Str:=["number", "choice", "more"]
noncomputable abbrev aDn:List Str:=["script", "rows", "room", "k", "cell", "number", "row", "first", "at", "behind", "place", "found"]
theorem wA:cJ mQ ["cell", "k"] (aU jF):=by refine ⟨rfl,rfl,rfl,?_,rfl,?_,?_⟩ <;> decide +kernel
theorem uK [KFrag] {P:Program} {w:World} {K:Frag} {mg:Str->Option Value} {base:Heap} {fad:Addr} {fd:FuncData} (hK:KFrag.K=K) (B:Bt mg)  (F:Fun K "_law_mixed" "_law_mixed" jF fad fd) (hm:mg "_law_mixed" = some (.ref fad)):dR P w K mg base 1 "_law_mixed" 2 cD:=by
 have sc:=wA;have nd:=sc.nd;refine gB (ps:=["cell", "k"]) (N:=mQ) (k:=0) F hm (F.binds fun _ _ _ _ _ _ us hl=>match us,hl with|[_,_],_=>rfl) sc x_ (by decide) (by decide) fun cdv A outer s H E hr=>?_
 have hu:=yZ hr;exact aF (bZ (i:=2) (o:=false) rfl sc.nd rfl (by trivial) (aN dB (aN aX (aN aX (aN gK (aA (i:=0)) aC) (aN gK (aN gK (aN aX (aA (i:=1)) aC) (aN aX (aA (i:=1)) aC)) aC)) aC) aC)) (aM (bL (aN dB (aN aX (aN gK (aA (i:=2)) (aA (i:=2))) (aN gK aC (aA (i:=2)))) aC)))
theorem sU:cJ jT ["script", "k"] (aU gM):=by refine ⟨rfl,rfl,rfl,?_,rfl,?_,?_⟩ <;> decide +kernel
theorem nG [KFrag] {P:Program} {w:World} {K:Frag} {mg:Str->Option Value} {base:Heap} {fad:Addr} {fd:FuncData} (hK:KFrag.K=K) (B:Bt mg)  (F:Fun K "_law_cell_at" "_law_cell_at" gM fad fd) (hm:mg "_law_cell_at" = some (.ref fad)):dR P w K mg base 1 "_law_cell_at" 2 b_:=by
 have sc:=sU;have nd:=sc.nd;refine gB (ps:=["script", "k"]) (N:=jT) (k:=0) F hm (F.binds fun _ _ _ _ _ _ us hl=>match us,hl with|[_,_],_=>rfl) sc uG (by decide) (by decide) fun cdv A outer s H E hr=>?_
 have hu:=yZ hr;exact aF (cR (bN (ZL hu) (aA (i:=1)) (cZ (fZ hK) (by rfl) B.len gC (aB (aA (i:=0)) aJ)) (bJ _)) (aM (bL (eN (aA (i:=0)) (aA (i:=1))))) aY) (aM (bL aC))
theorem jP:cJ bA ["word"] (aU dF):=by refine ⟨rfl,rfl,rfl,?_,rfl,?_,?_⟩ <;> decide +kernel
theorem jG [KFrag] {P:Program} {w:World} {K:Frag} {mg:Str->Option Value} {base:Heap} {fad:Addr} {fd:FuncData} (hK:KFrag.K=K) (B:Bt mg)  (F:Fun K "are_small_letters" "are_small_letters" dF fad fd) (hm:mg "are_small_letters" = some (.ref fad)):dR P w K mg base 1 "are_small_letters" 1 dG:=by
 have sc:=jP;have nd:=sc.nd;refine gB (ps:=["word"]) (N:=bA) (k:=0) F hm (F.binds fun _ _ _ _ _ _ us hl=>match us,hl with|[_],_=>rfl) sc jX (by decide) (by decide) fun cdv A outer s H E hr=>?_
 have hu:=yZ hr;exact aM (bL (cZ (WY (by rfl)) (by rfl) B.all W2 (aB (nY (ownN:=(["sign"]:List Str)) (show j_ bA (aU dF) _ (["sign"]:List Str) from by refine ⟨rfl,?_,?_,?_,?_,?_,?_⟩ <;> decide +kernel) (n:=1) (m:=1) rfl rfl rfl (N8 (aA (i:=0))) (vY 1) (fun _=>jA (i:=1) (show ((List.map (m9 (["sign"]:List Str)) bA++(["sign"]:List Str)):List Str).Nodup from by decide +kernel) rfl (by trivial)) (fun _=>DN (m_ hu) (m_ hu) aQ (aA (i:=1)) aQ) (fun _=>rfl)) aJ)))
theorem JW:cJ bA ["word"] (aU sO):=by refine ⟨rfl,rfl,rfl,?_,rfl,?_,?_⟩ <;> decide +kernel
theorem z_ [KFrag] {P:Program} {w:World} {K:Frag} {mg:Str->Option Value} {base:Heap} {fad:Addr} {fd:FuncData} (hK:KFrag.K=K) (B:Bt mg) (rM:dR P w K mg base 1 "are_small_letters" 1 dG) (F:Fun K "is_name" "is_name" sO fad fd) (hm:mg "is_name" = some (.ref fad)):dR P w K mg base 2 "is_name" 1 gW:=by
 have sc:=JW;have nd:=sc.nd;refine gB (ps:=["word"]) (N:=bA) (k:=1) F hm (F.binds fun _ _ _ _ _ _ us hl=>match us,hl with|[_],_=>rfl) sc QJ (by decide) (by decide) fun cdv A outer s H E hr=>?_
 have hu:=yZ hr;exact aM (bL (DG (DN (m_ hu) (m_ hu) aC (cZ (fZ hK) (by rfl) B.len gC (aB (aA (i:=0)) aJ)) aC) (M_ (bG rM hr (by decide) (by rfl) (aB (aA (i:=0)) aJ)))))
theorem yG:cJ iC ["words"] (aU g_):=by refine ⟨rfl,rfl,rfl,?_,rfl,?_,?_⟩ <;> decide +kernel
theorem wB [KFrag] {P:Program} {w:World} {K:Frag} {mg:Str->Option Value} {base:Heap} {fad:Addr} {fd:FuncData} (hK:KFrag.K=K) (B:Bt mg) (rN:dR P w K mg base 2 "is_name" 1 gW) (F:Fun K "are_names" "are_names" g_ fad fd) (hm:mg "are_names" = some (.ref fad)):dR P w K mg base 3 "are_names" 1 cW:=by
 have sc:=yG;have nd:=sc.nd;refine gB (ps:=["words"]) (N:=iC) (k:=2) F hm (F.binds fun _ _ _ _ _ _ us hl=>match us,hl with|[_],_=>rfl) sc zX (by decide) (by decide) fun cdv A outer s H E hr=>?_
 have hu:=yZ hr;exact aM (bL (cZ (WY (by rfl)) (by rfl) B.all W2 (aB (nY (ownN:=bA) (show j_ iC (aU g_) _ bA from by refine ⟨rfl,?_,?_,?_,?_,?_,?_⟩ <;> decide +kernel) (n:=1) (m:=1) rfl rfl rfl (N8 (aA (i:=0))) (vY 1) (fun _=>jA (i:=1) (show ((List.map (m9 bA) iC++bA):List Str).Nodup from by decide +kernel) rfl (by trivial)) (fun _=>bG rN hr (by decide) (by rfl) (aB (aA (i:=1)) aJ)) (fun _=>rfl)) aJ)))
theorem A_:cJ vA ["rest"] (aU lY):=by refine ⟨rfl,rfl,rfl,?_,rfl,?_,?_⟩ <;> decide +kernel
theorem yH [KFrag] {P:Program} {w:World} {K:Frag} {mg:Str->Option Value} {base:Heap} {fad:Addr} {fd:FuncData} (hK:KFrag.K=K) (B:Bt mg) (ph:dR P w K mg base 3 "are_names" 1 cW) (F:Fun K "rule_row" "rule_row" lY fad fd) (hm:mg "rule_row" = some (.ref fad)):dR P w K mg base 4 "rule_row" 1 dY:=by
 have sc:=A_;have nd:=sc.nd;refine gB (ps:=["rest"]) (N:=vA) (k:=3) F hm (F.binds fun _ _ _ _ _ _ us hl=>match us,hl with|[_],_=>rfl) sc JQ (by decide) (by decide) fun cdv A outer s H E hr=>?_
 have hu:=yZ hr;exact aF (cR (bN (S7 hu) aQ (aA (i:=0)) (by with_unfolding_all rfl)) (aM (bL uY)) aY) (aF (bZ (i:=1) (o:=false) rfl sc.nd rfl (by trivial) (xO PySem.F.plainAttrs_tuple PySem.F.slot_tuple_index PySem.F.type_tuple_index (O9 hu) (aA (i:=0)) (aB aQ aJ) (fun _ _ _ _ _ h r=>O_ h r))) (aF (bZ (i:=2) (o:=false) rfl sc.nd rfl (by trivial) (cA hK (aA (i:=0)) (bT) (bD (aA (i:=1))))) (aF (bZ (i:=3) (o:=false) rfl sc.nd rfl (by trivial) (cA hK (aA (i:=0)) (bD (aN aX (aA (i:=1)) aC)) (bT))) (aF (cR (CZ (PW.pt (uZ (nU (m_ hu) (m_ hu) aC (cZ (fZ hK) (by rfl) B.len gC (aB (aA (i:=2)) aJ)) aC) (uZ (nU (m_ hu) (m_ hu) aC (cZ (fZ hK) (by rfl) B.len gC (aB (aA (i:=3)) aJ)) aC) (uZ (oO (bG ph hr (by decide) (by rfl) (aB (aA (i:=2)) aJ))) (vQ (oO (bG ph hr (by decide) (by rfl) (aB (aA (i:=3)) aJ))))))))) (aM (bL uY)) aY) (aM (bL (DK (aB (eN (aA (i:=2)) aC) (aB (eN (aA (i:=2)) aC) (aB (cA hK (aA (i:=2)) (bD aC) (bT)) (aB (aA (i:=3)) aJ)))))))))))
theorem QM:cJ GD ["words"] (aU v9):=by refine ⟨rfl,rfl,rfl,?_,rfl,?_,?_⟩ <;> decide +kernel
theorem JX [KFrag] {P:Program} {w:World} {K:Frag} {mg:Str->Option Value} {base:Heap} {fad:Addr} {fd:FuncData} (hK:KFrag.K=K) (B:Bt mg) (rO:dR P w K mg base 4 "rule_row" 1 dY) (ph:dR P w K mg base 3 "are_names" 1 cW) (F:Fun K "row_of" "row_of" v9 fad fd) (hm:mg "row_of" = some (.ref fad)):dR P w K mg base 5 "row_of" 1 gD:=by
 have sc:=QM;have nd:=sc.nd;refine gB (ps:=["words"]) (N:=GD) (k:=4) F hm (F.binds fun _ _ _ _ _ _ us hl=>match us,hl with|[_],_=>rfl) sc UW (by decide) (by decide) fun cdv A outer s H E hr=>?_
 have hu:=yZ hr;exact aF (bZ (i:=1) (o:=false) rfl sc.nd rfl (by trivial) (fQ kJ (by rfl) B.tuple kW (aB (cA hK (aA (i:=0)) (bD aC) (bT)) aJ))) (aF (cR (bN (dD hu) (eN (aA (i:=0)) aC) aQ (bJ _)) (aM (bL (bG rO hr (by decide) (by rfl) (aB (aA (i:=1)) aJ)))) aY) (aF (cR (CZ (oO (bG ph hr (by decide) (by rfl) (aB (aA (i:=1)) aJ)))) (aM (bL uY)) aY) (aF (cR (PW.pt (uZ (bN (dD hu) (eN (aA (i:=0)) aC) aQ (bJ _)) (vQ (bN (dD hu) (cZ (fZ hK) (by rfl) B.len gC (aB (aA (i:=1)) aJ)) aC (bJ _))))) (aM (bL (eN (aA (i:=1)) aC))) aY) (aF (cR (PW.pt (uZ (bN (dD hu) (eN (aA (i:=0)) aC) aQ (bJ _)) (vQ (nU (m_ hu) (m_ hu) aC (cZ (fZ hK) (by rfl) B.len gC (aB (aA (i:=1)) aJ)) aC)))) (aM (bL (DK (aB (eN (aA (i:=1)) aC) (aB (eN (aA (i:=1)) aC) (aB (cA hK (aA (i:=1)) (bD aC) (bT)) aJ)))))) aY) (aF (cR (PW.pt (uZ (bN (dD hu) (eN (aA (i:=0)) aC) aQ (bJ _)) (vQ (nU (m_ hu) (m_ hu) aC (cZ (fZ hK) (by rfl) B.len gC (aB (aA (i:=1)) aJ)) aC)))) (aM (bL (DK (aB (eN (aA (i:=1)) aC) (aB (eN (aA (i:=1)) aC) (aB (eN (aA (i:=1)) aC) (aB (cA hK (aA (i:=1)) (bD aC) (bT)) aJ))))))) aY) (aM (bL uY)))))))
theorem aAn:cJ XM ["text"] (aU QL):=by refine ⟨rfl,rfl,rfl,?_,rfl,?_,?_⟩ <;> decide +kernel
theorem U3 [KFrag] {P:Program} {w:World} {K:Frag} {mg:Str->Option Value} {base:Heap} {fad:Addr} {fd:FuncData} (hK:KFrag.K=K) (B:Bt mg) (rP:dR P w K mg base 5 "row_of" 1 gD) (p9:aDi P w K mg base 1 "BadRow" ["row"]) (F:Fun K "read" "read" QL fad fd) (hm:mg "read" = some (.ref fad)):JN P w K mg base 6 "read" 1 yD:=by
 have sc:=aAn;have nd:=sc.nd;refine aAm (ps:=["text"]) (N:=XM) (k:=5) F hm (F.binds fun _ _ _ _ _ _ us hl=>match us,hl with|[_],_=>rfl) sc aDm (by decide) (by decide) fun cdv A outer s H E hr=>?_
 have hu:=yZ hr;exact sJ (sI (aA5 (i:=1) (ks:=["kind", "maker", "taker", "rule"]) rfl sc.nd rfl (by trivial) (nT wU (wV fW) (nT wU (wV fW) (nT wU (wV fW) (nT wU (wV fW) (Y0))))) rfl rfl (by simp) (by decide) (by decide) (by decide +kernel))) (sJ (aDl (T9 (by rfl) B.enum (aB (xO PySem.F.plainAttrs_str PySem.F.slot_str_split PySem.F.type_str_split FJ (aA (i:=0)) (aB aQ aJ) (fun _ _ _ _ _ h r=>xU h r)) aJ)) (aA6 _ (is:=[2,3]) (by decide)) (V5 rfl (nM (jA (i:=2) sc.nd rfl (by trivial)) (nM (jA (i:=3) sc.nd rfl (by trivial)) (KY)))) (F_ (aDk (bN (aF0 hu) (aA (i:=3)) aQ (bJ _)) (sJ (sI (W8 (i:=4) rfl sc.nd rfl (by trivial) (xO PySem.F.plainAttrs_str PySem.F.slot_str_split PySem.F.type_str_split FJ (aA (i:=3)) (aB aQ aJ) (fun _ _ _ _ _ h r=>xU h r)))) (sJ (sI (W8 (i:=5) rfl sc.nd rfl (by trivial) (bG rP hr (by decide) (by rfl) (aB (aA (i:=4)) aJ)))) (sJ (aDk (bN aCs (aA (i:=5)) uY (bJ _)) (F_ (QH p9 hK hr (by decide) (by rfl) (aB (aA (i:=2)) aJ))) (XJ)) (F_ (sI (aA4 (i:=1) hu rfl rfl (by trivial) (eN (aA (i:=4)) aC) (aA (i:=5)))))))) (XJ)))) (F_ (sI (aD4 (DK (aB (fQ kJ (by rfl) B.tuple kW (aB (eN (aA (i:=1)) aQ) aJ)) (aB (fQ kJ (by rfl) B.tuple kW (aB (eN (aA (i:=1)) aQ) aJ)) (aB (fQ kJ (by rfl) B.tuple kW (aB (eN (aA (i:=1)) aQ) aJ)) (aB (fQ kJ (by rfl) B.tuple kW (aB (eN (aA (i:=1)) aQ) aJ)) aJ)))))))))
theorem sV:cJ jU ["text", "row"] (aU gP):=by refine ⟨rfl,rfl,rfl,?_,rfl,?_,?_⟩ <;> decide +kernel
theorem nH [KFrag] {P:Program} {w:World} {K:Frag} {mg:Str->Option Value} {base:Heap} {fad:Addr} {fd:FuncData} (hK:KFrag.K=K) (B:Bt mg)  (pi:JN P w K mg base 6 "read" 1 yD) {qX:Addr} (rQ:mg "MillError" = some (.ref qX)) {pj:Addr} (rR:mg "NoTerm" = some (.ref pj)) {pk:Addr} (rS:mg "NoRule" = some (.ref pk)) {po:Addr} (rT:mg "NoPair" = some (.ref po)) {pq:Addr} (rV:mg "NoNet" = some (.ref pq)) {pr:Addr} (rW:mg "NoName" = some (.ref pr)) {pv:Addr} (rX:mg "NoEnd" = some (.ref pv)) {pw:Addr} (rY:mg "Lacking" = some (.ref pw)) {pz:Addr} (rZ:mg "BadKind" = some (.ref pz)) {pA:Addr} (t5:mg "Unfit" = some (.ref pA)) {pB:Addr} (t6:mg "Uneven" = some (.ref pB)) {pC:Addr} (t7:mg "TwoRules" = some (.ref pC)) {pD:Addr} (t8:mg "Twice" = some (.ref pD)) {pE:Addr} (t9:mg "Stuck" = some (.ref pE)) {pF:Addr} (tf:mg "Spent" = some (.ref pF)) {pG:Addr} (ti:mg "NoValue" = some (.ref pG)) {pR:Addr} (tj:mg "BadRow" = some (.ref pR)) (tm:mg "ValueError" = none) (y1:aAk (fun c=>∃C,nsIn K mainGlobals c=some (some (.ref C))/\exmOne K (.ref C) (.ref qX)=some true) ["BadRow"]) (y2:aBe (fun c b=>∃C,nsIn K mainGlobals c=some (some (.ref C))/\XC K C/\kitAny K (.ref C) [.ref pz,.ref pw,.ref pv,.ref pr,.ref pq,.ref po,.ref pk,.ref pj]=some b) [("BadRow",false)]) (y3:aBe (fun c b=>∃C,nsIn K mainGlobals c=some (some (.ref C))/\XC K C/\kitAny K (.ref C) [.ref pG,.ref pF,.ref pE,.ref pD,.ref pC,.ref pB,.ref pA]=some b) [("BadRow",false)]) (y4:aBe (fun c b=>∃C,nsIn K mainGlobals c=some (some (.ref C))/\XC K C/\kitOne K (.ref C) (.ref pR)=some b) [("BadRow",true)]) (y5:aBe (fun c b=>∃C,nsIn K mainGlobals c=some (some (.ref C))/\XC K C/\kitOne K (.ref C) (.type "ValueError")=some b) [("BadRow",true)]) (y6:aAk (fun c=>∃C,nsIn K mainGlobals c=some (some (.ref C))/\XA K C "row") ["BadRow"]) (y7:aAk (fun c=>∃C,nsIn K mainGlobals c=some (some (.ref C))/\XA K C "row") ["BadRow"]) (y8:aAk (fun c=>∃C,nsIn K mainGlobals c=some (some (.ref C))/\XA K C "row") ["BadRow"]) (F:Fun K "_law_refused" "_law_refused" gP fad fd) (hm:mg "_law_refused" = some (.ref fad)):dR P w K mg base 7 "_law_refused" 2 eF:=by
 have sc:=sV;have nd:=sc.nd;refine gB (ps:=["text", "row"]) (N:=jU) (k:=6) F hm (F.binds fun _ _ _ _ _ _ us hl=>match us,hl with|[_,_],_=>rfl) sc uI (by decide) (by decide) fun cdv A outer s H E hr=>?_
 have hu:=yZ hr;exact aF (bZ (i:=2) (o:=false) rfl sc.nd rfl (by trivial) uY) (aF (aDh (ic:=2) (ie:=3) hK rfl rfl pi hr (by decide) (by rfl) (aB (aA (i:=0)) aJ) (by rfl) rQ (lX y1) sc.nd rfl rfl rfl (by trivial) (.inl rfl) rfl rfl (by decide)) (aF (cR (oO (QD (i:=2) (cs:=[pz,pw,pv,pr,pq,po,pk,pj]) hK (sG y2) (show 8<=sizeLine from by decide) (by rfl) B.isi rfl (by trivial) (PA.imp (b7 (d7 (v:=.ref pz) (by rfl) rZ rfl) (b7 (d7 (v:=.ref pw) (by rfl) rY rfl) (b7 (d7 (v:=.ref pv) (by rfl) rX rfl) (b7 (d7 (v:=.ref pr) (by rfl) rW rfl) (b7 (d7 (v:=.ref pq) (by rfl) rV rfl) (b7 (d7 (v:=.ref po) (by rfl) rT rfl) (b7 (d7 (v:=.ref pk) (by rfl) rS rfl) (b7 (d7 (v:=.ref pj) (by rfl) rR rfl) (fW))))))))) fun _ _ _ h=>h))) (aM (bL ZK)) aY) (aF (cR (oO (QD (i:=2) (cs:=[pG,pF,pE,pD,pC,pB,pA]) hK (sG y3) (show 7<=sizeLine from by decide) (by rfl) B.isi rfl (by trivial) (PA.imp (b7 (d7 (v:=.ref pG) (by rfl) ti rfl) (b7 (d7 (v:=.ref pF) (by rfl) tf rfl) (b7 (d7 (v:=.ref pE) (by rfl) t9 rfl) (b7 (d7 (v:=.ref pD) (by rfl) t8 rfl) (b7 (d7 (v:=.ref pC) (by rfl) t7 rfl) (b7 (d7 (v:=.ref pB) (by rfl) t6 rfl) (b7 (d7 (v:=.ref pA) (by rfl) t5 rfl) (fW)))))))) fun _ _ _ h=>h))) (aM (bL ZK)) aY) (aF (cR (PW.pt (aCp (CZ (oO (QF (i:=2) (v:=.ref pR) hK (sG y4) (fun u r=>r) (by rfl) B.isi rfl (by trivial) (d7 (by rfl) tj rfl) rfl rfl))) (WK (CZ (oO (QF (i:=2) (v:=.ty "ValueError") hK (sG y5) (fun u r=>r) (by rfl) B.isi rfl (by trivial) (KH (by rfl) tm v4 rfl) rfl rfl)))))) (aM (bL ZK)) aY) (aM (bL (DG (WQ .int (v8 (i:=2) hK (lX y6) rfl (by trivial)) (by rfl) B.isi kO (by rfl) B.int WX) (DG (aCn (WQ .bool (v8 (i:=2) hK (lX y7) rfl (by trivial)) (by rfl) B.isi kO (by rfl) B.bool Z6)) (M_ (M9 (dD hu) (v8 (i:=2) hK (lX y8) rfl (by trivial)) (aA (i:=1)) (bJ _)))))))))))
theorem yI:cJ iD ["number"] (aU h_):=by refine ⟨rfl,rfl,rfl,?_,rfl,?_,?_⟩ <;> decide +kernel
theorem wC [KFrag] {P:Program} {w:World} {K:Frag} {mg:Str->Option Value} {base:Heap} {fad:Addr} {fd:FuncData} (hK:KFrag.K=K) (B:Bt mg)  (F:Fun K "_law_name" "_law_name" h_ fad fd) (hm:mg "_law_name" = some (.ref fad)):dR P w K mg base 1 "_law_name" 1 dU:=by
 have sc:=yI;have nd:=sc.nd;refine gB (ps:=["number"]) (N:=iD) (k:=0) F hm (F.binds fun _ _ _ _ _ _ us hl=>match us,hl with|[_],_=>rfl) sc zZ (by decide) (by decide) fun cdv A outer s H E hr=>?_
 have hu:=yZ hr;exact aF (bZ (i:=1) (o:=false) rfl sc.nd rfl (by trivial) aQ) (aF (cR (bN (dD hu) (aN dB (aA (i:=0)) aC) aC (bJ _)) (aM (bL (eN (b8 (aB aQ (aB aQ (aB aQ (aB aQ (aB aQ (aB aQ aJ))))))) (aN dB (aN eG (aA (i:=0)) aC) aC)))) aY) (aF (bZ (i:=2) (o:=false) rfl sc.nd rfl (by trivial) (aN aX aC (aN dB (aN eG (aA (i:=0)) aC) aC))) (aF (bZ (i:=0) (o:=false) rfl sc.nd rfl (by trivial) (aN eG (aA (i:=0)) aC)) (aM (bL (xO PySem.F.plainAttrs_str PySem.F.slot_str_join PySem.F.type_str_join oY aQ (aB (nY (ownN:=(["k"]:List Str)) (show j_ iD (aU h_) _ (["k"]:List Str) from by refine ⟨rfl,?_,?_,?_,?_,?_,?_⟩ <;> decide +kernel) (n:=3) (m:=1) rfl rfl rfl (NT (by rfl) B.range (aB (aA (i:=2)) aJ)) (vY 3) (fun _=>jA (i:=3) (show ((List.map (m9 (["k"]:List Str)) iD++(["k"]:List Str)):List Str).Nodup from by decide +kernel) rfl (by trivial)) (fun _=>eN (aA (i:=1)) (aN dB (aN aX (aN eG (aA (i:=0)) (aN aX (aN gK aC (aA (i:=3))) aC)) (aN dB (aA (i:=0)) (aN aX (aA (i:=3)) aC))) aC)) (fun _=>rfl)) aJ) (fun _ _ _ _ _ h r=>kZ h r)))))))
theorem l_:cJ iT ["item", "choice", "more"] (aU fL):=by refine ⟨rfl,rfl,rfl,?_,rfl,?_,?_⟩ <;> decide +kernel
theorem lC [KFrag] {P:Program} {w:World} {K:Frag} {mg:Str->Option Value} {base:Heap} {fad:Addr} {fd:FuncData} (hK:KFrag.K=K) (B:Bt mg) (pS:dR P w K mg base 1 "_law_name" 1 dU) (F:Fun K "_law_bad_signs" "_law_bad_signs" fL fad fd) (hm:mg "_law_bad_signs" = some (.ref fad)):dR P w K mg base 2 "_law_bad_signs" 3 dM:=by
 have sc:=l_;have nd:=sc.nd;refine gB (ps:=["item", "choice", "more"]) (N:=iT) (k:=1) F hm (F.binds fun _ _ _ _ _ _ us hl=>match us,hl with|[_,_,_],_=>rfl) sc nD (by decide) (by decide) fun cdv A outer s H E hr=>?_
 have hu:=yZ hr
 exact aF (bZ (i:=3) (o:=true) rfl sc.nd rfl (by trivial) (fQ (ZR (by rfl)) (by rfl) B.list Z5 (aB (aA (i:=0)) aJ))) (aF (bZ (i:=4) (o:=false) rfl sc.nd rfl (by trivial) (aN aX aC (aN dB (aA (i:=2)) (aN xM (cZ (fZ hK) (by rfl) B.len gC (aB (aA (i:=3)) aJ)) aC)))) (aF (cR (bN (dD hu) (eN (aA (i:=3)) (aA (i:=4))) aQ (bJ _)) (aM (bZ (i:=4) (o:=false) rfl sc.nd rfl (by trivial) aC)) aY) (aF (bZ (i:=2) (o:=false) rfl sc.nd rfl (by trivial) (aN eG (aA (i:=2)) aC)) (aF (cR (bN (dD hu) (aA (i:=1)) aC (bJ _)) (aM (DY (i:=3) rfl rfl (by trivial) (aA (i:=4)) aQ)) aY) (aF (cR (bN (dD hu) (aA (i:=1)) aC (bJ _)) (aM (DY (i:=3) rfl rfl (by trivial) aC aQ)) aY) (aF (cR (bN (dD hu) (aA (i:=1)) aC (bJ _)) (aM (WT (i:=3) rfl rfl (by trivial) aQ)) aY) (aF (cR (bN (dD hu) (aA (i:=1)) aC (bJ _)) (aM (lW (i:=3) rfl rfl (by trivial) (aA (i:=4)) (cA hK (aN aX (eN (aA (i:=3)) (aA (i:=4))) aQ) (bT) (bD aC)))) aY) (aF (cR (PW.pt (aCp (bN (dD hu) (aA (i:=1)) aC (bJ _)) (WK (bN (dD hu) (aA (i:=1)) aC (bJ _))))) (aF (bZ (i:=4) (o:=false) rfl sc.nd rfl (by trivial) (aN gK (aA (i:=4)) (fQ aA1 (by rfl) B.int WX (aB (M9 (dD hu) (aA (i:=1)) aC (bJ _)) aJ)))) (aF (bZ (i:=5) (o:=false) rfl sc.nd rfl (by trivial) aQ) (aF (bZ (i:=5) (o:=false) rfl sc.nd rfl (by trivial) (aN aX (aA (i:=5)) aQ)) (aF (bZ (i:=6) (o:=false) rfl sc.nd rfl (by trivial) (aN dB (aA (i:=2)) (cZ (fZ hK) (by rfl) B.len gC (aB (eN (aA (i:=3)) (aA (i:=4))) aJ)))) (aF (bZ (i:=7) (o:=false) rfl sc.nd rfl (by trivial) (eN (aA (i:=3)) (aA (i:=4)))) (aM (lW (i:=3) rfl rfl (by trivial) (aA (i:=4)) (aN aX (aN aX (cA hK (aA (i:=7)) (bT) (bD (aA (i:=6)))) (eN (aA (i:=5)) (aN dB (aN eG (aA (i:=2)) aC) aC))) (cA hK (aA (i:=7)) (bD (aN aX (aA (i:=6)) aC)) (bT)))))))))) aY) (aF (cR (bN (dD hu) (aA (i:=1)) aC (bJ _)) (aF (bZ (i:=8) (o:=false) rfl sc.nd rfl (by trivial) (eN (aA (i:=3)) aC)) (aF (lW (i:=3) rfl rfl (by trivial) aC (eN (b8 (aB (cA hK (aA (i:=8)) (bD aC) (bT)) (aB (cA hK (aA (i:=8)) (bT) (bD (aEy aCr aC))) (aB (aN aX (aA (i:=8)) aQ) aJ)))) (aN dB (aA (i:=2)) aC))) (aM (cR (bN (dD hu) (aN dB (aN eG (aA (i:=2)) aC) aC) aC (bJ _)) (aM (lW (i:=3) rfl rfl (by trivial) aC (eN (b8 (aB (UV (aA (i:=8))) (aB (aN aX (aA (i:=8)) (aA (i:=8))) (aB (cA hK (aA (i:=8)) (bT) (bD aC)) aJ)))) (aN dB (aN eG (aA (i:=2)) aC) aC)))) aY)))) aY) (aF (cR (bN (dD hu) (aA (i:=1)) aC (bJ _)) (aM (bL (b8 (aB aQ (aB aQ aJ))))) aY) (aF (cR (bN (dD hu) (aA (i:=1)) aC (bJ _)) (aM (bZ (i:=3) (o:=true) rfl sc.nd rfl (by trivial) (aN aX (b8 (aB (aFd (eN (b8 (aB aQ (aB aQ (aB aQ aJ)))) (aN dB (aA (i:=2)) aC))) aJ)) (cA hK (aA (i:=3)) (bD (aN dB (aN eG (aA (i:=2)) aC) aC)) (bT))))) aY) (aF (cR (bN (dD hu) (aA (i:=1)) aC (bJ _)) (aF (lW (i:=3) rfl rfl (by trivial) aC (bG pS hr (by decide) (by rfl) (aB (aA (i:=2)) aJ))) (aM (cR (bN (aCy hu) (eN (aA (i:=3)) aC) (b8 (aB aQ (aB aQ (aB aQ (aB aQ aJ))))) (by with_unfolding_all rfl)) (aM (lW (i:=3) rfl rfl (by trivial) aC aQ)) aY))) aY) (aM (ZZ (i:=3) rfl rfl (by trivial)))))))))))))))
theorem mC:cJ iU ["choice", "some"] (aU fM):=by refine ⟨rfl,rfl,rfl,?_,rfl,?_,?_⟩ <;> decide +kernel
theorem lD [KFrag] {P:Program} {w:World} {K:Frag} {mg:Str->Option Value} {base:Heap} {fad:Addr} {fd:FuncData} (hK:KFrag.K=K) (B:Bt mg)  (F:Fun K "_law_bad_shape" "_law_bad_shape" fM fad fd) (hm:mg "_law_bad_shape" = some (.ref fad)):dR P w K mg base 1 "_law_bad_shape" 2 cT:=by
 have sc:=mC;have nd:=sc.nd;refine gB (ps:=["choice", "some"]) (N:=iU) (k:=0) F hm (F.binds fun _ _ _ _ _ _ us hl=>match us,hl with|[_,_],_=>rfl) sc nF (by decide) (by decide) fun cdv A outer s H E hr=>?_
 have hu:=yZ hr;exact aF (cR (bN (dD hu) (aA (i:=0)) aC (bJ _)) (aM (bL (b8 (aB aQ aJ)))) aY) (aF (cR (bN (dD hu) (aA (i:=0)) aC (bJ _)) (aM (bL (aN aX (b8 (aB aQ aJ)) (cA hK (aA (i:=1)) (bT) (bD aC))))) aY) (aF (cR (bN (dD hu) (aA (i:=0)) aC (bJ _)) (aM (bL (aN aX (b8 (aB aQ aJ)) (cA hK (aA (i:=1)) (bT) (bD aC))))) aY) (aF (cR (bN (dD hu) (aA (i:=0)) aC (bJ _)) (aM (bL (aN aX (b8 (aB aQ aJ)) (cA hK (aA (i:=1)) (bT) (bD aC))))) aY) (aF (cR (bN (dD hu) (aA (i:=0)) aC (bJ _)) (aM (bL (aN aX (b8 (aB aQ aJ)) (cA hK (aA (i:=1)) (bT) (bD aC))))) aY) (aF (cR (bN (dD hu) (aA (i:=0)) aC (bJ _)) (aM (bL (aN aX (b8 (aB aQ aJ)) (cA hK (aA (i:=1)) (bT) (bD aC))))) aY) (aF (cR (bN (dD hu) (aA (i:=0)) aC (bJ _)) (aM (bL (aN aX (b8 (aB aQ aJ)) (cA hK (aA (i:=1)) (bT) (bD aC))))) aY) (aF (cR (bN (dD hu) (aA (i:=0)) aC (bJ _)) (aM (bL (aN aX (aN aX (aN aX (b8 (aB aQ aJ)) (cA hK (aA (i:=1)) (bT) (bD aC))) (b8 (aB aQ aJ))) (cA hK (aA (i:=1)) (bD aC) (bD aC))))) aY) (aF (cR (bN (dD hu) (aA (i:=0)) aC (bJ _)) (aM (bL (aN aX (aN aX (aN aX (b8 (aB aQ aJ)) (cA hK (aA (i:=1)) (bT) (bD aC))) (b8 (aB aQ aJ))) (cA hK (aA (i:=1)) (bD aC) (bD aC))))) aY) (aF (cR (bN (dD hu) (aA (i:=0)) aC (bJ _)) (aM (bL (aN aX (aN aX (b8 (aB aQ aJ)) (cA hK (aA (i:=1)) (bT) (bD aC))) (b8 (aB aQ aJ))))) aY) (aF (cR (bN (dD hu) (aA (i:=0)) aC (bJ _)) (aM (bL (aN aX (aN aX (aN aX (b8 (aB aQ aJ)) (cA hK (aA (i:=1)) (bT) (bD aC))) (b8 (aB aQ aJ))) (cA hK (aA (i:=1)) (bD aC) (bD aC))))) aY) (aF (cR (bN (dD hu) (aA (i:=0)) aC (bJ _)) (aM (bL (aN aX (aN aX (aN aX (aN aX (aN aX (b8 (aB aQ aJ)) (cA hK (aA (i:=1)) (bT) (bD aC))) (b8 (aB aQ aJ))) (cA hK (aA (i:=1)) (bD aC) (bD aC))) (b8 (aB aQ aJ))) (cA hK (aA (i:=1)) (bD aC) (bD aC))))) aY) (aF (cR (bN (dD hu) (aA (i:=0)) aC (bJ _)) (aM (bL (aN aX (b8 (aB aQ aJ)) (cA hK (aA (i:=1)) (bT) (bD aC))))) aY) (aF (cR (bN (dD hu) (aA (i:=0)) aC (bJ _)) (aM (bL (aN aX (b8 (aB aQ (aB aQ aJ))) (cA hK (aA (i:=1)) (bT) (bD aC))))) aY) (aM (bL (aDj (b8 (aB (b8 (aB aQ aJ)) (aB (aN aX (b8 (aB aQ aJ)) (cA hK (aA (i:=1)) (bT) (bD aC))) (aB (b8 (aB aQ aJ)) aJ)))) (aN dB (cZ (fZ hK) (by rfl) B.len gC (aB (eN (aA (i:=1)) aC) aJ)) aC) (fun _ _=>rfl)))))))))))))))))
theorem wD:cJ gG ["number", "many"] (aU gF):=by refine ⟨rfl,rfl,rfl,?_,rfl,?_,?_⟩ <;> decide +kernel
theorem uL [KFrag] {P:Program} {w:World} {K:Frag} {mg:Str->Option Value} {base:Heap} {fad:Addr} {fd:FuncData} (hK:KFrag.K=K) (B:Bt mg) (pS:dR P w K mg base 1 "_law_name" 1 dU) (F:Fun K "_law_names" "_law_names" gF fad fd) (hm:mg "_law_names" = some (.ref fad)):dR P w K mg base 2 "_law_names" 2 cU:=by
 have sc:=wD;have nd:=sc.nd;refine gB (ps:=["number", "many"]) (N:=gG) (k:=1) F hm (F.binds fun _ _ _ _ _ _ us hl=>match us,hl with|[_,_],_=>rfl) sc yE (by decide) (by decide) fun cdv A outer s H E hr=>?_
 have hu:=yZ hr;exact aM (bL (nY (ownN:=(["k"]:List Str)) (show j_ gG (aU gF) _ (["k"]:List Str) from by refine ⟨rfl,?_,?_,?_,?_,?_,?_⟩ <;> decide +kernel) (n:=2) (m:=1) rfl rfl rfl (NT (by rfl) B.range (aB (aA (i:=1)) aJ)) (vY 2) (fun _=>jA (i:=2) (show ((List.map (m9 (["k"]:List Str)) gG++(["k"]:List Str)):List Str).Nodup from by decide +kernel) rfl (by trivial)) (fun _=>bG pS hr (by decide) (by rfl) (aB (aN dB (aN aX (aN gK (aA (i:=0)) (aN aX (aN gK aC (aA (i:=2))) aC)) (aN gK (aA (i:=2)) aC)) aC) aJ)) (fun _=>rfl)))
theorem yJ:cJ sS ["number"] (aU jZ):=by refine ⟨rfl,rfl,rfl,?_,rfl,?_,?_⟩ <;> decide +kernel
theorem wF [KFrag] {P:Program} {w:World} {K:Frag} {mg:Str->Option Value} {base:Heap} {fad:Addr} {fd:FuncData} (hK:KFrag.K=K) (B:Bt mg) (pb:dR P w K mg base 2 "_law_names" 2 cU) (F:Fun K "_law_item" "_law_item" jZ fad fd) (hm:mg "_law_item" = some (.ref fad)):dR P w K mg base 3 "_law_item" 1 dW:=by
 have sc:=yJ;have nd:=sc.nd;refine gB (ps:=["number"]) (N:=sS) (k:=2) F hm (F.binds fun _ _ _ _ _ _ us hl=>match us,hl with|[_],_=>rfl) sc z8 (by decide) (by decide) fun cdv A outer s H E hr=>?_
 have hu:=yZ hr;exact aF (bZ (i:=1) (o:=false) rfl sc.nd rfl (by trivial) (aN dB (aA (i:=0)) aC)) (aF (bZ (i:=2) (o:=false) rfl sc.nd rfl (by trivial) (aN eG (aA (i:=0)) aC)) (aF (cR (bN (dD hu) (aA (i:=1)) aC (bJ _)) (aM (bL (aN aX (b8 (aB aQ aJ)) (bG pb hr (by decide) (by rfl) (aB (aA (i:=2)) (aB aC aJ)))))) aY) (aF (cR (bN (dD hu) (aA (i:=1)) aC (bJ _)) (aM (bL (aN aX (b8 (aB aQ aJ)) (bG pb hr (by decide) (by rfl) (aB (aA (i:=2)) (aB (aN aX aC (aN dB (aA (i:=2)) aC)) aJ)))))) aY) (aF (cR (bN (dD hu) (aA (i:=1)) aC (bJ _)) (aM (bL (aN aX (b8 (aB aQ aJ)) (bG pb hr (by decide) (by rfl) (aB (aA (i:=2)) (aB (aN aX aC (aN dB (aA (i:=2)) aC)) aJ)))))) aY) (aF (bZ (i:=3) (o:=false) rfl sc.nd rfl (by trivial) (aN aX aC (aN dB (aA (i:=2)) aC))) (aF (bZ (i:=4) (o:=false) rfl sc.nd rfl (by trivial) (bG pb hr (by decide) (by rfl) (aB (aA (i:=2)) (aB (aN aX (aN aX (aA (i:=3)) aC) (aN dB (aN eG (aA (i:=2)) aC) aC)) aJ)))) (aM (bL (aN aX (aN aX (aN aX (b8 (aB aQ aJ)) (cA hK (aA (i:=4)) (bT) (bD (aA (i:=3))))) (b8 (aB aQ aJ))) (cA hK (aA (i:=4)) (bD (aA (i:=3))) (bT)))))))))))
theorem BJ:cJ vB ["number"] (aU lZ):=by refine ⟨rfl,rfl,rfl,?_,rfl,?_,?_⟩ <;> decide +kernel
theorem yK [KFrag] {P:Program} {w:World} {K:Frag} {mg:Str->Option Value} {base:Heap} {fad:Addr} {fd:FuncData} (hK:KFrag.K=K) (B:Bt mg) (pb:dR P w K mg base 2 "_law_names" 2 cU) (tq:dR P w K mg base 1 "_law_bad_shape" 2 cT) (pT:dR P w K mg base 3 "_law_item" 1 dW) (tu:dR P w K mg base 2 "_law_bad_signs" 3 dM) (F:Fun K "_law_bad" "_law_bad" lZ fad fd) (hm:mg "_law_bad" = some (.ref fad)):dR P w K mg base 4 "_law_bad" 1 fD:=by
 have sc:=BJ;have nd:=sc.nd;refine gB (ps:=["number"]) (N:=vB) (k:=3) F hm (F.binds fun _ _ _ _ _ _ us hl=>match us,hl with|[_],_=>rfl) sc JS (by decide) (by decide) fun cdv A outer s H E hr=>?_
 have hu:=yZ hr;exact aF (bZ (i:=1) (o:=false) rfl sc.nd rfl (by trivial) (aN dB (aA (i:=0)) aC)) (aF (bZ (i:=2) (o:=false) rfl sc.nd rfl (by trivial) (aN eG (aA (i:=0)) aC)) (aF (cR (bN (ZL hu) (aA (i:=1)) aC (bJ _)) (aM (bL (bG tq hr (by decide) (by rfl) (aB (aA (i:=1)) (aB (bG pb hr (by decide) (by rfl) (aB (aA (i:=2)) (aB aC aJ))) aJ))))) aY) (aM (bL (bG tu hr (by decide) (by rfl) (aB (bG pT hr (by decide) (by rfl) (aB (aA (i:=2)) aJ)) (aB (aN xM (aA (i:=1)) aC) (aB (aN eG (aA (i:=2)) aC) aJ))))))))
theorem aDo:cJ aDn ["script"] (aU v_):=by refine ⟨rfl,rfl,rfl,?_,rfl,?_,?_⟩ <;> decide +kernel
theorem aDp [KFrag] {P:Program} {w:World} {K:Frag} {mg:Str->Option Value} {base:Heap} {fad:Addr} {fd:FuncData} (hK:KFrag.K=K) (B:Bt mg) (pd:dR P w K mg base 1 "_law_mixed" 2 cD) (pT:dR P w K mg base 3 "_law_item" 1 dW) (pH:dR P w K mg base 1 "_law_cell_at" 2 b_) (qY:dR P w K mg base 4 "_law_bad" 1 fD) (tw:dR P w K mg base 7 "_law_refused" 2 eF) (p9:aDi P w K mg base 1 "BadRow" ["row"]) (y1:aAk (fun c=>∃C,nsIn K mainGlobals c=some (some (.ref C))/\XA K C "row") ["BadRow"]) (F:Fun K "law" "law" v_ fad fd):uU P w K mg base CX0 8 fad fd ["script"] (spD JV 1):=by
 have sc:=aDo;have nd:=sc.nd;refine aCx (ps:=["script"]) (N:=aDn) (k:=7) F sc o_law (by decide) (by decide) fun cdv A outer s H E hr=>?_
 have hu:=yZ hr
 exact aF (bZ (i:=1) (o:=true) rfl sc.nd rfl (by trivial) (b8 aJ)) (aF (bZ (i:=2) (o:=false) rfl sc.nd rfl (by trivial) aC) (aF (aCw PassesOwn.never rfl (Z7 (by rfl) B.enum (aB (cA hK (aA (i:=0)) (bT) (bD aC)) aJ)) (Z3 _ (is:=[3,4]) (by decide)) (V5 rfl (nM (jA (i:=3) sc.nd rfl (by trivial)) (nM (jA (i:=4) sc.nd rfl (by trivial)) (KY)))) (aF (bZ (i:=5) (o:=false) rfl sc.nd rfl (by trivial) (bG pd hr (by decide) (by rfl) (aB (aA (i:=4)) (aB (aA (i:=3)) aJ)))) (aF (bZ (i:=6) (o:=false) rfl sc.nd rfl (by trivial) aQ) (aF (cR (bN (aF1 hu) (aN dB (aA (i:=5)) aC) aC (bJ _)) (aM (bZ (i:=6) (o:=false) rfl sc.nd rfl (by trivial) (xO PySem.F.plainAttrs_str PySem.F.slot_str_join PySem.F.type_str_join oY aQ (aB (bG pT hr (by decide) (by rfl) (aB (aN eG (aA (i:=5)) aC) aJ)) aJ) (fun _ _ _ _ _ h r=>kZ h r)))) aY) (aM (cR (bN (ZL hu) (cZ (fZ hK) (by rfl) B.len gC (aB (aA (i:=6)) aJ)) (aA (i:=2)) (bJ _)) (aF (WT (i:=1) rfl rfl (by trivial) (aA (i:=6))) (aM (bZ (i:=2) (o:=false) rfl sc.nd rfl (by trivial) (aN xM (aN xM (aA (i:=2)) (cZ (fZ hK) (by rfl) B.len gC (aB (aA (i:=6)) aJ))) aC)))) aY)))))) (aF (bZ (i:=7) (o:=false) rfl sc.nd rfl (by trivial) (bG pd hr (by decide) (by rfl) (aB (bG pH hr (by decide) (by rfl) (aB (aA (i:=0)) (aB aC aJ))) (aB aC aJ)))) (aF (bZ (i:=8) (o:=false) rfl sc.nd rfl (by trivial) (aN dB (bG pd hr (by decide) (by rfl) (aB (bG pH hr (by decide) (by rfl) (aB (aA (i:=0)) (aB aC aJ))) (aB aC aJ))) (aN aX (cZ (fZ hK) (by rfl) B.len gC (aB (aA (i:=1)) aJ)) aC))) (aF (DY (i:=1) rfl rfl (by trivial) (aA (i:=8)) (xO PySem.F.plainAttrs_str PySem.F.slot_str_join PySem.F.type_str_join oY aQ (aB (bG qY hr (by decide) (by rfl) (aB (aA (i:=7)) aJ)) aJ) (fun _ _ _ _ _ h r=>kZ h r))) (aF (bZ (i:=9) (o:=false) rfl sc.nd rfl (by trivial) (bG pd hr (by decide) (by rfl) (aB (bG pH hr (by decide) (by rfl) (aB (aA (i:=0)) (aB aC aJ))) (aB aC aJ)))) (aF (cR (bN (dD hu) (aN dB (aA (i:=9)) aC) aC (bJ _)) (aF (bZ (i:=10) (o:=false) rfl sc.nd rfl (by trivial) (aN aX (aN aX (aA (i:=8)) aC) (aN dB (aN eG (aA (i:=9)) aC) (aN xM (cZ (fZ hK) (by rfl) B.len gC (aB (aA (i:=1)) aJ)) (aA (i:=8)))))) (aM (DY (i:=1) rfl rfl (by trivial) (aA (i:=10)) (xO PySem.F.plainAttrs_str PySem.F.slot_str_join PySem.F.type_str_join oY aQ (aB (bG qY hr (by decide) (by rfl) (aB (bG pd hr (by decide) (by rfl) (aB (bG pH hr (by decide) (by rfl) (aB (aA (i:=0)) (aB aC aJ))) (aB aC aJ))) aJ)) aJ) (fun _ _ _ _ _ h r=>kZ h r))))) aY) (aF (bZ (i:=11) (o:=false) rfl sc.nd rfl (by trivial) (aAl p9 hK hr (by decide) rfl (by rfl) (aB (aN aX (aA (i:=8)) aC) aJ))) (aM (bL (DG (bG tw hr (by decide) (by rfl) (aB (xO PySem.F.plainAttrs_str PySem.F.slot_str_join PySem.F.type_str_join oY aQ (aB (aA (i:=1)) aJ) (fun _ _ _ _ _ h r=>kZ h r)) (aB (aN aX (aA (i:=8)) aC) aJ))) (M_ (M9 (dD hu) (v8 (i:=11) hK (lX y1) rfl (by trivial)) (aN aX (aA (i:=8)) aC) (bJ _))))))))))))))
theorem QR:cJ (["self", "row"]:List Str) ["self", "row"] (aU iB):=by refine ⟨rfl,rfl,rfl,?_,rfl,?_,?_⟩ <;> decide +kernel
theorem JZ [KFrag] {P:Program} {w:World} {K:Frag} {mg:Str->Option Value} {base:Heap} {fad C M:Addr} {fd:FuncData} (F:Fun K "__init__" "BadRow.__init__" iB fad fd) (x:XI K C fad) (m:mg "MillError" = some (.ref M)) (b1:specialIn K (.ref M) "__getattribute__" = some (some (.builtin "type.__getattribute__"))) (b2:readsIn K M (.type "type")=true) (b3:findCls K (.ref M) (.type "type") "__init__" = some (.val (.builtin "ValueError.__init__"))) (no:findIn K (.ref C) "row" = some none):uU P w K mg base CX0 1 fad fd ["self", "row"] (q_ C ["row"]):=
 have sc:=QR
 UL (M:=M) F sc rfl rfl fun cdv A outer s H E hr=>vK (vM (aAg x.cl (by rfl) m b1 b2 b3 (b7 (fV (i:=0) rfl (by trivial)) (b7 (fV (i:=1) rfl (by trivial)) fW)))) (vL (aAh x no (fV (i:=0) rfl (by trivial)) (fV (i:=1) rfl (by trivial))))
def AtN (K:Frag) (n:Str) (st:Stmt):Prop:=∃(f:Addr) (fd:FuncData),nsIn K mainGlobals n=some (some (.ref f))/\Fun K n n st f fd
theorem aFl {K:Frag} {n:Str} {st:Stmt} {f:Addr} {oc kV dc pm cd ct:Value} {od an:Option Addr} {sl:Array (Option Value)} (a:nsIn K mainGlobals n=some (some (.ref f))) (l:K.lookup f=some ⟨oc,od,.func (fnOf n n (jB st) (fC st) (aU st) .none kV dc pm an cd ct),sl⟩) (c:codeIn K cd n=true) (k:keepIn K (.ref f)=true):AtN K n st:=⟨f,_,a,CK (st:=st) l c k⟩
theorem aDq {l:OpenLaw} {w:World} {K:Frag} {h:Heap} {mg:Str->Option Value} {fa:Addr} (X:K.In h) (G:h.Ns mainGlobals mg) (hfa:mg "law" = some (.ref fa)) (a0:AtN K "_law_mixed" jF) (a1:AtN K "_law_cell_at" gM) (a2:AtN K "are_small_letters" dF) (a3:AtN K "is_name" sO) (a4:AtN K "are_names" g_) (a5:AtN K "rule_row" lY) (a6:AtN K "row_of" v9) (a7:AtN K "read" QL) (a8:AtN K "_law_refused" gP) (a9:AtN K "_law_name" h_) (a10:AtN K "_law_bad_signs" fL) (a11:AtN K "_law_bad_shape" fM) (a12:AtN K "_law_names" gF) (a13:AtN K "_law_item" jZ) (a14:AtN K "_law_bad" lZ)
  {f15:Addr} {oc15 kV15 dc15 pm15 cd15 ct15:Value} {od15 an15:Option Addr} {sl15:Array (Option Value)} (a15:nsIn K mainGlobals "law" = some (some (.ref f15))) (l15:K.lookup f15=some ⟨oc15,od15,.func (fnOf "law" "law" (jB v_) (fC v_) (aU v_) .none kV15 dc15 pm15 an15 cd15 ct15),sl15⟩) (c15:codeIn K cd15 "law" = true) (k15:keepIn K (.ref f15)=true) (pU:nsIn K mainGlobals "len" = some none) (pV:nsIn K mainGlobals "min" = some none) (pW:nsIn K mainGlobals "max" = some none) (pX:nsIn K mainGlobals "list" = some none) (pY:nsIn K mainGlobals "tuple" = some none) (pZ:nsIn K mainGlobals "sorted" = some none) (qa:nsIn K mainGlobals "range" = some none) (qc:nsIn K mainGlobals "isinstance" = some none) (qe:nsIn K mainGlobals "int" = some none) (qf:nsIn K mainGlobals "bool" = some none) (qg:nsIn K mainGlobals "str" = some none) (qh:nsIn K mainGlobals "dict" = some none) (qi:nsIn K mainGlobals "all" = some none) (qj:nsIn K mainGlobals "enumerate" = some none) (qk:nsIn K mainGlobals "sum" = some none) (ql:nsIn K mainGlobals "zip" = some none) (qm:nsIn K mainGlobals "abs" = some none) (qo:nsIn K mainGlobals "reversed" = some none) {pe:Addr} (pI:nsIn K mainGlobals "MillError" = some (some (.ref pe))) {qZ:Addr} (qp:nsIn K mainGlobals "NoTerm" = some (some (.ref qZ))) {r6:Addr} (qr:nsIn K mainGlobals "NoRule" = some (some (.ref r6))) {r8:Addr} (qt:nsIn K mainGlobals "NoPair" = some (some (.ref r8))) {r9:Addr} (qu:nsIn K mainGlobals "NoNet" = some (some (.ref r9))) {rf:Addr} (qv:nsIn K mainGlobals "NoName" = some (some (.ref rf))) {rg:Addr} (qw:nsIn K mainGlobals "NoEnd" = some (some (.ref rg))) {rh:Addr} (qx:nsIn K mainGlobals "Lacking" = some (some (.ref rh))) {rq:Addr} (qy:nsIn K mainGlobals "BadKind" = some (some (.ref rq))) {rz:Addr} (qz:nsIn K mainGlobals "Unfit" = some (some (.ref rz))) {rA:Addr} (qA:nsIn K mainGlobals "Uneven" = some (some (.ref rA))) {rB:Addr} (qB:nsIn K mainGlobals "TwoRules" = some (some (.ref rB))) {rC:Addr} (qD:nsIn K mainGlobals "Twice" = some (some (.ref rC))) {rD:Addr} (qE:nsIn K mainGlobals "Stuck" = some (some (.ref rD))) {rE:Addr} (qF:nsIn K mainGlobals "Spent" = some (some (.ref rE))) {rF:Addr} (qG:nsIn K mainGlobals "NoValue" = some (some (.ref rF))) {p5:Addr} (p6:nsIn K mainGlobals "BadRow" = some (some (.ref p5))) {pf:Addr} {tz tB tD tE rG tF:Value} {tG tH:Option Addr} {tI:Array (Option Value)} (qH:nsIn K mainGlobals "ValueError" = some none) (qI:exmOne K (.ref p5) (.ref pe)=some true) (qJ:isClsIn K p5=true) (qK:findIn K (.ref p5) "__getattribute__" = some (some (.builtin "BaseException.__getattribute__"))) (qL:findIn K (.ref p5) "__getattr__" = some none) (qM:findIn K (.ref p5) "__class__" = some (some (.builtin "object.__class__"))) (qN:specialIn K (.builtin "object.__class__") "__get__" = some (some (.builtin "getset_descriptor.__get__"))) (qO:takesIn K (.builtin "object.__class__")=some true) (pg:mroIn K p5 (.type "object")=some true) (qP:mroIn K p5 (.type "BaseException")=some true) (qQ:kitAny K (.ref p5) [.ref rq,.ref rh,.ref rg,.ref rf,.ref r9,.ref r8,.ref r6,.ref qZ]=some false) (qR:kitAny K (.ref p5) [.ref rF,.ref rE,.ref rD,.ref rC,.ref rB,.ref rA,.ref rz]=some false) (qS:kitOne K (.ref p5) (.ref p5)=some true) (qT:kitOne K (.ref p5) (.type "ValueError")=some true) (pc:hasDictIn K p5=true) (p8:findIn K (.ref p5) "row" = some none) (pJ:exC K p5=true) (pK:findIn K (.ref p5) "__init__" = some (some (.ref pf))) (pL:isFn K (.ref pf)=true) (pM:keepIn K (.ref p5)=true) (pN:findIn K (.ref p5) "__setattr__" = some (some (.builtin "object.__setattr__"))) (pO:K.lookup pf=some ⟨tz,tG,.func (fnOf "__init__" "BadRow.__init__" (jB iB) (fC iB) (aU iB) .none tB tD tE tH rG tF),tI⟩) (pP:codeIn K rG "BadRow.__init__" = true) (pQ:keepIn K (.ref pf)=true) (qU:specialIn K (.ref pe) "__getattribute__" = some (some (.builtin "type.__getattribute__"))) (qV:readsIn K pe (.type "type")=true) (qW:findCls K (.ref pe) (.type "type") "__init__" = some (.val (.builtin "ValueError.__init__"))) :
  ∃fd:FuncData,(∀(s:Shared) (v:Value),BindsTo s fd ⟨[v],[]⟩ [("script",v)])/\∀base:Heap,K.In base->base.Ns mainGlobals mg->uU l.prog w K mg base CX0 8 fa fd ["script"] (@spD ⟨K⟩ JV 1):=by
 have e:=hfa.symm.trans (mg_of X G a15);cases e
 letI:KFrag:=⟨K⟩
 have p7:XC K p5:=⟨qJ,qK,qL,qM,qN,qO,pg,qP⟩
 have Y:=fun {n:Str} {v:Value}=>mg_of (n:=n) (v:=v) X G
 have Z:=fun {n:Str}=>mg_none_of (n:=n) X G
 obtain ⟨f0,_,a0,F0⟩:=a0;obtain ⟨f1,_,a1,F1⟩:=a1;obtain ⟨f2,_,a2,F2⟩:=a2;obtain ⟨f3,_,a3,F3⟩:=a3;obtain ⟨f4,_,a4,F4⟩:=a4;obtain ⟨f5,_,a5,F5⟩:=a5;obtain ⟨f6,_,a6,F6⟩:=a6;obtain ⟨f7,_,a7,F7⟩:=a7;obtain ⟨f8,_,a8,F8⟩:=a8;obtain ⟨f9,_,a9,F9⟩:=a9;obtain ⟨f10,_,a10,F10⟩:=a10;obtain ⟨f11,_,a11,F11⟩:=a11;obtain ⟨f12,_,a12,F12⟩:=a12;obtain ⟨f13,_,a13,F13⟩:=a13;obtain ⟨f14,_,a14,F14⟩:=a14;have B:Bt mg:=⟨Z pU,Z pV,Z pW,Z pX,Z pY,Z pZ,Z qa,Z qc,Z qe,Z qf,Z qg,Z qh,Z qi,Z qj,Z qk,Z ql,Z qm,Z qo⟩
 refine ⟨fnOf "law" "law" (jB v_) (fC v_) (aU v_) .none kV15 dc15 pm15 an15 cd15 ct15,fun s v=>.of_eq rfl,fun base _ _=>?_⟩;have tJ:=uK (P:=l.prog) (w:=w) (base:=base) rfl B  F0 (Y a0);have tK:=nG (P:=l.prog) (w:=w) (base:=base) rfl B  F1 (Y a1);have tL:=jG (P:=l.prog) (w:=w) (base:=base) rfl B  F2 (Y a2);have tM:=z_ (P:=l.prog) (w:=w) (base:=base) rfl B tL F3 (Y a3);have rH:=wB (P:=l.prog) (w:=w) (base:=base) rfl B tM F4 (Y a4);have tO:=yH (P:=l.prog) (w:=w) (base:=base) rfl B rH F5 (Y a5);have tP:=JX (P:=l.prog) (w:=w) (base:=base) rfl B tO rH F6 (Y a6);have p9:aDi l.prog w K mg base 1 "BadRow" ["row"]:=⟨p5,pf,_,_,p6,Y p6,⟨pJ,pK,pL,pM,pN,pg⟩,JZ (CK (st:=iB) pO pP pQ) ⟨pJ,pK,pL,pM,pN,pg⟩ (Y pI) qU qV qW p8,(CK (st:=iB) pO pP pQ).binds fun _ _ _ _ _ _ us hl=>match us,hl with|[_,_],_=>rfl,by decide⟩
 have pi:=U3 (P:=l.prog) (w:=w) (base:=base) rfl B tP p9 F7 (Y a7);have tV:=pi.cal;have tQ:=nH (P:=l.prog) (w:=w) (base:=base) rfl B  pi (Y pI) (Y qp) (Y qr) (Y qt) (Y qu) (Y qv) (Y qw) (Y qx) (Y qy) (Y qz) (Y qA) (Y qB) (Y qD) (Y qE) (Y qF) (Y qG) (Y p6) (mg_none_of X G qH) ⟨⟨_,p6,qI⟩,trivial⟩ ⟨⟨_,p6,p7,qQ⟩,trivial⟩ ⟨⟨_,p6,p7,qR⟩,trivial⟩ ⟨⟨_,p6,p7,qS⟩,trivial⟩ ⟨⟨_,p6,p7,qT⟩,trivial⟩ ⟨⟨_,p6,p7,pc,p8⟩,trivial⟩ ⟨⟨_,p6,p7,pc,p8⟩,trivial⟩ ⟨⟨_,p6,p7,pc,p8⟩,trivial⟩ F8 (Y a8);have rJ:=wC (P:=l.prog) (w:=w) (base:=base) rfl B  F9 (Y a9);have tR:=lC (P:=l.prog) (w:=w) (base:=base) rfl B rJ F10 (Y a10);have tT:=lD (P:=l.prog) (w:=w) (base:=base) rfl B  F11 (Y a11);have rK:=uL (P:=l.prog) (w:=w) (base:=base) rfl B rJ F12 (Y a12);have rL:=wF (P:=l.prog) (w:=w) (base:=base) rfl B rK F13 (Y a13);have tU:=yK (P:=l.prog) (w:=w) (base:=base) rfl B rK tT rL tR F14 (Y a14);exact aDp rfl B tJ rL tK tU tQ p9 ⟨⟨_,p6,p7,pc,p8⟩,trivial⟩ (CK (st:=v_) l15 c15 k15)
theorem walk {l:OpenLaw} {q:Program} {loose:List Str} {XP:(Str->Option Value)->Heap->Prop} {YP:World->Heap->Prop} {d:DefRec} {K:Params->Frag} (main:∀ns:List Int,ns.length<=63->JV [.scr (ns.map D.int)]=.ok (.bl true)) (hn:l.most=some 63) (hdf:d.params.defaults=[])
  (hY:∀(w:World) (h:Heap),YP w h->(K w.params).In h)
  (F:∀(w:World) (mg:Str->Option Value) (fa:Addr) (h:Heap),(K w.params).In h->h.Ns mainGlobals mg->mg d.name=some (.ref fa)->
   ∃fd:FuncData,(∀(s:Shared) (u:Value),BindsTo s fd ⟨[u],[]⟩ [("script",u)])/\∀base:Heap,(K w.params).In base->base.Ns mainGlobals mg->uU l.prog w (K w.params) mg base CX0 8 fa fd ["script"] (@spD ⟨K w.params⟩ JV 1)) :
  WalkO q loose XP YP l.row.toRowW d [] (fun f vs=>PySem.call f vs):=
 L2.Y5 (n:=63) (k:=8) (x := "script") (CX:=fun _=>CX0) (sp:=fun w=>@spD ⟨K w.params⟩ JV 1) hn (by decide) hdf ⟨rfl,by decide,by decide⟩ hY F (fun w H a ns hl hO hS=>N6 main hl hO hS) fun _ _ _ _ _ z=>z
end Lk43
end
namespace Lk43
open PySem L2 Mi
theorem GF {c:Nat}:∀{a b r s:List Nat},c∉a->c∉b->a++c::r=b++c::s->a=b/\r=s
 | [],[],r,s,_,_,h=>by simpa using h
 | [],y::b,r,s,_,hb,h=>by
  injection h with h1 h2
  exact absurd (by rw [h1];exact List.mem_cons_self ..) hb
 | x::a,[],r,s,ha,_,h=>by
  injection h with h1 h2
  exact absurd (by rw [<-h1];exact List.mem_cons_self ..) ha
 | x::a,y::b,r,s,ha,hb,h=>by
  injection h with h1 h2
  obtain ⟨h3,h4⟩:=GF (fun z=>ha (List.mem_cons_of_mem _ z)) (fun z=>hb (List.mem_cons_of_mem _ z)) h2;exact ⟨by rw [h1,h3],h4⟩
theorem gY (c:Nat) (x y:Str) (r:List Str):(Str.join ⟨#[c]⟩ (x::y::r)).cps.toList=x.cps.toList++c::(Str.join ⟨#[c]⟩ (y::r)).cps.toList:=by
 show ((x.cps++#[c])++(Str.join ⟨#[c]⟩ (y::r)).cps).toList=_;simp
theorem QT {x y:Str} (h:x.cps.toList=y.cps.toList):x=y:=Str.ext' (Array.toList_inj.mp h)
theorem GJ {c:Nat}:∀{ps qs:List Str},(∀p∈ps,c∉p.cps.toList)->(∀q∈qs,c∉q.cps.toList)->ps≠[]->qs≠[]->(Str.join ⟨#[c]⟩ ps).cps.toList=(Str.join ⟨#[c]⟩ qs).cps.toList->ps=qs
 | [],_,_,_,h,_,_=>absurd rfl h
 | _,[],_,_,_,h,_=>absurd rfl h
 | [p],[q],_,_,_,_,h=>by rw [QT (x:=p) (y:=q) h]
 | [p],q::q2::qs,hp,_,_,_,h=>by
  rw [gY] at h;have:c∈p.cps.toList:=by
   rw [show p.cps.toList=_ from h];exact List.mem_append_right _ (List.mem_cons_self ..)
  exact absurd this (hp p (List.mem_cons_self ..))
 | p::p2::ps,[q],_,hq,_,_,h=>by
  rw [gY] at h;have:c∈q.cps.toList:=by
   rw [show q.cps.toList=_ from h.symm];exact List.mem_append_right _ (List.mem_cons_self ..)
  exact absurd this (hq q (List.mem_cons_self ..))
 | p::p2::ps,q::q2::qs,hp,hq,_,_,h=>by
  rw [gY,gY] at h;obtain ⟨h1,h2⟩:=GF (hp p (List.mem_cons_self ..)) (hq q (List.mem_cons_self ..)) h;have:=GJ (ps:=p2::ps) (qs:=q2::qs) (fun z hz=>hp z (List.mem_cons_of_mem _ hz)) (fun z hz=>hq z (List.mem_cons_of_mem _ hz)) (by simp) (by simp) h2;rw [QT h1,this]
theorem U4 (x:Str) (c:Nat):Txt.split x ⟨#[c]⟩≠[]:=fun h=>by
 have h1:=StrLaws.join_split x ⟨#[c]⟩;rw [h] at h1;have hx:x.length=0:=by rw [<-h1];rfl
 unfold Txt.split at h;rw [if_pos (by rw [Bool.or_eq_true,decide_eq_true_eq];left;rw [hx];exact Nat.zero_lt_one)] at h;cases h
theorem mD {c:Nat} {ts:List Str} (hn:ts≠[]) (hf:∀t∈ts,c∉t.cps.toList):Txt.split (Txt.join ⟨#[c]⟩ ts) ⟨#[c]⟩=ts:=by
 have e:Txt.join ⟨#[c]⟩ ts=Str.join ⟨#[c]⟩ ts:=StrLaws.glued_eq_join _ _;rw [e];exact GJ (StrLaws.split_free _ c) hf (U4 _ c) hn (by rw [StrLaws.join_split])
theorem wG (c:Nat) (B:Nat):∀ts:List Str,(∀t∈ts,t.length<=B)->(Txt.join ⟨#[c]⟩ ts).length<=ts.length*(B+1):=by
 intro ts h;have e:Txt.join ⟨#[c]⟩ ts=Str.join ⟨#[c]⟩ ts:=StrLaws.glued_eq_join _ _;rw [e];have h1:=StrLaws.join_length_le ⟨#[c]⟩ ts;have h2:(ts.map (·.length)).sum<=ts.length*B:=by
  clear h1 e;induction ts with
  | nil=>simp
  | cons t ts ih=>
   have a:=h t (List.mem_cons_self ..);have b:=ih fun x hx=>h x (List.mem_cons_of_mem _ hx)
   simp only [List.map_cons,List.sum_cons,List.length_cons,Nat.succ_mul];lia
 have h3:(⟨#[c]⟩:Str).length=1:=rfl;rw [h3] at h1;have:ts.length*(B+1)=ts.length*B+ts.length*1:=by rw [Nat.mul_add]
 lia
theorem GK {c d:Nat}:∀{ts:List Str},d∈(Txt.join ⟨#[c]⟩ ts).cps.toList->d=c\/∃t∈ts,d∈t.cps.toList:=by
 intro ts;have e:Txt.join ⟨#[c]⟩ ts=Str.join ⟨#[c]⟩ ts:=StrLaws.glued_eq_join _ _;rw [e];clear e;induction ts with
 | nil=>intro h;cases h
 | cons t ts ih=>
  intro h;cases ts with
  | nil=>exact .inr ⟨t,List.mem_cons_self ..,h⟩
  | cons u ts=>
   rw [gY] at h;rcases List.mem_append.mp h with h|h
   ·exact .inr ⟨t,List.mem_cons_self ..,h⟩
   ·rcases List.mem_cons.mp h with h|h
    ·exact .inl h
    ·rcases ih h with h|⟨v,hv,h⟩
     ·exact .inl h
     ·exact .inr ⟨v,List.mem_cons_of_mem _ hv,h⟩
theorem sW {c B:Nat} {ts:List Str} (h:∀t∈ts,t.length<=B) (hb:ts.length*B+ts.length<=1000000):JoinOk ⟨#[c]⟩ ts=true:=by
 unfold JoinOk;rw [Bool.not_eq_true'];exact StrLaws.joinFits h (by rw [show (⟨#[c]⟩:Str).length=1 from rfl,Nat.mul_one];lia)
theorem yL:∀ts:List Str,oX (ts.map D.str)=some ts
 | []=>rfl
 | t::ts=>by
  show (oX (ts.map D.str)).map (t::·)=_;rw [yL ts];rfl
noncomputable def codeOk (c:Nat):Bool:=decide (97<=c)&&decide (c<=122)
def cF (x:Str):Bool:=decide (1<=x.length)&&decide (x.length<=8)&&x.cps.toList.all codeOk
noncomputable def one (c:Nat):Str:=⟨#[c]⟩
theorem GP (a b:Nat):([a]<[b])↔a<b:=by
 rw [List.cons_lt_cons_iff];simp
theorem aG5 (c:Nat):bO (.ord .le) (.str "a") (.str (one c))=.ok (.bl (decide (97<=c))):=by
 refine zT rfl rfl ?_;show some (!decide ((one c).cps.toList<("a" : Str).cps.toList))=_;rw [show ("a" : Str).cps.toList=[97] from rfl,show (one c).cps.toList=[c] from rfl]
 congr 1
 by_cases h:c<97
 ·rw [decide_eq_true ((GP c 97).mpr h),decide_eq_false (by lia)];rfl
 ·rw [decide_eq_false (fun z=>h ((GP c 97).mp z)),decide_eq_true (by lia)];rfl
theorem aH1 (c:Nat):bO (.ord .le) (.str (one c)) (.str "z")=.ok (.bl (decide (c<=122))):=by
 refine zT rfl rfl ?_;show some (!decide (("z" : Str).cps.toList<(one c).cps.toList))=_;rw [show ("z" : Str).cps.toList=[122] from rfl,show (one c).cps.toList=[c] from rfl]
 congr 1
 by_cases h:122<c
 ·rw [decide_eq_true ((GP 122 c).mpr h),decide_eq_false (by lia)];rfl
 ·rw [decide_eq_false (fun z=>h ((GP 122 c).mp z)),decide_eq_true (by lia)];rfl
theorem lE {α:Type} (f:α->Bool):∀xs:List α,kY (xs.map fun x=>D.bl (f x))=some (xs.map f)
 | []=>rfl
 | x::xs=>by
  show (kY (xs.map fun x=>D.bl (f x))).map (f x::·)=_;rw [lE f xs];rfl
theorem call_v {n m:Nat} {f:FS} {ds:List D} {d:D} (h:f (ds++List.replicate (m-n) D.uD)=.ok (.rt d)):fnS n m f ds=.ok d:=by
 show (do let r <- f (ds++List.replicate (m-n) D.uD);aG2 r)=_;rw [h];rfl
theorem U5 (x:Str) (hx:x.length<=lim):dC 1 dG [.str x]=.ok (.bl (x.cps.toList.all codeOk)):=by
 refine (cC rfl).trans (call_v ?_);have hi:lU dN false [D.str x]=.ok (jR x,true):=by
  show (do let d <- fU 0 [D.str x];let xs <- u5 d;pure (xs,false||d.pure))=_;show (do let xs <- (if decide (x.length<=lim) then Res.ok (jR x) else .bad);(pure (xs,true):Res (List D×Bool)))=_;rw [if_pos (decide_eq_true hx)];rfl
 have hl:(jR x).length<=lim:=by
  unfold jR;rw [List.length_map];exact hx
 have hf:gQ (mZ 1 M5 lL (bCh (bO (.ord .le)) (bO (.ord .le)) (bC (.str "a")) cH (bC (.str "z"))) true [D.str x]) [] (jR x)=.ok (x.cps.toList.map fun c=>D.bl (codeOk c)):=by
  show gQ _ [] (x.cps.toList.map fun c=>D.str (one c))=_;rw [xQ _ (fun c=>D.str (one c)) (fun _=>true) (fun c=>D.bl (codeOk c))]
  ·rw [List.filter_eq_self.mpr (fun _ _=>rfl)];rfl
  ·intro acc c;refine (OJ (b:=true) (y:=.bl (codeOk c)) rfl rfl fun _=>⟨?_,rfl⟩);show bCh (bO (.ord .le)) (bO (.ord .le)) (bC (.str "a")) cH (bC (.str "z")) [D.str x,.str (one c)]=_;by_cases h:97<=c
   ·refine aD1 (x:=.str "a") (y:=.str (one c)) (z:=.str "z") rfl rfl ((aG5 c).trans (by rw [decide_eq_true h])) rfl ((aH1 c).trans ?_);unfold codeOk;rw [decide_eq_true h,Bool.true_and]
   ·refine (aF8 (x:=.str "a") (y:=.str (one c)) rfl rfl ((aG5 c).trans (by rw [decide_eq_false h]))).trans ?_;unfold codeOk;rw [decide_eq_false h,Bool.false_and]
 refine cX (d:=.bl (x.cps.toList.all codeOk)) (a_ (xs:=[.lst (x.cps.toList.map fun c=>D.bl (codeOk c))]) (aG (o8 hi hl hf) rfl) ?_) rfl;show (match kY (x.cps.toList.map fun c=>D.bl (codeOk c)) with|some bs=>Res.ok (D.bl (bs.all id))|none=>.bad)=_;rw [lE];show Res.ok (D.bl ((x.cps.toList.map codeOk).all id))=_;rw [List.all_map];rfl
theorem GQ {a b:FE} {ρ:List D} {r:Res D} (h1:a ρ=.ok (.bl true)) (h2:b ρ=r):uC a b ρ=r:=by
 unfold uC;rw [h1];exact h2
theorem XN {a b:FE} {ρ:List D} (h1:a ρ=.ok (.bl false)):uC a b ρ=.ok (.bl false):=by
 unfold uC;rw [h1];rfl
theorem len_str (x:Str) (hx:x.length<=lim):iZ [.str x]=.ok (.int x.length):=by
 show (if decide (x.length<=lim) then Res.ok (D.int x.length) else .bad)=_;rw [if_pos (decide_eq_true hx)]
theorem eQ (o:gJ) (a b:Int):bO (.ord o) (.int a) (.int b)=.ok (.bl (o.int a b)):=zT rfl rfl rfl
theorem QV (x:Str) (hx:x.length<=lim):dC 1 gW [.str x]=.ok (.bl (cF x)):=by
 refine (cC rfl).trans (call_v ?_);have hlen:aW iZ (aD dN aZ) [D.str x]=.ok (.int x.length):=a_ (aG rfl rfl) (len_str x hx);refine cX (d:=.bl (cF x)) ?_ rfl;unfold cF;by_cases h1:1<=x.length
 ·by_cases h2:x.length<=8
  ·refine GQ (aD1 (x:=.int 1) (z:=.int 8) rfl hlen ((eQ .le 1 x.length).trans ?_) rfl ((eQ .le x.length 8).trans ?_)) (a_ (aG rfl rfl) ((U5 x hx).trans ?_))
   ·rw [show gJ.le.int 1 x.length=true from decide_eq_true (by lia)]
   ·rw [show gJ.le.int x.length 8=true from decide_eq_true (by lia)]
   ·rw [decide_eq_true h1,decide_eq_true h2];rfl
  ·refine (XN (aD1 (x:=.int 1) (z:=.int 8) rfl hlen ((eQ .le 1 x.length).trans ?_) rfl ((eQ .le x.length 8).trans ?_))).trans ?_
   ·rw [show gJ.le.int 1 x.length=true from decide_eq_true (by lia)]
   ·rw [show gJ.le.int x.length 8=false from decide_eq_false (by lia)]
   ·rw [decide_eq_false h2,Bool.and_false,Bool.false_and]
 ·refine (XN (aF8 (x:=.int 1) rfl hlen ((eQ .le 1 x.length).trans ?_))).trans ?_
  ·rw [show gJ.le.int 1 x.length=false from decide_eq_false (by lia)]
  ·rw [decide_eq_false h1,Bool.false_and,Bool.false_and]
theorem uM (a b:Int):uF (.int a) (.int b)=aP .mul (.int a) (.int b):=rfl
theorem GR (c k:Int) (h0:0<=k) (h1:k<=1000):∃n:Int,0<=n/\n<998244353/\dC 2 cD [.int c,.int k]=.ok (.int n):=by
 have hm1:=(uM c 40503).trans (mO c 40503 (k_ _ (by lia) (by lia)));have hm2:=(uM (k+5) (k+2)).trans (mO (k+5) (k+2) (k_ _ (by lia) (by lia)));have hm3:=(uM ((k+5)*(k+2)) 265443).trans (mO ((k+5)*(k+2)) 265443 (k_ _ (by lia) (by lia)));have hd1:=cY (c*40503+(k+5)*(k+2)*265443+37) 999999937 (by lia);have b0:=Int.emod_nonneg (c*40503+(k+5)*(k+2)*265443+37) (show (999999937:Int)≠0 by lia);have b1:=Int.emod_lt_of_pos (c*40503+(k+5)*(k+2)*265443+37) (show (0:Int)<999999937 by lia);generalize (c*40503+(k+5)*(k+2)*265443+37) % 999999937=m at hd1 b0 b1;have sm:j7 m=true:=by
  simp only [j7,Bool.and_eq_true,decide_eq_true_eq];lia
 have hm4:=(uM m m).trans (mO m m sm);have hm5:=(uM 97 m).trans (mO 97 m sm);have hd2:=cY (m*m+97*m) 998244353 (by lia);refine ⟨(m*m+97*m) % 998244353,Int.emod_nonneg _ (by lia),Int.emod_lt_of_pos _ (by lia),(cC rfl).trans (call_v ?_)⟩;refine aK (ρ':=[.int c,.int k,.int m]) (bW (i:=2) (aL (aL (aL (aL rfl rfl hm1) (aL (aL (aL rfl rfl (eX k 5)) (aL rfl rfl (eX k 2)) hm2) rfl hm3) (eX _ _)) rfl (eX _ _)) rfl hd1)) ?_;exact cX (d:=.int ((m*m+97*m) % 998244353)) (aL (aL (aL rfl rfl hm4) (aL rfl rfl hm5) (eX _ _)) rfl hd2) rfl
def Nm (w:Str):Prop:=1<=w.length/\w.length<=8/\∀c∈w.cps.toList,97<=c/\c<=122
theorem U6 {w:Str} (h:Nm w):cF w=true:=by
 obtain ⟨h1,h2,h3⟩:=h;unfold cF;rw [decide_eq_true h1,decide_eq_true h2,Bool.true_and,Bool.true_and,List.all_eq_true];intro c hc;obtain ⟨a,b⟩:=h3 c hc;unfold codeOk;rw [decide_eq_true a,decide_eq_true b];rfl
theorem QW {w:Str} (h:Nm w):w.length<=lim:=by
 rw [cO];have:=h.2.1;lia
theorem vC {a:FE} {ρ:List D} {xs:List D} (h1:a ρ=.ok (.tup xs)):lU a false ρ=.ok (xs,D.bU xs):=by
 unfold lU;rw [h1];show Res.ok (xs,false||(D.tup xs).pure)=_;rw [D.pure,Bool.false_or]
theorem wH {α:Type} (g:List D->D->Res (List D)) (d y:α->D):∀(xs:List α) (acc:List D),(∀a∈xs,∀acc,g acc (d a)=.ok (acc++[y a]))->gQ g acc (xs.map d)=.ok (acc++xs.map y)
 | [],acc,_=>by simp [gQ]
 | x::xs,acc,h=>by
  rw [List.map_cons,gQ,h x (List.mem_cons_self ..)];show gQ g _ _=_;rw [wH g d y xs _ fun a ha=>h a (List.mem_cons_of_mem _ ha)];simp
theorem wI {n:Nat} {t:D->Res (List D)} {f:FE} {k:Bool} {ρ acc bs:List D} {x y:D} (hρ:ρ.length=n) (ht:t x=.ok bs) (h2:f (ρ++bs)=.ok y) (h3:(k||y.pure)=true):mZ n t lL f k ρ acc x=.ok (acc++[y]):=by
 unfold mZ;rw [ht,Res.aO,xP hρ,show lL (ρ++bs)=.ok true from rfl,Res.aO,if_pos rfl,h2,Res.aO,if_pos h3];rfl
theorem sX {ws:List Str} (h:∀w∈ws,Nm w) (hl:ws.length<=100):dC 1 cW [.tup (ws.map D.str)]=.ok (.bl true):=by
 refine (cC rfl).trans (call_v ?_);have hf:gQ (mZ 1 M5 lL (aW (dC 1 gW) (aD cH aZ)) true [D.tup (ws.map D.str)]) [] (ws.map D.str)=.ok (ws.map fun _=>D.bl true):=
  wH _ D.str (fun _=>D.bl true) ws [] fun w hw acc=>wI (n:=1) (bs:=[.str w]) rfl rfl (a_ (xs:=[.str w]) (aG rfl rfl) ((QV w (QW (h w hw))).trans (by rw [U6 (h w hw)]))) rfl
 refine cX (d:=.bl true) (a_ (xs:=[.lst (ws.map fun _=>D.bl true)]) (aG (o8 (vC rfl) (by rw [List.length_map,cO];lia) hf) rfl) ?_) rfl;show (match kY (ws.map fun _=>D.bl true) with|some bs=>Res.ok (D.bl (bs.all id))|none=>.bad)=_;rw [lE (fun _=>true)];show Res.ok (D.bl ((ws.map fun _=>true).all id))=_;rw [List.all_map]
 congr 2
 rw [List.all_eq_true];intro x _;rfl
theorem dZ:∀L:List Str,D.bU (L.map D.str)=true
 | []=>rfl
 | x::L=>by
  show ((D.str x).pure&&D.bU (L.map D.str))=true;rw [dZ L];rfl
theorem fP {f g:FS} {ρ:List D} {d:D} (h:f ρ=.ok (.rt d)):bI f g ρ=.ok (.rt d):=by
 unfold bI;rw [h];rfl
theorem uN {f:D->List D->Res D} {o:FE} {a:FA} {ρ xs:List D} {x d:D} (h1:o ρ=.ok x) (h2:a ρ=.ok xs) (h3:f x xs=.ok d):bM f o a ρ=.ok d:=by
 unfold bM;rw [h1,Res.aO,h2,Res.aO,h3]
theorem lF {sep:Str} {ts:List Str} (h:JoinOk sep ts=true):joinM (.str sep) [.lst (ts.map D.str)]=.ok (.str (Txt.join sep ts)):=by
 show (match oX (ts.map D.str) with|some ts=>if JoinOk sep ts then Res.ok (D.str (Txt.join sep ts)) else .bad|none=>.bad)=_;rw [yL];show (if JoinOk sep ts=true then _ else _)=_;rw [if_pos h]
noncomputable def abc:Str := "abcdefghijklmnopqrstuvwxyz"
theorem QX:abc.cps.toList=(List.range 26).map (·+97):=by decide +kernel
theorem aAo (i:Int) (h0:0<=i) (h1:i<26):∃c:Nat,97<=c/\c<=122/\getD (.str abc) (.int i)=.ok (.str (one c)):=by
 refine ⟨i.toNat+97,by lia,by lia,?_⟩;show (if decide (abc.length<=lim) then Res.ofOpt (((ixD abc.cps.toList.length i).bind fun j=>abc.cps.toList[j]?).map fun c=>D.str ⟨#[c]⟩) else .bad)=_;rw [if_pos (decide_eq_true (by rw [cO];exact Nat.le_trans (by decide:abc.length<=26) (by decide))),QX];unfold ixD;rw [if_pos h0,if_pos (by rw [List.length_map,List.length_range];exact h1)];simp only [Option.bind_some];rw [List.getElem?_map,List.getElem?_range (by lia)];rfl
theorem aDr (i:Int) (h0:0<=i) (h1:i<6):∃w:Str,Nm w/\getD (.lst [.str "kind",.str "maker",.str "taker",.str "rule",.str "copy",.str "drop"]) (.int i)=.ok (.str w):=by
 have nm:∀w:Str,(cF w)=true->Nm w:=fun w h=>by
  unfold cF at h;simp only [Bool.and_eq_true,decide_eq_true_eq,List.all_eq_true] at h;refine ⟨h.1.1,h.1.2,fun c hc=>?_⟩;have:=h.2 c hc;unfold codeOk at this;simpa only [Bool.and_eq_true,decide_eq_true_eq] using this
 have:i=0\/i=1\/i=2\/i=3\/i=4\/i=5:=by lia
 rcases this with rfl|rfl|rfl|rfl|rfl|rfl
 ·exact ⟨"kind",nm _ (by decide +kernel),rfl⟩
 ·exact ⟨"maker",nm _ (by decide +kernel),rfl⟩
 ·exact ⟨"taker",nm _ (by decide +kernel),rfl⟩
 ·exact ⟨"rule",nm _ (by decide +kernel),rfl⟩
 ·exact ⟨"copy",nm _ (by decide +kernel),rfl⟩
 ·exact ⟨"drop",nm _ (by decide +kernel),rfl⟩
theorem eq_int (a b:Int):bO .eq (.int a) (.int b)=.ok (.bl (a==b)):=rfl
theorem wJ {α:Type} (g:List D->D->Res (List D)) (d:α->D) (P:α->Prop):∀(xs:List D) (acc:List D),(∀x∈xs,∀acc,∃y,P y/\g acc x=.ok (acc++[d y]))->∃ys:List α,ys.length=xs.length/\(∀y∈ys,P y)/\gQ g acc xs=.ok (acc++ys.map d)
 | [],acc,_=>⟨[],rfl,fun _ h=>(by cases h),(by simp [gQ])⟩
 | x::xs,acc,h=>by
  obtain ⟨y,h1,h2⟩:=h x (List.mem_cons_self ..) acc;obtain ⟨ys,i1,i2,i3⟩:=wJ g d P xs (acc++[d y]) fun z hz=>h z (List.mem_cons_of_mem _ hz)
  refine ⟨y::ys,by simp [i1],fun z hz=>?_,?_⟩
  ·rcases List.mem_cons.mp hz with rfl|hz
   ·exact h1
   ·exact i2 z hz
  ·rw [gQ,h2];show gQ g _ _=_;rw [i3];simp
theorem join_one:∀cs:List Nat,(Txt.join "" (cs.map one)).cps.toList=cs:=by
 intro cs;have e:Txt.join "" (cs.map one)=Str.join "" (cs.map one):=StrLaws.glued_eq_join _ _;rw [e];clear e;induction cs with
 | nil=>rfl
 | cons c cs ih=>
  cases cs with
  | nil=>rfl
  | cons d cs=>
   show (((one c).cps++("" : Str).cps)++(Str.join "" ((d::cs).map one)).cps).toList=_;rw [Array.toList_append,ih];rfl
theorem QZ (n:Int) (h0:0<=n):∃w:Str,Nm w/\dC 1 dU [.int n]=.ok (.str w):=by
 have d9:=eY n 9 (by decide) (by decide);by_cases h8:n % 9=8
 ·obtain ⟨w,hw,hg⟩:=aDr (n / 9 % 6) (Int.emod_nonneg _ (by decide)) (Int.emod_lt_of_pos _ (by decide));refine ⟨w,hw,(cC rfl).trans (call_v ?_)⟩;refine aK (ρ':=[.int n,.str abc,.uD]) (bW (i:=1) rfl) (fP ?_);exact nA (dJ (aL (x:=.int (n % 9)) (aL rfl rfl (cY n 9 (by decide))) rfl ((eq_int _ _).trans (by rw [h8];rfl)))) (cX (d:=.str w) (aL (y:=.int (n / 9 % 6)) rfl (aL (aL rfl rfl d9) rfl (cY _ 6 (by decide))) hg) rfl)
 ·have s0:0<=n / 9 % 8:=Int.emod_nonneg _ (by decide);have s1:n / 9 % 8<8:=Int.emod_lt_of_pos _ (by decide);have m8:=cY (n / 9) 8 (by decide);generalize n / 9 % 8=sz at s0 s1 m8;have d72:=eY n 72 (by decide) (by decide);generalize n / 72=m at d72;obtain ⟨cs,c1,c2,c3⟩:=wJ (mZ 3 M5 lL (b2 getD cH (b2 (aP .mod) (b2 (aP .add) (b2 (aP .fdiv) dN (b2 (aP .add) (b2 uF R_ iW) eE)) (b2 (aP .mod) dN (b2 (aP .add) iW j8))) R_)) false [D.int m,.str abc,.int (1+sz)]) (fun c=>D.str (one c)) (fun c=>97<=c/\c<=122) ((List.range (1+sz).toNat).map fun (k:Nat)=>D.int (0+(k:Int))) [] (fun x hx acc=>by
   obtain ⟨k,hk,rfl⟩:=List.mem_map.mp hx;have hk:=List.mem_range.mp hk;have hk8:k<=8:=by lia
   have k1:=(uM 26 (0+k)).trans (O2 26 (0+k) (by decide));have k2:=eY m (26*(0+k)+1) (by lia) (by lia);have k3:=cY m (0+k+2) (by lia);have k4:=cY (m / (26*(0+k)+1)+m % (0+k+2)) 26 (by decide);obtain ⟨c,g1,g2,g3⟩:=aAo ((m / (26*(0+k)+1)+m % (0+k+2)) % 26) (Int.emod_nonneg _ (by decide)) (Int.emod_lt_of_pos _ (by decide));refine ⟨c,⟨g1,g2⟩,wI (n:=3) (bs:=[.int (0+k)]) rfl rfl ?_ rfl⟩;exact aL (x:=.str abc) rfl (aL (aL (aL (x:=.int m) rfl (aL (aL (x:=.int 26) (y:=.int (0+k)) rfl rfl k1) rfl (eX _ _)) k2) (aL (x:=.int m) rfl (aL (x:=.int (0+k)) rfl rfl (eX _ _)) k3) (eX _ _)) rfl k4) g3)
  rw [List.length_map,List.length_range] at c1;have hj:(Txt.join "" (cs.map one)).cps.toList=cs:=join_one cs;have hlen:(Txt.join "" (cs.map one)).length=cs.length:=by
   show (Txt.join "" (cs.map one)).cps.size=_;rw [<-Array.length_toList,hj]
  refine ⟨Txt.join "" (cs.map one),⟨by lia,by lia,by rw [hj];exact c2⟩,(cC rfl).trans (call_v ?_)⟩;refine aK (ρ':=[.int n,.str abc,.uD]) (bW (i:=1) rfl) (aK (ρ':=[.int n,.str abc,.uD]) (jD (dJ (aL (x:=.int (n % 9)) (aL rfl rfl (cY n 9 (by decide))) rfl ((eq_int _ _).trans (by rw [beq_eq_false_iff_ne.mpr h8])))) rfl) ?_);refine aK (ρ':=[.int n,.str abc,.int (1+sz)]) (bW (i:=2) (aL (x:=.int 1) rfl (aL (aL rfl rfl d9) rfl m8) (eX _ _))) ?_;refine aK (ρ':=[.int m,.str abc,.int (1+sz)]) (bW (i:=0) (aL (x:=.int n) rfl rfl d72)) ?_;refine cX (d:=.str (Txt.join "" (cs.map one))) ?_ rfl;have hc:=o8 (n:=3) (W4 (f:=aD e_ aZ) (ρ:=[D.int m,.str abc,.int (1+sz)]) (n:=1+sz) rfl (by lia) (by lia)) (by rw [List.length_map,List.length_range,cO];lia) c3;have e:([]:List D)++cs.map (fun c=>D.str (one c))=(cs.map one).map D.str:=by rw [List.nil_append,List.map_map];rfl
  rw [e] at hc;have hfit:JoinOk "" (cs.map one)=true:=by
   unfold JoinOk;rw [Bool.not_eq_true'];refine StrLaws.joinFits (B:=1) (fun y hy=>?_) ?_
   ·obtain ⟨c,_,rfl⟩:=List.mem_map.mp hy;exact Nat.le_refl 1
   ·rw [List.length_map,show ("" : Str).length=0 from rfl];lia
  exact uN rfl (aG hc rfl) (lF hfit)
theorem lG (n many:Int) (h0:0<=many) (h1:many<=100):∃ws:List Str,ws.length=many.toNat/\(∀w∈ws,Nm w)/\dC 2 cU [.int n,.int many]=.ok (.lst (ws.map D.str)):=by
 obtain ⟨ws,c1,c2,c3⟩:=wJ (mZ 2 M5 lL (aW (dC 1 dU) (aD (b2 (aP .mod) (b2 (aP .add) (b2 uF dN (b2 (aP .add) (b2 uF j8 e_) J5)) (b2 uF e_ (bC (.int 1299709)))) (bC (.int 1000000007))) aZ)) true [D.int n,.int many]) D.str Nm ((List.range many.toNat).map fun (k:Nat)=>D.int (0+(k:Int))) [] (fun x hx acc=>by
  obtain ⟨k,hk,rfl⟩:=List.mem_map.mp hx;have hk:=List.mem_range.mp hk;have hk8:k<=100:=by lia
  have k1:=(uM 2 (0+k)).trans (O2 2 (0+k) (by decide));have k2:=(uM n (2*(0+k)+5)).trans (mO n (2*(0+k)+5) (k_ _ (by lia) (by lia)));have k3:=(uM (0+k) 1299709).trans (mO (0+k) 1299709 (by decide));have k4:=cY (n*(2*(0+k)+5)+(0+k)*1299709) 1000000007 (by decide);obtain ⟨w,hw,hn⟩:=QZ ((n*(2*(0+k)+5)+(0+k)*1299709) % 1000000007) (Int.emod_nonneg _ (by decide));refine ⟨w,hw,wI (n:=2) (bs:=[.int (0+k)]) rfl rfl ?_ rfl⟩;exact a_ (aG (aL (aL (aL (x:=.int n) rfl (aL (aL (x:=.int 2) (y:=.int (0+k)) rfl rfl k1) rfl (eX _ _)) k2) (aL (x:=.int (0+k)) rfl rfl k3) (eX _ _)) rfl k4) rfl) hn)
 rw [List.length_map,List.length_range] at c1;refine ⟨ws,c1,c2,(cC rfl).trans (call_v ?_)⟩;refine cX (d:=.lst (ws.map D.str)) ?_ rfl;exact o8 (n:=2) (W4 (f:=aD cH aZ) (ρ:=[D.int n,.int many]) (n:=many) rfl h0 (by lia)) (by rw [List.length_map,List.length_range,cO];lia) c3
inductive Row where
 | kind (w:Str)|maker (a b:Str) (r:List Str)|taker (a b c:Str) (r:List Str)|rule (a b:Str) (r ws:List Str)
noncomputable def Row.words:Row->List Str
 | .kind w=>["kind",w]
 | .maker a b r => "maker" :: a::b::r
 | .taker a b c r => "taker" :: a::b::c::r
 | .rule a b r ws => "rule" :: a::b::(r++("=" : Str)::ws)
noncomputable def Row.told:Row->D
 | .kind w=>.str w
 | .maker a b r=>.tup [.str a,.str b,.tup (r.map D.str)]
 | .taker a b c r=>.tup [.str a,.str b,.str c,.tup (r.map D.str)]
 | .rule a b r ws=>.tup [.str a,.str b,.tup (r.map D.str),.tup (ws.map D.str)]
noncomputable def Row.idx:Row->Nat
 | .kind _=>0
 | .maker _ _ _=>1
 | .taker _ _ _ _=>2
 | .rule _ _ _ _=>3
def Row.ok:Row->Prop
 | .kind w=>Nm w
 | .maker a b r=>Nm a/\Nm b/\(∀w∈r,Nm w)/\r.length<=3
 | .taker a b c r=>Nm a/\Nm b/\Nm c/\(∀w∈r,Nm w)/\r.length<=2
 | .rule a b r ws=>Nm a/\Nm b/\(∀w∈r,Nm w)/\r.length<=5/\(∀w∈ws,Nm w)/\1<=ws.length/\ws.length<=40
theorem iG (n d a:Nat):J4 n d (some (a:Int))=min a n:=by
 show (if (a:Int)<0 then (max ((a:Int)+(n:Int)) 0).toNat else (min (a:Int) (n:Int)).toNat)=_;rw [if_neg (by lia)];lia
theorem GX (n d:Nat):J4 n d none=d:=rfl
theorem yM {α:Type} (xs:List α) (a:Nat):cutD xs none (some (a:Int))=xs.take a:=by
 unfold cutD;rw [iG,GX,List.drop_zero,Nat.sub_zero];by_cases h:a<=xs.length
 ·rw [Nat.min_eq_left h]
 ·rw [Nat.min_eq_right (by lia),List.take_of_length_le (Nat.le_refl _),List.take_of_length_le (by lia)]
theorem jL {α:Type} (xs:List α) (a:Nat):cutD xs (some (a:Int)) none=xs.drop a:=by
 unfold cutD;rw [iG,GX];by_cases h:a<=xs.length
 ·rw [Nat.min_eq_left h,List.take_of_length_le (by rw [List.length_drop];exact Nat.le_refl _)]
 ·rw [Nat.min_eq_right (by lia),List.drop_eq_nil_of_le (Nat.le_refl _),List.drop_eq_nil_of_le (by lia),List.take_nil]
theorem aAp {α:Type} (xs:List α) (a b:Nat) (h1:a<=b) (h2:b<=xs.length):cutD xs (some (a:Int)) (some (b:Int))=(xs.drop a).take (b-a):=by
 unfold cutD;rw [iG,iG,Nat.min_eq_left h2,Nat.min_eq_left (by lia)]
theorem iV {a:FE} {lo hi:List D->Res (Option Int)} {ρ:List D} {x d:D} {l h:Option Int} (h1:a ρ=.ok x) (h2:lo ρ=.ok l) (h3:hi ρ=.ok h) (h4:TQ x l h=.ok d):eO a lo hi ρ=.ok d:=by
 unfold eO;rw [h1,Res.aO,h2,Res.aO,h3,Res.aO,h4]
theorem mF (ws:List Str) (lo hi:Option Int):TQ (.lst (ws.map D.str)) lo hi=.ok (.lst ((cutD ws lo hi).map D.str)):=by
 show (if D.bU (ws.map D.str)=true then Res.ok (D.lst (cutD (ws.map D.str) lo hi)) else .bad)=_;rw [if_pos (dZ ws)];unfold cutD;rw [List.length_map,List.map_take,List.map_drop]
theorem sY (ws:List Str) (lo hi:Option Int) (h:¬(J4 ws.length 0 lo=0/\J4 ws.length ws.length hi=ws.length)):TQ (.tup (ws.map D.str)) lo hi=.ok (.tup ((cutD ws lo hi).map D.str)):=by
 show (if !D.bU (ws.map D.str)||decide (J4 (ws.map D.str).length 0 lo=0/\J4 (ws.map D.str).length (ws.map D.str).length hi=(ws.map D.str).length) then Res.bad else Res.ok (D.tup (cutD (ws.map D.str) lo hi)))=_;rw [dZ,List.length_map,decide_eq_false h];unfold cutD;rw [List.length_map,List.map_take,List.map_drop];rfl
theorem dH {a:FE} {ρ:List D} {i:Int} (h:a ρ=.ok (.int i)):bK a ρ=.ok (some i):=by
 unfold bK;rw [h];rfl
theorem sZ {a:FA} {ρ xs:List D} (h:a ρ=.ok xs) (hl:xs.length<=lim):fG a ρ=.ok (.lst xs):=by
 unfold fG;rw [h,Res.aO,if_pos (decide_eq_true hl)];rfl
theorem iH (a b:List Str) (h:a.length+b.length<=1000):aP .add (.lst (a.map D.str)) (.lst (b.map D.str))=.ok (.lst ((a++b).map D.str)):=by
 rw [List.map_append];exact Z8 _ _ (by rw [List.length_map,List.length_map,cO];lia) (dZ a) (dZ b)
theorem uO {ρ:List D} (k:Str):fG (aD (bC (.str k)) aZ) ρ=.ok (.lst (([k]:List Str).map D.str)):=sZ (aG rfl rfl) (by rw [cO];show 1<=1000000;decide)
theorem XQ (a:Int):bO .eq (.int a) (.int a)=.ok (.bl true):=(eq_int a a).trans (by rw [beq_self_eq_true])
theorem aBf {a b:Int} (h:a≠b):bO .eq (.int a) (.int b)=.ok (.bl false):=(eq_int a b).trans (by rw [beq_eq_false_iff_ne.mpr h])
theorem Q0 (nn:Int) (hn:0<=nn):∃R:Row,R.ok/\dC 1 dW [.int nn]=.ok (.lst (R.words.map D.str)):=by
 have hf0:0<=nn % 5:=Int.emod_nonneg _ (by decide);have hf:nn % 5<5:=Int.emod_lt_of_pos _ (by decide);have hm:0<=nn / 5:=Int.ediv_nonneg hn (by decide);have e6:=cY nn 5 (by decide);have g6:=eY nn 5 (by decide) (by decide);generalize nn % 5=f at hf0 hf e6;generalize nn / 5=m at hm g6;have begin_:∀{r:Res Fl} (g:FS),g [.int nn,.int f,.int m,.uD,.uD]=r->bI (dI false 1 (b2 (aP .mod) dN J5) true) (bI (dI false 2 (b2 (aP .fdiv) dN J5) true) g) [.int nn,.uD,.uD,.uD,.uD]=r:=fun g h=>
  aK (ρ':=[.int nn,.int f,.uD,.uD,.uD]) (bW (i:=1) (aL (x:=.int nn) rfl rfl e6)) (aK (ρ':=[.int nn,.int f,.int m,.uD,.uD]) (bW (i:=2) (aL (x:=.int nn) rfl rfl g6)) h)
 have no:∀(k:Int) (a:FS),f≠k->sIf (bTB (b2 (bO .eq) cH (bC (.int k)))) a d_ [.int nn,.int f,.int m,.uD,.uD]=.ok (.nx [.int nn,.int f,.int m,.uD,.uD]):=fun k a h=>jD (dJ (aL (x:=.int f) rfl rfl (aBf h))) rfl
 have yes:∀(k:Int) (a:FS) (r:Res Fl),f=k->a [.int nn,.int f,.int m,.uD,.uD]=r->sIf (bTB (b2 (bO .eq) cH (bC (.int k)))) a d_ [.int nn,.int f,.int m,.uD,.uD]=r:=fun k a r h h2=>nA (dJ (aL (x:=.int f) rfl rfl (by rw [h];exact XQ k))) h2
 by_cases f0:f=0
 ·obtain ⟨ws,l,hw,e⟩:=lG m 1 (by decide) (by decide)
  match ws,l with
  | [w],_=>
   refine ⟨.kind w,hw w (by simp),(cC rfl).trans (call_v (begin_ _ (fP (yes 0 _ _ f0 (cX (d:=.lst (([("kind" : Str)]++[w]).map D.str)) ?_ rfl)))))⟩;exact aL (uO "kind") (a_ (xs:=[.int m,.int 1]) (aG rfl (aG rfl rfl)) e) (iH _ _ (by show 1+1<=1000;decide))
 by_cases f1:f=1
 ·have r0:0<=m % 4:=Int.emod_nonneg _ (by decide);have r1:m % 4<4:=Int.emod_lt_of_pos _ (by decide);have hmm:=cY m 4 (by decide);generalize m % 4=q at r0 r1 hmm;obtain ⟨ws,l,hw,e⟩:=lG m (2+q) (by lia) (by lia)
  match ws,l with
  | [],l=>simp at l;lia
  | [_],l=>simp at l;lia
  | a::b::r,l=>
   simp at l;refine ⟨.maker a b r,⟨hw a (by simp),hw b (by simp),fun w h=>hw w (by simp [h]),by lia⟩,(cC rfl).trans (call_v (begin_ _ (aK (no 0 _ f0) (fP (yes 1 _ _ f1 (cX (d:=.lst (([("maker" : Str)]++(a::b::r)).map D.str)) ?_ rfl))))))⟩;exact aL (uO "maker") (a_ (xs:=[.int m,.int (2+q)]) (aG rfl (aG (aL (x:=.int 2) rfl (aL (x:=.int m) rfl rfl hmm) (eX _ _)) rfl)) e) (iH _ _ (by simp;lia))
 by_cases f2:f=2
 ·have r0:0<=m % 3:=Int.emod_nonneg _ (by decide);have r1:m % 3<3:=Int.emod_lt_of_pos _ (by decide);have hmm:=cY m 3 (by decide);generalize m % 3=q at r0 r1 hmm;obtain ⟨ws,l,hw,e⟩:=lG m (3+q) (by lia) (by lia)
  match ws,l with
  | [],l=>simp at l;lia
  | [_],l=>simp at l;lia
  | [_,_],l=>simp at l;lia
  | a::b::c::r,l=>
   simp at l;refine ⟨.taker a b c r,⟨hw a (by simp),hw b (by simp),hw c (by simp),fun w h=>hw w (by simp [h]),by lia⟩,(cC rfl).trans (call_v (begin_ _ (aK (no 0 _ f0) (aK (no 1 _ f1) (fP (yes 2 _ _ f2 (cX (d:=.lst (([("taker" : Str)]++(a::b::c::r)).map D.str)) ?_ rfl)))))))⟩;exact aL (uO "taker") (a_ (xs:=[.int m,.int (3+q)]) (aG rfl (aG (aL (x:=.int 3) rfl (aL (x:=.int m) rfl rfl hmm) (eX _ _)) rfl)) e) (iH _ _ (by simp;lia))
 have r0:0<=m % 6:=Int.emod_nonneg _ (by decide);have r1:m % 6<6:=Int.emod_lt_of_pos _ (by decide);have hmm:=cY m 6 (by decide);generalize m % 6=q at r0 r1 hmm;have d6:=eY m 6 (by decide) (by decide);have p0:0<=m / 6 % 4:=Int.emod_nonneg _ (by decide);have p1:m / 6 % 4<4:=Int.emod_lt_of_pos _ (by decide);have m5:=cY (m / 6) 4 (by decide);generalize m / 6 % 4=u at p0 p1 m5;obtain ⟨ws,l,hw,e⟩:=lG m (2+q+1+u) (by lia) (by lia);obtain ⟨n,rfl⟩:∃n:Nat,q=n:=⟨q.toNat,by lia⟩
 have ec:(2:Int)+n=((2+n:Nat):Int):=by lia
 match ws,l with
 | [],l=>simp at l;lia
 | [_],l=>simp at l;lia
 | a::b::r,l=>
  simp at l;refine ⟨.rule a b (r.take n) (r.drop n),⟨hw a (by simp),hw b (by simp),fun w h=>hw w (by simp [List.mem_of_mem_take h]),by rw [List.length_take];lia,fun w h=>hw w (by simp [List.mem_of_mem_drop h]),by rw [List.length_drop];lia,by rw [List.length_drop];lia⟩,(cC rfl).trans (call_v (begin_ _ (aK (no 0 _ f0) (aK (no 1 _ f1) (aK (no 2 _ f2) ?_)))))⟩;refine aK (ρ':=[.int nn,.int f,.int m,.int (2+n),.uD]) (bW (i:=3) (aL (x:=.int 2) rfl (aL (x:=.int m) rfl rfl hmm) (eX _ _))) ?_;refine aK (ρ':=[.int nn,.int f,.int m,.int (2+n),.lst ((a::b::r).map D.str)]) (bW (i:=4) (a_ (xs:=[.int m,.int (2+n+1+u)]) (aG rfl (aG (aL (aL (x:=.int (2+n)) rfl rfl (eX _ _)) (aL (aL (x:=.int m) rfl rfl d6) rfl m5) (eX _ _)) rfl)) e)) ?_;have c1:eO mX cG (bK iW) [D.int nn,.int f,.int m,.int (2+n),.lst ((a::b::r).map D.str)]=.ok (.lst ((a::b::r.take n).map D.str)):=by
   refine iV (h:=some ((2+n:Nat):Int)) rfl rfl (dH (by rw [<-ec];rfl)) ((mF _ _ _).trans ?_);rw [yM,Nat.add_comm];rfl
  have c2:eO mX (bK iW) cG [D.int nn,.int f,.int m,.int (2+n),.lst ((a::b::r).map D.str)]=.ok (.lst ((r.drop n).map D.str)):=by
   refine iV (l:=some ((2+n:Nat):Int)) rfl (dH (by rw [<-ec];rfl)) rfl ((mF _ _ _).trans ?_);rw [jL,Nat.add_comm];rfl
  have e2:(Row.rule a b (r.take n) (r.drop n)).words=(([("rule" : Str)]++(a::b::r.take n))++[("=" : Str)])++r.drop n:=by simp [Row.words]
  rw [e2];have t1:(r.take n).length<=100:=by rw [List.length_take];lia
  have t2:(r.drop n).length<=100:=by rw [List.length_drop];lia
  exact cX (aL (aL (aL (uO "rule") c1 (iH _ _ (by simp only [List.length_cons,List.length_nil];lia))) (uO "=") (iH _ _ (by simp only [List.length_append,List.length_cons,List.length_nil];lia))) c2 (iH _ _ (by simp only [List.length_append,List.length_cons,List.length_nil];lia))) rfl
theorem GZ {n:Nat} {m:Nat} (h:n<m):ixD m (n:Int)=some n:=by
 unfold ixD;rw [if_pos (by lia),if_pos (by lia)];simp
theorem XR {ws:List Str} {n:Nat} {w:Str} (h:ws[n]?=some w):getD (.lst (ws.map D.str)) (.int (n:Int))=.ok (.str w):=by
 have hl:n<ws.length:=(List.getElem?_eq_some_iff.mp h).1;show Res.ofOpt ((ixD (ws.map D.str).length n).bind fun j=>(ws.map D.str)[j]?)=_;rw [GZ (by rw [List.length_map];exact hl),Option.bind_some,List.getElem?_map,h];rfl
theorem aAq {ws:List Str} {n:Nat} {w:Str} (h:ws[n]?=some w):getD (.tup (ws.map D.str)) (.int (n:Int))=.ok (.str w):=by
 have hl:n<ws.length:=(List.getElem?_eq_some_iff.mp h).1;show Res.ofOpt ((ixD (ws.map D.str).length n).bind fun j=>(ws.map D.str)[j]?)=_;rw [GZ (by rw [List.length_map];exact hl),Option.bind_some,List.getElem?_map,h];rfl
theorem eq_str (a b:Str):bO .eq (.str a) (.str b)=.ok (.bl (a==b)):=rfl
theorem Q3 {w:Str} (h:Nm w):(w==("=" : Str))=false:=by
 rw [beq_eq_false_iff_ne];intro e;subst e;have:=h.2.2 61 (by decide);lia
theorem jM (n:Nat):∀ws:List Str,D.eV n (ws.map D.str)=true
 | []=>by rw [List.map_nil,D.eV]
 | w::ws=>by
  rw [List.map_cons,D.eV,jM n ws];cases n <;> rfl
theorem XS {e:Str}:∀{ps qs:List Str},(∀p∈ps,(p==e)=false)->aA2 (.str e) ((ps++e::qs).map D.str)=some ps.length
 | [],qs,_=>by
  show (if eqD (.str e) (.str e)=true then some 0 else _)=_;rw [show eqD (.str e) (.str e)=(e==e) from rfl,beq_self_eq_true,if_pos rfl];rfl
 | p::ps,qs,h=>by
  show (if eqD (.str p) (.str e)=true then some 0 else (aA2 (.str e) ((ps++e::qs).map D.str)).map (·+1))=_;rw [if_neg (by rw [show eqD (.str p) (.str e)=(p==e) from rfl,h p (List.mem_cons_self ..)];simp),XS fun q hq=>h q (List.mem_cons_of_mem _ hq)];rfl
theorem yN {e:Str} {ps qs:List Str} (h:∀p∈ps,(p==e)=false):u_ (.tup ((ps++e::qs).map D.str)) [.str e]=.ok (.int ps.length):=by
 show (if (D.str e).cQ bB&&D.eV bB ((ps++e::qs).map D.str) then (match aA2 (.str e) ((ps++e::qs).map D.str) with|some j=>Res.ok (D.int j)|none=>.bad) else .bad)=_;rw [jM,XS h];rfl
theorem iI (ws:List Str):(D.tup (ws.map D.str)).pure=true:=by rw [D.pure,dZ]
theorem yO (R:Row):R.told.pure=true:=by
 cases R with
 | kind w=>rfl
 | maker a b r=>
  show (true&&(true&&((D.tup (r.map D.str)).pure&&true)))=true;rw [iI];rfl
 | taker a b c r=>
  show (true&&(true&&(true&&((D.tup (r.map D.str)).pure&&true))))=true;rw [iI];rfl
 | rule a b r ws=>
  show (true&&(true&&((D.tup (r.map D.str)).pure&&((D.tup (ws.map D.str)).pure&&true))))=true;rw [iI,iI];rfl
theorem aEb {f:FE} {ρ:List D} {R:Row} (h:f ρ=.ok R.told):fJ f false ρ=.ok (.rt R.told):=cX h (yO R)
theorem at_ {ρ:List D} {i:Nat} {ws:List Str} (n:Nat) {w:Str} (h1:fU i ρ=.ok (.lst (ws.map D.str))) (h2:ws[n]?=some w):b2 getD (fU i) (bC (.int (n:Int))) ρ=.ok (.str w):=aL h1 rfl (XR h2)
theorem XX {ρ:List D} {i:Nat} {ws:List Str} (n:Nat) {w:Str} (h1:fU i ρ=.ok (.tup (ws.map D.str))) (h2:ws[n]?=some w):b2 getD (fU i) (bC (.int (n:Int))) ρ=.ok (.str w):=aL h1 rfl (aAq h2)
theorem is_ {ρ:List D} {ws:List Str} {w:Str} {b:Bool} (k:Str) (h1:fU 0 ρ=.ok (.lst ((w::ws).map D.str))) (h2:(w==k)=b):bTB (b2 (bO .eq) (b2 getD dN iY) (bC (.str k))) ρ=.ok b:=dJ (aL (at_ 0 h1 rfl) rfl ((eq_str w k).trans (by rw [h2])))
theorem from_ {ρ:List D} {i:Nat} {ws:List Str} (n:Nat) (h1:fU i ρ=.ok (.lst (ws.map D.str))):aW j9 (aD (eO (fU i) (bK (bC (.int (n:Int)))) cG) aZ) ρ=.ok (.tup ((ws.drop n).map D.str)):=
 a_ (aG (iV h1 (dH rfl) rfl ((mF _ _ _).trans (by rw [jL]))) rfl) rfl
theorem tW {α:Type} (e:α) (qs:List α):∀ps:List α,(ps++e::qs).drop (ps.length+1)=qs
 | []=>rfl
 | p::ps=>tW e qs ps
theorem BK {α:Type} (e:α) (qs:List α):∀ps:List α,(ps++e::qs).take ps.length=ps
 | []=>rfl
 | p::ps=>by
  show p::(ps++e::qs).take ps.length=_;rw [BK e qs ps]
theorem Q4 {ρ:List D} {i:Nat} {ws:List Str} (n:Nat) (h0:0<n) (h:n<=ws.length) (h1:fU i ρ=.ok (.tup (ws.map D.str))):eO (fU i) (bK (bC (.int (n:Int)))) cG ρ=.ok (.tup ((ws.drop n).map D.str)):=
 iV h1 (dH rfl) rfl ((sY _ _ _ (by rw [iG,Nat.min_eq_left h];lia)).trans (by rw [jL]))
theorem tX {ρ:List D} {i:Nat} {ws:List Str} (h:fU i ρ=.ok (.tup (ws.map D.str))):aW iZ (aD (fU i) aZ) ρ=.ok (.int ws.length):=a_ (aG h rfl) (by show Res.ok (D.int ((ws.map D.str).length:Int))=_;rw [List.length_map])
theorem between {ρ:List D} {i:Nat} {ws:List Str} (lo hi:Nat) (h:fU i ρ=.ok (.tup (ws.map D.str))) (h1:lo<=ws.length) (h2:ws.length<=hi):bTB (bCh (bO (.ord .le)) (bO (.ord .le)) (bC (.int (lo:Int))) (aW iZ (aD (fU i) aZ)) (bC (.int (hi:Int)))) ρ=.ok true:=
 dJ (aD1 rfl (tX h) ((eQ .le lo ws.length).trans (by rw [show gJ.le.int (lo:Int) (ws.length:Int)=true from decide_eq_true (by lia)])) rfl ((eQ .le ws.length hi).trans (by rw [show gJ.le.int (ws.length:Int) (hi:Int)=true from decide_eq_true (by lia)])))
theorem J0 {f:FE} {ρ:List D} {b:Bool} (h:f ρ=.ok (.bl b)):bTr f ρ=.ok b:=by
 unfold bTr;rw [h];rfl
theorem G3 {f:FT} {ρ:List D} {b:Bool} (h:f ρ=.ok b):SM f ρ=.ok (!b):=by
 unfold SM;rw [h];rfl
theorem aAr {a b:Str} {r ws:List Str} (h:(Row.rule a b r ws).ok):dC 1 dY [.tup ((a::b::(r++("=" : Str)::ws)).map D.str)]=.ok (Row.rule a b r ws).told:=by
 obtain ⟨ha,hb,hr,hrl,hw,hw1,hw2⟩:=h;refine (cC rfl).trans (call_v ?_);have hne:∀p∈a::b::r,(p==("=" : Str))=false:=fun p hp=>by
  rcases List.mem_cons.mp hp with rfl|hp
  ·exact Q3 ha
  ·rcases List.mem_cons.mp hp with rfl|hp
   ·exact Q3 hb
   ·exact Q3 (hr p hp)
 have hnm:∀p∈a::b::r,Nm p:=fun p hp=>by
  rcases List.mem_cons.mp hp with rfl|hp
  ·exact ha
  ·rcases List.mem_cons.mp hp with rfl|hp
   ·exact hb
   ·exact hr p hp
 have hi:=yN (e := "=") (ps:=a::b::r) (qs:=ws) hne;have hany:((((a::b::r)++("=" : Str)::ws).map D.str).any fun y=>eqD y (.str "="))=true:=by
  rw [List.any_eq_true];exact ⟨.str "=",List.mem_map.mpr ⟨"=",by simp,rfl⟩,beq_self_eq_true _⟩
 generalize hW:a::b::r=hs at hi hne hnm hany;have W:a::b::(r++("=" : Str)::ws)=hs++("=" : Str)::ws:=by rw [<-hW];rfl
 rw [W];have hl:hs.length=r.length+2:=by rw [<-hW];rfl
 have tl:(hs++("=" : Str)::ws).length=hs.length+ws.length+1:=by simp;lia
 generalize hT:(hs++("=" : Str)::ws)=tt at hi hany tl;have v0:∀x y z,fU 0 [D.tup (tt.map D.str),x,y,z]=.ok (.tup (tt.map D.str)):=fun _ _ _=>rfl
 have hin:bO .notin (.str "=") (.tup (tt.map D.str))=.ok (.bl false):=by
  show (if (D.str ("=" : Str)).cQ bB&&D.eV bB (tt.map D.str) then Res.ok (D.bl (!((tt.map D.str).any fun y=>eqD y (.str "=")))) else .bad)=_;rw [jM,hany];rfl
 refine aK (ρ':=[.tup (tt.map D.str),.uD,.uD,.uD]) (jD (dJ (aL rfl (v0 _ _ _) hin)) rfl) ?_;refine aK (ρ':=[.tup (tt.map D.str),.int (hs.length:Int),.uD,.uD]) (bW (i:=1) (uN (v0 _ _ _) (aG rfl rfl) hi)) ?_;have c1:eO dN cG (bK cH) [D.tup (tt.map D.str),.int (hs.length:Int),.uD,.uD]=.ok (.tup (hs.map D.str)):=
  iV (v0 _ _ _) rfl (dH rfl) ((sY _ _ _ (by rw [iG,Nat.min_eq_left (by lia)];lia)).trans (by rw [yM,<-hT,BK]))
 refine aK (ρ':=[.tup (tt.map D.str),.int (hs.length:Int),.tup (hs.map D.str),.uD]) (bW (i:=2) c1) ?_;have c2:eO dN (bK (b2 (aP .add) cH eE)) cG [D.tup (tt.map D.str),.int (hs.length:Int),.tup (hs.map D.str),.uD]=.ok (.tup (ws.map D.str)):=
  iV (v0 _ _ _) (dH (i:=((hs.length+1:Nat):Int)) (aL (x:=.int (hs.length:Int)) rfl rfl rfl)) rfl ((sY _ _ _ (by rw [iG,Nat.min_eq_left (by lia)];lia)).trans (by rw [jL,<-hT,tW]))
 refine aK (ρ':=[.tup (tt.map D.str),.int (hs.length:Int),.tup (hs.map D.str),.tup (ws.map D.str)]) (bW (i:=3) c2) ?_;refine aK (ρ':=[.tup (tt.map D.str),.int (hs.length:Int),.tup (hs.map D.str),.tup (ws.map D.str)]) (jD (G3 (b:=true) (zR (between 2 7 (ws:=hs) rfl (by lia) (by lia)) (zR (between 1 40 (ws:=ws) rfl hw1 hw2) (zR (J0 (a_ (aG rfl rfl) (sX hnm (by lia)))) (J0 (a_ (aG rfl rfl) (sX hw (by lia)))))))) rfl) ?_;refine aEb (R:=.rule a b r ws) (OD (aG (XX 0 (ws:=hs) rfl (by rw [<-hW];rfl)) (aG (XX 1 (ws:=hs) rfl (by rw [<-hW];rfl)) (aG ((Q4 2 (ws:=hs) (by decide) (by lia) rfl).trans (by rw [<-hW];rfl)) (aG rfl rfl)))) (by rw [cO];show 4<=1000000;decide))
theorem U7 {R:Row} (h:R.ok):dC 1 gD [.lst (R.words.map D.str)]=.ok R.told:=by
 refine (cC rfl).trans (call_v ?_);have lm:∀n:Nat,n<=10->n<=lim:=fun n h=>by rw [cO];lia
 have st:∀(k:Str) (ws:List Str),dI false 1 (aW j9 (aD (eO dN (bK eE) cG) aZ)) false [.lst ((k::ws).map D.str),.uD]=.ok (.nx [.lst ((k::ws).map D.str),.tup (ws.map D.str)]):=fun k ws=>o6 (i:=1) (from_ 1 (ws:=k::ws) rfl) (iI _)
 have nm:∀(k:Str) (ws:List Str),(∀w∈ws,Nm w)->ws.length<=100->SM (bTr (aW (dC 1 cW) (aD cH aZ))) [.lst ((k::ws).map D.str),.tup (ws.map D.str)]=.ok false:=fun k ws h1 h2=>G3 (b:=true) (J0 (a_ (aG rfl rfl) (sX h1 h2)))
 cases R with
 | kind w=>
  have hall:∀x∈[w],Nm x:=fun x hx=>by rw [List.mem_singleton.mp hx];exact h
  refine aK (st "kind" [w]) (aK (jD (is_ (w := "kind") (ws:=[w]) "rule" rfl (by decide +kernel)) rfl) (aK (jD (nm "kind" [w] hall (by show 1<=100;decide)) rfl) (fP (nA (zR (is_ (w := "kind") (ws:=[w]) "kind" rfl (by decide +kernel)) (dJ (aL (tX (ws:=[w]) rfl) rfl rfl))) (aEb (R:=.kind w) (XX 0 (ws:=[w]) rfl rfl))))))
 | maker a b r=>
  obtain ⟨ha,hb,hr,hl⟩:=h;have hall:∀x∈a::b::r,Nm x:=fun x hx=>by
   rcases List.mem_cons.mp hx with rfl|hx
   ·exact ha
   ·rcases List.mem_cons.mp hx with rfl|hx
    ·exact hb
    ·exact hr x hx
  have ll:(a::b::r).length=r.length+2:=rfl;refine aK (st "maker" (a::b::r)) (aK (jD (is_ (w := "maker") (ws:=a::b::r) "rule" rfl (by decide +kernel)) rfl) (aK (jD (nm "maker" (a::b::r) hall (by lia)) rfl) (aK (jD (T3 (is_ (w := "maker") (ws:=a::b::r) "kind" rfl (by decide +kernel))) rfl) (fP (nA (zR (is_ (w := "maker") (ws:=a::b::r) "maker" rfl (by decide +kernel)) (between 2 5 (ws:=a::b::r) rfl (by lia) (by lia))) (aEb (R:=.maker a b r) ?_))))));exact OD (aG (XX 0 (ws:=a::b::r) rfl rfl) (aG (XX 1 (ws:=a::b::r) rfl rfl) (aG (Q4 2 (ws:=a::b::r) (by decide) (by lia) rfl) rfl))) (lm 3 (by decide))
 | taker a b c r=>
  obtain ⟨ha,hb,hc,hr,hl⟩:=h;have hall:∀x∈a::b::c::r,Nm x:=fun x hx=>by
   rcases List.mem_cons.mp hx with rfl|hx
   ·exact ha
   ·rcases List.mem_cons.mp hx with rfl|hx
    ·exact hb
    ·rcases List.mem_cons.mp hx with rfl|hx
     ·exact hc
     ·exact hr x hx
  have ll:(a::b::c::r).length=r.length+3:=rfl;refine aK (st "taker" (a::b::c::r)) (aK (jD (is_ (w := "taker") (ws:=a::b::c::r) "rule" rfl (by decide +kernel)) rfl) (aK (jD (nm "taker" (a::b::c::r) hall (by lia)) rfl) (aK (jD (T3 (is_ (w := "taker") (ws:=a::b::c::r) "kind" rfl (by decide +kernel))) rfl) (aK (jD (T3 (is_ (w := "taker") (ws:=a::b::c::r) "maker" rfl (by decide +kernel))) rfl) (fP (nA (zR (is_ (w := "taker") (ws:=a::b::c::r) "taker" rfl (by decide +kernel)) (between 3 5 (ws:=a::b::c::r) rfl (by lia) (by lia))) (aEb (R:=.taker a b c r) ?_)))))));exact OD (aG (XX 0 (ws:=a::b::c::r) rfl rfl) (aG (XX 1 (ws:=a::b::c::r) rfl rfl) (aG (XX 2 (ws:=a::b::c::r) rfl rfl) (aG (Q4 3 (ws:=a::b::c::r) (by decide) (by lia) rfl) rfl)))) (lm 4 (by decide))
 | rule a b r ws=>exact aK (st "rule" (a::b::(r++("=" : Str)::ws))) (fP (nA (is_ (w := "rule") (ws:=a::b::(r++("=" : Str)::ws)) "rule" rfl (by decide +kernel)) (cX (a_ (aG rfl rfl) (aAr h)) rfl)))
theorem J1 {a b:FT} {ρ:List D} {x y:Bool} (h1:a ρ=.ok x) (h2:b ρ=.ok y):J6 a b ρ=.ok (x&&y):=by
 cases x with
 | true=>rw [Bool.true_and];exact zR h1 h2
 | false=>rw [Bool.false_and];exact T3 h1
theorem aEc {ρ:List D} {i:Nat} {ws:List Str} (lo hi:Nat) (h:fU i ρ=.ok (.tup (ws.map D.str))):bTB (bCh (bO (.ord .le)) (bO (.ord .le)) (bC (.int (lo:Int))) (aW iZ (aD (fU i) aZ)) (bC (.int (hi:Int)))) ρ=.ok (decide (lo<=ws.length)&&decide (ws.length<=hi)):=by
 by_cases h1:lo<=ws.length
 ·by_cases h2:ws.length<=hi
  ·rw [decide_eq_true h1,decide_eq_true h2];exact between lo hi h h1 h2
  ·rw [decide_eq_true h1,decide_eq_false h2];exact dJ (aD1 rfl (tX h) ((eQ .le lo ws.length).trans (by rw [show gJ.le.int (lo:Int) (ws.length:Int)=true from decide_eq_true (by lia)])) rfl ((eQ .le ws.length hi).trans (by rw [show gJ.le.int (ws.length:Int) (hi:Int)=false from decide_eq_false (by lia)];rfl)))
 ·rw [decide_eq_false h1];exact dJ (aF8 rfl (tX h) ((eQ .le lo ws.length).trans (by rw [show gJ.le.int (lo:Int) (ws.length:Int)=false from decide_eq_false (by lia)])))
def Sz (ws:List Str):Prop:=ws.length<=90/\∀w∈ws,w.length<=100
theorem Sz.lim {ws:List Str} (h:Sz ws) {w:Str} (hw:w∈ws):w.length<=lim:=by
 have:=h.2 w hw;rw [cO];lia
theorem BL {ws:List Str} (h:Sz ws):dC 1 cW [.tup (ws.map D.str)]=.ok (.bl (ws.all cF)):=by
 refine (cC rfl).trans (call_v ?_);have hf:gQ (mZ 1 M5 lL (aW (dC 1 gW) (aD cH aZ)) true [D.tup (ws.map D.str)]) [] (ws.map D.str)=.ok (ws.map fun w=>D.bl (cF w)):=
  wH _ D.str (fun w=>D.bl (cF w)) ws [] fun w hw acc=>wI (n:=1) (bs:=[.str w]) rfl rfl (a_ (xs:=[.str w]) (aG rfl rfl) (QV w (h.lim hw))) rfl
 refine cX (d:=.bl (ws.all cF)) (a_ (xs:=[.lst (ws.map fun w=>D.bl (cF w))]) (aG (o8 (vC rfl) (by rw [List.length_map,cO];have:=h.1;lia) hf) rfl) ?_) rfl;show (match kY (ws.map fun w=>D.bl (cF w)) with|some bs=>Res.ok (D.bl (bs.all id))|none=>.bad)=_;rw [lE cF];show Res.ok (D.bl ((ws.map cF).all id))=_;rw [List.all_map];rfl
theorem G4 (tt:List Str) (b:Bool) (h:((tt.map D.str).any fun y=>eqD y (.str "="))=b):bO .notin (.str "=") (.tup (tt.map D.str))=.ok (.bl (!b)):=by
 show (if (D.str ("=" : Str)).cQ bB&&D.eV bB (tt.map D.str) then Res.ok (D.bl (!((tt.map D.str).any fun y=>eqD y (.str "=")))) else .bad)=_;rw [jM,h];rfl
theorem mG {tt:List Str} (h:∀p∈tt,(p==("=" : Str))=false):dC 1 dY [.tup (tt.map D.str)]=.ok .non:=by
 refine (cC rfl).trans (call_v ?_);have hany:((tt.map D.str).any fun y=>eqD y (.str "="))=false:=by
  rw [List.any_eq_false];intro y hy;obtain ⟨p,hp,rfl⟩:=List.mem_map.mp hy;show ¬(p==("=" : Str))=true;rw [h p hp];simp
 exact fP (nA (dJ (aL (x:=.str "=") (y:=.tup (tt.map D.str)) rfl rfl (G4 tt false hany))) (cX rfl rfl))
theorem vD {hs ws:List Str} (hne:∀p∈hs,(p==("=" : Str))=false) (hz:Sz (hs++("=" : Str)::ws)) (hc:((decide (2<=hs.length)&&decide (hs.length<=7))&&((decide (1<=ws.length)&&decide (ws.length<=40))&&(hs.all cF&&ws.all cF)))=false):dC 1 dY [.tup ((hs++("=" : Str)::ws).map D.str)]=.ok .non:=by
 refine (cC rfl).trans (call_v ?_);have hi:=yN (e := "=") (ps:=hs) (qs:=ws) hne;have hany:(((hs++("=" : Str)::ws).map D.str).any fun y=>eqD y (.str "="))=true:=by
  rw [List.any_eq_true];exact ⟨.str "=",List.mem_map.mpr ⟨"=",by simp,rfl⟩,beq_self_eq_true _⟩
 have tl:(hs++("=" : Str)::ws).length=hs.length+ws.length+1:=by simp;lia
 have z1:Sz hs:=⟨by have:=hz.1;lia,fun w hw=>hz.2 w (by simp [hw])⟩
 have z2:Sz ws:=⟨by have:=hz.1;lia,fun w hw=>hz.2 w (by simp [hw])⟩
 generalize hT:(hs++("=" : Str)::ws)=tt at hi hany tl;have v0:∀x y z,fU 0 [D.tup (tt.map D.str),x,y,z]=.ok (.tup (tt.map D.str)):=fun _ _ _=>rfl
 refine aK (ρ':=[.tup (tt.map D.str),.uD,.uD,.uD]) (jD (dJ (aL rfl (v0 _ _ _) (G4 tt true hany))) rfl) ?_;refine aK (ρ':=[.tup (tt.map D.str),.int (hs.length:Int),.uD,.uD]) (bW (i:=1) (uN (v0 _ _ _) (aG rfl rfl) hi)) ?_;have c1:eO dN cG (bK cH) [D.tup (tt.map D.str),.int (hs.length:Int),.uD,.uD]=.ok (.tup (hs.map D.str)):=
  iV (v0 _ _ _) rfl (dH rfl) ((sY _ _ _ (by rw [iG,Nat.min_eq_left (by lia)];lia)).trans (by rw [yM,<-hT,BK]))
 refine aK (ρ':=[.tup (tt.map D.str),.int (hs.length:Int),.tup (hs.map D.str),.uD]) (bW (i:=2) c1) ?_;have c2:eO dN (bK (b2 (aP .add) cH eE)) cG [D.tup (tt.map D.str),.int (hs.length:Int),.tup (hs.map D.str),.uD]=.ok (.tup (ws.map D.str)):=
  iV (v0 _ _ _) (dH (i:=((hs.length+1:Nat):Int)) (aL (x:=.int (hs.length:Int)) rfl rfl rfl)) rfl ((sY _ _ _ (by rw [iG,Nat.min_eq_left (by lia)];lia)).trans (by rw [jL,<-hT,tW]))
 refine aK (ρ':=[.tup (tt.map D.str),.int (hs.length:Int),.tup (hs.map D.str),.tup (ws.map D.str)]) (bW (i:=3) c2) ?_;refine fP (nA (G3 (b:=false) ?_) (cX rfl rfl));rw [<-hc];exact J1 (aEc 2 7 (ws:=hs) rfl) (J1 (aEc 1 40 (ws:=ws) rfl) (J1 (J0 (a_ (aG rfl rfl) (BL z1))) (J0 (a_ (aG rfl rfl) (BL z2)))))
def nb (ws:List Str):Nat:=ws.countP fun w=>!cF w
theorem G5 {ws:List Str} (h:ws.all cF=true):nb ws=0:=by
 unfold nb;rw [List.countP_eq_zero];intro w hw;rw [List.all_eq_true] at h;rw [h w hw];simp
theorem tY (a b:List Str):nb (a++b)=nb a+nb b:=List.countP_append ..
theorem aDs:cF "=" = false:=by decide +kernel
theorem U8 (ws:List Str):nb (("=" : Str)::ws)=nb ws+1:=by
 unfold nb;rw [List.countP_cons,aDs];rfl
theorem vG {tt:List Str} (hz:Sz tt) (h:2<=nb tt):dC 1 dY [.tup (tt.map D.str)]=.ok .non:=by
 by_cases hm:("=" : Str)∈tt
 ·obtain ⟨hs,ws,e,hn⟩:=List.eq_append_cons_of_mem hm;subst e;refine vD (fun p hp=>beq_eq_false_iff_ne.mpr fun z=>hn (z▸hp)) hz ?_;rw [tY,U8] at h;have:(hs.all cF&&ws.all cF)=false:=by
   rw [Bool.eq_false_iff];intro z;rw [Bool.and_eq_true] at z;rw [G5 z.1,G5 z.2] at h;lia
  rw [this,Bool.and_false,Bool.and_false]
 ·exact mG fun p hp=>beq_eq_false_iff_ne.mpr fun z=>hm (z▸hp)
theorem U9 {tt:List Str} (h:dC 1 dY [.tup (tt.map D.str)]=.ok .non):dC 1 gD [.lst ((("rule" : Str)::tt).map D.str)]=.ok .non:=by
 refine (cC rfl).trans (call_v ?_);exact aK (ρ':=[.lst ((("rule" : Str)::tt).map D.str),.tup (tt.map D.str)]) (o6 (i:=1) (from_ 1 (ws:=("rule" : Str)::tt) rfl) (iI _)) (fP (nA (is_ (w := "rule") (ws:=tt) "rule" rfl (beq_self_eq_true _)) (cX (a_ (aG rfl rfl) h) rfl)))
theorem jH {k:Str} {tt:List Str} (hz:Sz tt) (hk:(k==("rule" : Str))=false) (h:tt.all cF=false\/(((k==("kind" : Str))&&decide (tt.length=1))=false/\((k==("maker" : Str))&&(decide (2<=tt.length)&&decide (tt.length<=5)))=false/\((k==("taker" : Str))&&(decide (3<=tt.length)&&decide (tt.length<=5)))=false)):dC 1 gD [.lst ((k::tt).map D.str)]=.ok .non:=by
 refine (cC rfl).trans (call_v ?_);refine aK (ρ':=[.lst ((k::tt).map D.str),.tup (tt.map D.str)]) (o6 (i:=1) (from_ 1 (ws:=k::tt) rfl) (iI _)) (aK (jD (is_ (w:=k) (ws:=tt) "rule" rfl hk) rfl) ?_);have hn:SM (bTr (aW (dC 1 cW) (aD cH aZ))) [D.lst ((k::tt).map D.str),.tup (tt.map D.str)]=.ok (!(tt.all cF)):=G3 (J0 (a_ (aG rfl rfl) (BL hz)));cases hb:tt.all cF with
 | false=>rw [hb] at hn;exact fP (nA hn (cX rfl rfl))
 | true=>
  rw [hb] at hn;rcases h with h|⟨h1,h2,h3⟩
  ·rw [hb] at h;cases h
  have l1:bTB (b2 (bO .eq) (aW iZ (aD cH aZ)) eE) [D.lst ((k::tt).map D.str),.tup (tt.map D.str)]=.ok (decide (tt.length=1)):=dJ (aL (tX (ws:=tt) rfl) rfl ((eq_int _ _).trans (by
   congr 2
   by_cases z:tt.length=1
   ·rw [decide_eq_true z,z];rfl
   ·rw [decide_eq_false z,beq_eq_false_iff_ne];lia)))
  refine aK (jD hn rfl) (aK (jD (h1▸J1 (is_ (w:=k) (ws:=tt) "kind" rfl rfl) l1) rfl) (aK (jD (h2▸J1 (is_ (w:=k) (ws:=tt) "maker" rfl rfl) (aEc 2 5 (ws:=tt) rfl)) rfl) (aK (jD (h3▸J1 (is_ (w:=k) (ws:=tt) "taker" rfl rfl) (aEc 3 5 (ws:=tt) rfl)) rfl) (cX rfl rfl))))
def Cw (w:Str):Prop:=w.length<=16/\∀c∈w.cps.toList,33<=c
theorem Q5 {w:Str} (h:(decide (w.length<=16)&&w.cps.toList.all fun c=>decide (33<=c))=true):Cw w:=by
 simp only [Bool.and_eq_true,decide_eq_true_eq,List.all_eq_true] at h;exact h
theorem uP {w:Str} (h:Nm w):Cw w:=⟨by have:=h.2.1;lia,fun c hc=>by have:=h.2.2 c hc;lia⟩
theorem Q6:Cw "kind":=Q5 (by decide +kernel)
theorem G6:Cw "maker":=Q5 (by decide +kernel)
theorem G7:Cw "taker":=Q5 (by decide +kernel)
theorem aAs:Cw "rule":=Q5 (by decide +kernel)
theorem U_:Cw "=":=Q5 (by decide +kernel)
structure Bd (ws:List Str):Prop where
 row:dC 1 gD [.lst (ws.map D.str)]=.ok .non
 ne:ws≠[]
 n1:ws≠[("" : Str)]
 len:ws.length<=60
 cw:∀w∈ws,Cw w
theorem BP {ws:List Str} (h1:ws.length<=60) (h:∀w∈ws,Cw w):Sz ws:=⟨by lia,fun w hw=>by have:=(h w hw).1;lia⟩
theorem eU {a:Str} {ws:List Str} (h:Cw a) (h2:∀w∈ws,Cw w):∀w∈a::ws,Cw w:=fun w hw=>by
 rcases List.mem_cons.mp hw with rfl|hw
 ·exact h
 ·exact h2 w hw
theorem yP {a b:List Str} (h:∀w∈a,Cw w) (h2:∀w∈b,Cw w):∀w∈a++b,Cw w:=fun w hw=>by
 rcases List.mem_append.mp hw with hw|hw
 ·exact h w hw
 ·exact h2 w hw
theorem k10:(("maker" : Str) == "kind")=false:=by decide +kernel
theorem k20:(("taker" : Str) == "kind")=false:=by decide +kernel
theorem k21:(("taker" : Str) == "maker")=false:=by decide +kernel
theorem k01:(("kind" : Str) == "maker")=false:=by decide +kernel
theorem k02:(("kind" : Str) == "taker")=false:=by decide +kernel
theorem k03:(("kind" : Str) == "rule")=false:=by decide +kernel
theorem k12:(("maker" : Str) == "taker")=false:=by decide +kernel
theorem k13:(("maker" : Str) == "rule")=false:=by decide +kernel
theorem k23:(("taker" : Str) == "rule")=false:=by decide +kernel
theorem Q7 {tt:List Str} (h:∀w∈tt,Cw w) (hl:tt.length<=50) (hn:tt.length≠1):Bd (("kind" : Str)::tt):=
 ⟨jH (BP (by lia) h) k03 (.inr ⟨by rw [decide_eq_false hn,Bool.and_false],by rw [k01,Bool.false_and],by rw [k02,Bool.false_and]⟩),by simp,fun z=>absurd (List.cons.inj z).1 (by decide +kernel),by rw [List.length_cons];lia,eU Q6 h⟩
theorem nZ {tt:List Str} (h:∀w∈tt,Cw w) (hl:tt.length<=50) (hn:¬(2<=tt.length/\tt.length<=5)):Bd (("maker" : Str)::tt):=
 ⟨jH (BP (by lia) h) k13 (.inr ⟨by rw [k10,Bool.false_and],by rw [<-Bool.decide_and,decide_eq_false hn,Bool.and_false],by rw [k12,Bool.false_and]⟩),by simp,fun z=>absurd (List.cons.inj z).1 (by decide +kernel),by rw [List.length_cons];lia,eU G6 h⟩
theorem wK {tt:List Str} (h:∀w∈tt,Cw w) (hl:tt.length<=50) (hn:¬(3<=tt.length/\tt.length<=5)):Bd (("taker" : Str)::tt):=
 ⟨jH (BP (by lia) h) k23 (.inr ⟨by rw [k20,Bool.false_and],by rw [k21,Bool.false_and],by rw [<-Bool.decide_and,decide_eq_false hn,Bool.and_false]⟩),by simp,fun z=>absurd (List.cons.inj z).1 (by decide +kernel),by rw [List.length_cons];lia,eU G7 h⟩
theorem tZ {tt:List Str} (h:∀w∈tt,Cw w) (hl:tt.length<=50) (hn:dC 1 dY [.tup (tt.map D.str)]=.ok .non):Bd (("rule" : Str)::tt):=
 ⟨U9 hn,by simp,fun z=>absurd (List.cons.inj z).1 (by decide +kernel),by rw [List.length_cons];lia,eU aAs h⟩
theorem lH {hs ws:List Str} (h:∀w∈hs,Nm w) (h2:∀w∈ws,Nm w) (hl:hs.length+ws.length<=49) (hn:¬((2<=hs.length/\hs.length<=7)/\1<=ws.length/\ws.length<=40)):Bd (("rule" : Str)::(hs++("=" : Str)::ws)):=by
 have hc:∀w∈hs++("=" : Str)::ws,Cw w:=yP (fun w hw=>uP (h w hw)) (eU U_ fun w hw=>uP (h2 w hw));have ll:(hs++("=" : Str)::ws).length<=50:=by rw [List.length_append,List.length_cons];lia
 refine tZ hc ll (vD (fun p hp=>Q3 (h p hp)) (BP (by lia) hc) ?_);rw [<-Bool.and_assoc,<-Bool.decide_and,<-Bool.decide_and,<-Bool.decide_and,decide_eq_false hn,Bool.false_and]
section
variable {ch:Int} {sm:List Str}
noncomputable def shR (ch:Int) (sm:List Str):List D:=[.int ch,.lst (sm.map D.str)]
theorem aV {k:Int} {a g:FS} {r:Res Fl} (h:ch≠k) (h2:g (shR ch sm)=r):bI (sIf (bTB (b2 (bO .eq) dN (bC (.int k)))) a d_) g (shR ch sm)=r:=aK (jD (dJ (aL (x:=.int ch) rfl rfl (aBf h))) rfl) h2
theorem gH {k:Int} {f:FE} {g:FS} {ws:List Str} (h:ch=k) (h2:f (shR ch sm)=.ok (.lst (ws.map D.str))):bI (sIf (bTB (b2 (bO .eq) dN (bC (.int k)))) (fJ f true) d_) g (shR ch sm)=.ok (.rt (.lst (ws.map D.str))):=fP (nA (dJ (aL (x:=.int ch) rfl rfl (by rw [h];exact XQ k))) (cX h2 rfl))
theorem t_ (n:Nat):eO cH cG (bK (bC (.int (n:Int)))) (shR ch sm)=.ok (.lst ((sm.take n).map D.str)):=iV (x:=.lst (sm.map D.str)) rfl rfl (dH rfl) ((mF _ _ _).trans (by rw [yM]))
theorem X3 (a b:Nat) (h:a<=b) (h2:b<=sm.length):eO cH (bK (bC (.int (a:Int)))) (bK (bC (.int (b:Int)))) (shR ch sm)=.ok (.lst (((sm.drop a).take (b-a)).map D.str)):=iV (x:=.lst (sm.map D.str)) rfl (dH rfl) (dH rfl) ((mF _ _ _).trans (by rw [aAp _ _ _ h h2]))
theorem add_l {f g:FE} {a b:List Str} {ρ:List D} (h1:f ρ=.ok (.lst (a.map D.str))) (h2:g ρ=.ok (.lst (b.map D.str))) (h:a.length+b.length<=1000):b2 (aP .add) f g ρ=.ok (.lst ((a++b).map D.str)):=aL h1 h2 (iH a b h)
theorem VB (h0:0<=ch) (h1:ch<15) (hs:∀w∈sm,Nm w) (hl:sm.length=43):∃ws:List Str,Bd ws/\dC 2 cT (shR ch sm)=.ok (.lst (ws.map D.str)):=by
 have tn:∀n w,w∈sm.take n->Nm w:=fun n w hw=>hs w (List.mem_of_mem_take hw)
 have tc:∀n w,w∈sm.take n->Cw w:=fun n w hw=>uP (tn n w hw)
 have mn:∀a b w,w∈(sm.drop a).take b->Nm w:=fun a b w hw=>hs w (List.mem_of_mem_drop (List.mem_of_mem_take hw))
 have tl:∀n,n<=43->(sm.take n).length=n:=fun n h=>by rw [List.length_take,hl];lia
 have ml:∀a b,a+b<=43->((sm.drop a).take b).length=b:=fun a b h=>by rw [List.length_take,List.length_drop,hl];lia
 have fin:∀{ws:List Str},Bd ws->iR (shR ch sm)=.ok (.rt (.lst (ws.map D.str)))->∃ws:List Str,Bd ws/\dC 2 cT (shR ch sm)=.ok (.lst (ws.map D.str)):=fun {ws} h e=>⟨ws,h,(cC rfl).trans (call_v e)⟩
 by_cases c0:ch=0
 ·exact fin (Q7 (tt:=[]) (fun w hw=>by cases hw) (by decide) (by decide)) (gH c0 (uO "kind"))
 by_cases c1:ch=1
 ·refine fin (Q7 (tt:=sm.take 2) (tc 2) (by rw [tl 2 (by decide)];decide) (by rw [tl 2 (by decide)];decide)) (aV c0 (gH (ws:=[("kind" : Str)]++sm.take 2) c1 (add_l (uO "kind") (t_ 2) (by rw [tl 2 (by decide)];decide))))
 by_cases c2:ch=2
 ·refine fin (nZ (tt:=sm.take 1) (tc 1) (by rw [tl 1 (by decide)];decide) (by rw [tl 1 (by decide)];decide)) (aV c0 (aV c1 (gH (ws:=[("maker" : Str)]++sm.take 1) c2 (add_l (uO "maker") (t_ 1) (by rw [tl 1 (by decide)];decide)))))
 by_cases c3:ch=3
 ·refine fin (nZ (tt:=sm.take 6) (tc 6) (by rw [tl 6 (by decide)];decide) (by rw [tl 6 (by decide)];decide)) (aV c0 (aV c1 (aV c2 (gH (ws:=[("maker" : Str)]++sm.take 6) c3 (add_l (uO "maker") (t_ 6) (by rw [tl 6 (by decide)];decide))))))
 by_cases c4:ch=4
 ·refine fin (wK (tt:=sm.take 2) (tc 2) (by rw [tl 2 (by decide)];decide) (by rw [tl 2 (by decide)];decide)) (aV c0 (aV c1 (aV c2 (aV c3 (gH (ws:=[("taker" : Str)]++sm.take 2) c4 (add_l (uO "taker") (t_ 2) (by rw [tl 2 (by decide)];decide)))))))
 by_cases c5:ch=5
 ·refine fin (wK (tt:=sm.take 6) (tc 6) (by rw [tl 6 (by decide)];decide) (by rw [tl 6 (by decide)];decide)) (aV c0 (aV c1 (aV c2 (aV c3 (aV c4 (gH (ws:=[("taker" : Str)]++sm.take 6) c5 (add_l (uO "taker") (t_ 6) (by rw [tl 6 (by decide)];decide))))))))
 by_cases c6:ch=6
 ·refine fin (tZ (tt:=sm.take 3) (tc 3) (by rw [tl 3 (by decide)];decide) (mG fun p hp=>Q3 (tn 3 p hp))) (aV c0 (aV c1 (aV c2 (aV c3 (aV c4 (aV c5 (gH (ws:=[("rule" : Str)]++sm.take 3) c6 (add_l (uO "rule") (t_ 3) (by rw [tl 3 (by decide)];decide)))))))))
 have ru:∀(a b k:Nat),a<=b->b<=43->a=k->(b2 (aP .add) (b2 (aP .add) (b2 (aP .add) (fG (aD (bC (.str "rule")) aZ)) (eO cH cG (bK (bC (.int (k:Int)))))) (fG (aD (bC (.str "=")) aZ))) (eO cH (bK (bC (.int (a:Int)))) (bK (bC (.int (b:Int)))))) (shR ch sm)=.ok (.lst ((("rule" : Str)::(sm.take k++("=" : Str)::(sm.drop a).take (b-a))).map D.str)):=fun a b k g1 g2 g3=>by
  have:=add_l (add_l (add_l (uO "rule") (t_ (ch:=ch) (sm:=sm) k) (by rw [tl k (by lia)];show 1+k<=1000;lia)) (uO "=") (by simp only [List.length_append,List.length_cons,List.length_nil];rw [tl k (by lia)];lia)) (X3 (ch:=ch) (sm:=sm) a b g1 (by lia)) (by simp only [List.length_append,List.length_cons,List.length_nil];rw [tl k (by lia),ml a (b-a) (by lia)];lia);rw [this];simp
 by_cases c7:ch=7
 ·refine fin (lH (hs:=sm.take 1) (ws:=(sm.drop 1).take (2-1)) (tn 1) (mn 1 (2-1)) (by rw [tl 1 (by decide),ml 1 1 (by decide)];decide) (by rw [tl 1 (by decide)];lia)) (aV c0 (aV c1 (aV c2 (aV c3 (aV c4 (aV c5 (aV c6 (gH c7 (ru 1 2 1 (by decide) (by decide) rfl)))))))))
 by_cases c8:ch=8
 ·refine fin (lH (hs:=sm.take 8) (ws:=(sm.drop 8).take (9-8)) (tn 8) (mn 8 (9-8)) (by rw [tl 8 (by decide),ml 8 1 (by decide)];decide) (by rw [tl 8 (by decide)];lia)) (aV c0 (aV c1 (aV c2 (aV c3 (aV c4 (aV c5 (aV c6 (aV c7 (gH c8 (ru 8 9 8 (by decide) (by decide) rfl))))))))))
 by_cases c9:ch=9
 ·refine fin (lH (hs:=sm.take 3) (ws:=[]) (tn 3) (fun w hw=>by cases hw) (by rw [tl 3 (by decide)];decide) (by rw [tl 3 (by decide)];show ¬(_/\1<=0/\_);lia)) (aV c0 (aV c1 (aV c2 (aV c3 (aV c4 (aV c5 (aV c6 (aV c7 (aV c8 (gH c9 ?_))))))))));exact (add_l (add_l (uO "rule") (t_ 3) (by rw [tl 3 (by decide)];decide)) (uO "=") (by rw [List.length_append,tl 3 (by decide)];decide))
 by_cases c10:ch=10
 ·refine fin (lH (hs:=sm.take 2) (ws:=(sm.drop 2).take (43-2)) (tn 2) (mn 2 (43-2)) (by rw [tl 2 (by decide),ml 2 41 (by decide)];decide) (by rw [tl 2 (by decide),ml 2 41 (by decide)];lia)) (aV c0 (aV c1 (aV c2 (aV c3 (aV c4 (aV c5 (aV c6 (aV c7 (aV c8 (aV c9 (gH c10 (ru 2 43 2 (by decide) (by decide) rfl))))))))))))
 by_cases c11:ch=11
 ·have hc:∀w∈sm.take 3++("=" : Str)::((sm.drop 3).take (4-3)++("=" : Str)::(sm.drop 4).take (5-4)),Cw w:=yP (tc 3) (eU U_ (yP (fun w hw=>uP (mn _ _ w hw)) (eU U_ fun w hw=>uP (mn _ _ w hw))));have ll:(sm.take 3++("=" : Str)::((sm.drop 3).take (4-3)++("=" : Str)::(sm.drop 4).take (5-4))).length=7:=by
   simp only [List.length_append,List.length_cons];rw [tl 3 (by decide),ml 3 1 (by decide),ml 4 1 (by decide)]
  refine fin (tZ hc (by lia) (vG (BP (by lia) hc) (by rw [tY,U8,tY,U8];lia))) (aV c0 (aV c1 (aV c2 (aV c3 (aV c4 (aV c5 (aV c6 (aV c7 (aV c8 (aV c9 (aV c10 (gH c11 ?_))))))))))));have:=add_l (add_l (ru 3 4 3 (by decide) (by decide) rfl) (uO "=") (by simp only [List.length_append,List.length_cons,List.length_nil];rw [tl 3 (by decide),ml 3 1 (by decide)];lia)) (X3 (ch:=ch) (sm:=sm) 4 5 (by decide) (by lia)) (by simp only [List.length_append,List.length_cons,List.length_nil];rw [tl 3 (by decide),ml 3 1 (by decide),ml 4 1 (by decide)];lia);refine this.trans ?_;simp
 by_cases c12:ch=12
 ·refine fin (nZ (tt:=sm.take 9) (tc 9) (by rw [tl 9 (by decide)];decide) (by rw [tl 9 (by decide)];decide)) (aV c0 (aV c1 (aV c2 (aV c3 (aV c4 (aV c5 (aV c6 (aV c7 (aV c8 (aV c9 (aV c10 (aV c11 (gH (ws:=[("maker" : Str)]++sm.take 9) c12 (add_l (uO "maker") (t_ 9) (by rw [tl 9 (by decide)];decide)))))))))))))))
 by_cases c13:ch=13
 ·refine fin (lH (hs:=[]) (ws:=sm.take 1) (fun w hw=>by cases hw) (tn 1) (by rw [tl 1 (by decide)];decide) (by show ¬((2<=0/\_)/\_);lia)) (aV c0 (aV c1 (aV c2 (aV c3 (aV c4 (aV c5 (aV c6 (aV c7 (aV c8 (aV c9 (aV c10 (aV c11 (aV c12 (gH (ws:=[("rule" : Str),("=" : Str)]++sm.take 1) c13 (add_l (sZ (aG rfl (aG rfl rfl)) (by rw [cO];show 2<=1000000;decide)) (t_ 1) (by rw [tl 1 (by decide)];decide))))))))))))))))
 match sm,hl,hs with
 | w0::sm',hl,hs=>
  have n0:=hs w0 (List.mem_cons_self ..);have hm:=cY (w0.length:Int) 3 (by decide);have m0:0<=(w0.length:Int) % 3:=Int.emod_nonneg _ (by decide);have m1:(w0.length:Int) % 3<3:=Int.emod_lt_of_pos _ (by decide);generalize (w0.length:Int) % 3=m at hm m0 m1;have hi:b2 (aP .mod) (aW iZ (aD (b2 getD cH iY) aZ)) mY (shR ch (w0::sm'))=.ok (.int m):=aL (a_ (aG (at_ 0 (ws:=w0::sm') rfl rfl) rfl) (len_str w0 (QW n0))) rfl hm;have hL:fG (aD (fG (aD (bC (.str "maker")) aZ)) (aD (b2 (aP .add) (fG (aD (bC (.str "taker")) aZ)) (eO cH cG (bK eE))) (aD (fG (aD (bC (.str "rule")) aZ)) aZ))) (shR ch (w0::sm'))=.ok (.lst [.lst ((["maker"]:List Str).map D.str),.lst (([("taker" : Str)]++[w0]:List Str).map D.str),.lst ((["rule"]:List Str).map D.str)]):=
   sZ (aG (uO "maker") (aG (add_l (uO "taker") (t_ (sm:=w0::sm') 1) (by show 1+1<=1000;decide)) (aG (uO "rule") rfl))) (by rw [cO];show 3<=1000000;decide)
  have go:∀{ws:List Str},Bd ws->aEa (.lst [.lst ((["maker"]:List Str).map D.str),.lst (([("taker" : Str)]++[w0]:List Str).map D.str),.lst ((["rule"]:List Str).map D.str)]) (.int m)=.ok (.lst (ws.map D.str))->∃ws:List Str,Bd ws/\dC 2 cT (shR ch (w0::sm'))=.ok (.lst (ws.map D.str)):=fun hb hg=>fin hb (aV c0 (aV c1 (aV c2 (aV c3 (aV c4 (aV c5 (aV c6 (aV c7 (aV c8 (aV c9 (aV c10 (aV c11 (aV c12 (aV c13 (cX (aL hL hi hg) rfl)))))))))))))))
  have:m=0\/m=1\/m=2:=by lia
  rcases this with rfl|rfl|rfl
  ·exact go (ws:=[("maker" : Str)]) (nZ (tt:=[]) (fun w hw=>by cases hw) (by decide) (by decide)) rfl
  ·exact go (ws:=[("taker" : Str),w0]) (wK (tt:=[w0]) (eU (uP n0) fun w hw=>by cases hw) (by show 1<=50;decide) (by show ¬(3<=1/\1<=5);decide)) rfl
  ·exact go (ws:=[("rule" : Str)]) (tZ (tt:=[]) (fun w hw=>by cases hw) (by decide) (mG fun p hp=>by cases hp)) rfl
end
noncomputable def tx (cs:List Nat):Str:=⟨cs.toArray⟩
theorem mR (cs:List Nat):(tx cs).length=cs.length:=by
 show cs.toArray.size=_;simp
theorem aDt (a b:List Nat):tx a++tx b=tx (a++b):=by
 show (⟨a.toArray++b.toArray⟩:Str)=⟨(a++b).toArray⟩
 congr 1
 simp
theorem yQ {cs:List Nat} {l u:Option Int} {a b:Nat} (hab:a<=b) (hb:b<=cs.length) (e:Builtin.Str.strSliceIndices l u 1 (tx cs).length=Builtin.Str.strSliceIndices (some (a:Int)) (some (b:Int)) 1 (tx cs).length):Txt.slice (tx cs) l u=tx ((cs.drop a).take (b-a)):=by
 unfold Txt.slice;rw [e];split
 ·rename_i hw;rw [StrLaws.strSliceIndices_plain hab (by rw [mR];exact hb),mR] at hw;have:b-a=cs.length:=by simpa using hw
  have ha:a=0:=by lia
  rw [this,ha,List.drop_zero,List.take_of_length_le (Nat.le_refl _)]
 ·rw [StrLaws.sliced_plain (tx cs) hab (by rw [mR];exact hb)];unfold tx
  congr 1
theorem yR (cs:List Nat) (a:Nat):Txt.slice (tx cs) none (some (a:Int))=tx (cs.take a):=by
 have e:Builtin.Str.strSliceIndices none (some (a:Int)) 1 (tx cs).length=Builtin.Str.strSliceIndices (some ((0:Nat):Int)) (some ((min a cs.length:Nat):Int)) 1 (tx cs).length:=by
  rw [mR];simp only [Builtin.Str.strSliceIndices];have e0:max (0:Int) (min (if ((0:Nat):Int)<0 then ((0:Nat):Int)+(cs.length:Int) else ((0:Nat):Int)) (cs.length:Int))=0:=by
   rw [if_neg (by lia)];lia
  have e1:max (0:Int) (min (if (a:Int)<0 then (a:Int)+(cs.length:Int) else (a:Int)) (cs.length:Int))=max (0:Int) (min (if ((min a cs.length:Nat):Int)<0 then ((min a cs.length:Nat):Int)+(cs.length:Int) else ((min a cs.length:Nat):Int)) (cs.length:Int)):=by
   rw [if_neg (by lia),if_neg (by lia)];lia
  simp only [show (1:Int) > 0 from by decide,if_true,e0,e1]
 rw [yQ (Nat.zero_le _) (Nat.min_le_right _ _) e,List.drop_zero,Nat.sub_zero];by_cases h:a<=cs.length
 ·rw [Nat.min_eq_left h]
 ·rw [Nat.min_eq_right (by lia),List.take_of_length_le (Nat.le_refl _),List.take_of_length_le (by lia)]
theorem BR (cs:List Nat) (a:Nat):Txt.slice (tx cs) (some (a:Int)) none=tx (cs.drop a):=by
 have e:Builtin.Str.strSliceIndices (some (a:Int)) none 1 (tx cs).length=Builtin.Str.strSliceIndices (some ((min a cs.length:Nat):Int)) (some ((cs.length:Nat):Int)) 1 (tx cs).length:=by
  rw [mR];simp only [Builtin.Str.strSliceIndices];have e0:max (0:Int) (min (if ((cs.length:Nat):Int)<0 then ((cs.length:Nat):Int)+(cs.length:Int) else ((cs.length:Nat):Int)) (cs.length:Int))=(cs.length:Int):=by
   rw [if_neg (by lia)];lia
  have e1:max (0:Int) (min (if (a:Int)<0 then (a:Int)+(cs.length:Int) else (a:Int)) (cs.length:Int))=max (0:Int) (min (if ((min a cs.length:Nat):Int)<0 then ((min a cs.length:Nat):Int)+(cs.length:Int) else ((min a cs.length:Nat):Int)) (cs.length:Int)):=by
   rw [if_neg (by lia),if_neg (by lia)];lia
  simp only [show (1:Int) > 0 from by decide,if_true,e0,e1]
 rw [yQ (Nat.min_le_right _ _) (Nat.le_refl _) e,List.take_of_length_le (by rw [List.length_drop];exact Nat.le_refl _)];by_cases h:a<=cs.length
 ·rw [Nat.min_eq_left h]
 ·rw [Nat.min_eq_right (by lia),List.drop_eq_nil_of_le (Nat.le_refl _),List.drop_eq_nil_of_le (by lia)]
theorem mH {a:FE} {lo hi:List D->Res (Option Int)} {ρ:List D} {x:Str} {l h:Option Int} (h1:a ρ=.ok (.str x)) (h2:lo ρ=.ok l) (h3:hi ρ=.ok h) (hx:x.length<=1000):eO a lo hi ρ=.ok (.str (Txt.slice x l h)):=by
 unfold eO;rw [h1,Res.aO,h2,Res.aO,h3,Res.aO];show (if decide (x.length<=lim) then Res.ok (D.str (Txt.slice x l h)) else .bad)=_;rw [if_pos (by rw [cO];exact decide_eq_true (by lia))]
theorem mU {w:Str} (h:¬Nm w):cF w=false:=by
 rw [Bool.eq_false_iff];intro z;apply h;unfold cF codeOk at z;simp only [Bool.and_eq_true,decide_eq_true_eq,List.all_eq_true] at z;exact ⟨z.1.1,z.1.2,fun c hc=>z.2 c hc⟩
noncomputable def sgn:Str := "!\"#$&'()*+,-./0123456789:;<=>?@ABCDEFGHIJKLMNOPQRSTUVWXYZ[\\]^_`{|}~"
theorem aDu:("!\"#$&'()*+,-./0123456789:;<=>?@ABCDEFGHIJKLM" : Str)++("NOPQRSTUVWXYZ[\\]^_`{|}~" : Str)=sgn:=by decide +kernel
theorem Q8:(sgn.cps.toList.length==67&&sgn.cps.toList.all fun c=>decide (33<=c)&&(decide (c<97)||decide (122<c)))=true:=by decide +kernel
theorem aAt (i:Int) (h0:0<=i) (h1:i<67):∃c:Nat,33<=c/\(c<97\/122<c)/\getD (.str sgn) (.int i)=.ok (.str (one c)):=by
 have hs:=Q8;rw [Bool.and_eq_true,beq_iff_eq] at hs;obtain ⟨hl,ha⟩:=hs;have hi:i.toNat<sgn.cps.toList.length:=by lia
 have hc:=List.all_eq_true.mp ha _ (List.getElem_mem hi);simp only [Bool.and_eq_true,Bool.or_eq_true,decide_eq_true_eq] at hc;refine ⟨_,hc.1,hc.2,?_⟩;show (if decide (sgn.length<=lim) then Res.ofOpt (((ixD sgn.cps.toList.length i).bind fun j=>sgn.cps.toList[j]?).map fun c=>D.str ⟨#[c]⟩) else .bad)=_;rw [if_pos (by decide +kernel)];unfold ixD;rw [if_pos h0,if_pos (by lia)];simp only [Option.bind_some];rw [List.getElem?_eq_getElem hi];rfl
def aAu (w:Str) (n c:Nat):Str:=(tx (w.cps.toList.take n)++one c)++tx (w.cps.toList.drop (n+1))
theorem mJ (w:Str) (n c:Nat):(aAu w n c).cps.toList=w.cps.toList.take n++c::w.cps.toList.drop (n+1):=by
 show (((w.cps.toList.take n).toArray++#[c])++(w.cps.toList.drop (n+1)).toArray).toList=_;simp
theorem VD (w:Str) (n c:Nat) (h:n<w.length):(aAu w n c).length=w.length:=by
 show (aAu w n c).cps.size=w.length;have hw:w.cps.toList.length=w.length:=rfl;rw [<-Array.length_toList,mJ,List.length_append,List.length_cons,List.length_take,List.length_drop];lia
theorem VF {w:Str} {n c:Nat} (hc:c<97\/122<c):¬Nm (aAu w n c):=fun z=>by
 have:=z.2.2 c (by rw [mJ];simp);lia
theorem aAv {w:Str} {n c:Nat} (hw:Nm w) (h:n<w.length) (hc:33<=c):Cw (aAu w n c):=by
 refine ⟨by rw [VD w n c h];have:=hw.2.1;lia,fun d hd=>?_⟩;rw [mJ] at hd;rcases List.mem_append.mp hd with hd|hd
 ·have:=hw.2.2 d (List.mem_of_mem_take hd);lia
 ·rcases List.mem_cons.mp hd with rfl|hd
  ·exact hc
  ·have:=hw.2.2 d (List.mem_of_mem_drop hd);lia
noncomputable def nine (w:Str):Str:=Txt.slice (w++("ponmlkjih" : Str)) none (some 9)
theorem Q9 (w:Str):nine w=tx ((w.cps.toList++("ponmlkjih" : Str).cps.toList).take 9):=by
 have e:w++("ponmlkjih" : Str)=tx (w.cps.toList++("ponmlkjih" : Str).cps.toList):=aDt w.cps.toList ("ponmlkjih" : Str).cps.toList;unfold nine;rw [e];exact yR _ 9
theorem G8 (w:Str):(nine w).length=9:=by
 have h9:("ponmlkjih" : Str).cps.toList.length=9:=by decide +kernel
 rw [Q9,mR,List.length_take,List.length_append];lia
theorem VG (w:Str):¬Nm (nine w):=fun z=>by have:=z.2.1;rw [G8] at this;lia
theorem aAw {w:Str} (hw:Nm w):Cw (nine w):=by
 refine ⟨by rw [G8];decide,fun c hc=>?_⟩;have hp:(("ponmlkjih" : Str).cps.toList.all fun c=>decide (33<=c))=true:=by decide +kernel
 rw [Q9] at hc;have hc:c∈(w.cps.toList++("ponmlkjih" : Str).cps.toList).take 9:=by simpa [tx] using hc
 rcases List.mem_append.mp (List.mem_of_mem_take hc) with hc|hc
 ·have:=hw.2.2 c hc;lia
 ·exact of_decide_eq_true (List.all_eq_true.mp hp c hc)
def four (k:Str):Prop:=k = "kind"\/k = "maker"\/k = "taker"\/k = "rule"
theorem aDv {ws:List Str} (h:∀w∈ws,Nm w):nb ws=0:=G5 (List.all_eq_true.mpr fun w hw=>U6 (h w hw))
theorem yS {R:Row} (h:R.ok):∃(k a:Str) (tt:List Str),R.words=k::a::tt/\four k/\Nm a/\(∀w∈tt,Nm w\/w = "=")/\tt.length<=47/\(k = "rule"->nb (a::tt)=1):=by
 cases R with
 | kind w=>exact ⟨_,_,_,rfl,.inl rfl,h,fun w hw=>(by cases hw),by decide,fun z=>absurd z (by decide +kernel)⟩
 | maker a b r=>
  obtain ⟨ha,hb,hr,hl⟩:=h;exact ⟨_,_,_,rfl,.inr (.inl rfl),ha,fun w hw=>.inl ((List.mem_cons.mp hw).elim (fun e=>e▸hb) (hr w)),by rw [List.length_cons];lia,fun z=>absurd z (by decide +kernel)⟩
 | taker a b c r=>
  obtain ⟨ha,hb,hc,hr,hl⟩:=h;exact ⟨_,_,_,rfl,.inr (.inr (.inl rfl)),ha,fun w hw=>.inl ((List.mem_cons.mp hw).elim (fun e=>e▸hb) fun hw=>(List.mem_cons.mp hw).elim (fun e=>e▸hc) (hr w)),by rw [List.length_cons,List.length_cons];lia,fun z=>absurd z (by decide +kernel)⟩
 | rule a b r ws=>
  obtain ⟨ha,hb,hr,hl,hw,hw1,hw2⟩:=h;refine ⟨_,_,_,rfl,.inr (.inr (.inr rfl)),ha,fun w hx=>?_,by rw [List.length_cons,List.length_append,List.length_cons];lia,fun _=>?_⟩
  ·rcases List.mem_cons.mp hx with rfl|hx
   ·exact .inl hb
   ·rcases List.mem_append.mp hx with hx|hx
    ·exact .inl (hr w hx)
    ·rcases List.mem_cons.mp hx with rfl|hx
     ·exact .inr rfl
     ·exact .inl (hw w hx)
  ·rw [show a::b::(r++("=" : Str)::ws)=(a::b::r)++("=" : Str)::ws from rfl,tY,U8,aDv hw,aDv (ws:=a::b::r) fun w hx=>(List.mem_cons.mp hx).elim (fun e=>e▸ha) fun hx=>(List.mem_cons.mp hx).elim (fun e=>e▸hb) (hr w)]
theorem VH {k:Str} {tt tt':List Str} (h4:four k) (hr:k = "rule"->nb tt=1) (hn:nb tt'=nb tt+1) (hc:∀w∈tt',Cw w) (hl:tt'.length<=50):Bd (k::tt'):=by
 have hz:Sz tt':=BP (by lia) hc;have na:tt'.all cF=false:=by
  rw [Bool.eq_false_iff];intro z;rw [G5 z] at hn;lia
 have go:∀k:Str,Cw k->(k==("rule" : Str))=false->(k==("" : Str))=false->Bd (k::tt'):=fun k hk h1 h2=>⟨jH hz h1 (.inl na),by simp,fun z=>by rw [(List.cons.inj z).1] at h2;exact absurd h2 (by decide +kernel),by rw [List.length_cons];lia,eU hk hc⟩
 rcases h4 with rfl|rfl|rfl|rfl
 ·exact go _ Q6 k03 (by decide +kernel)
 ·exact go _ G6 k13 (by decide +kernel)
 ·exact go _ G7 k23 (by decide +kernel)
 ·exact tZ hc hl (vG hz (by rw [hn,hr rfl];decide))
theorem j0 {k:Str} {tt:List Str} (hk:Cw k) (h:(!(k==("kind" : Str))&&!(k==("maker" : Str))&&!(k==("taker" : Str))&&!(k==("rule" : Str)))=true) (hc:∀w∈tt,Cw w) (hl:tt.length<=55) (ht:tt≠[]):Bd (k::tt):=by
 simp only [Bool.and_eq_true,Bool.not_eq_true'] at h;exact ⟨jH (BP (by lia) hc) h.2 (.inr ⟨by rw [h.1.1.1,Bool.false_and],by rw [h.1.1.2,Bool.false_and],by rw [h.1.2,Bool.false_and]⟩),by simp,fun z=>ht (List.cons.inj z).2,by rw [List.length_cons];lia,eU hk hc⟩
theorem mK (w:Str) (ws:List Str):nb (w::ws)=nb ws+if cF w then 0 else 1:=by
 unfold nb;rw [List.countP_cons];cases cF w <;> rfl
theorem Q_ {w v:Str} (hw:cF w=true) (hv:cF v=false):∀{tt:List Str} {n:Nat},tt[n]?=some w->nb (tt.set n v)=nb tt+1
 | [],n,h=>by simp at h
 | a::tt,0,h=>by
  simp only [List.getElem?_cons_zero,Option.some.injEq] at h;subst h;rw [List.set_cons_zero,mK,mK,hv,hw];rfl
 | a::tt,n+1,h=>by
  rw [List.getElem?_cons_succ] at h;rw [List.set_cons_succ,mK,mK,Q_ hw hv h];lia
theorem X4 {tt:List Str} {n:Nat} {v:Str} (hc:∀w∈tt,Cw w) (hv:Cw v):∀w∈tt.set n v,Cw w:=fun w hw=>by
 rcases List.mem_or_eq_of_mem_set hw with hw|rfl
 ·exact hc w hw
 ·exact hv
theorem aAx {i:Nat} {fk fv:FE} {ρ xs:List D} {d:D} {k:Int} {j:Nat} (h1:fv ρ=.ok d) (h2:fk ρ=.ok (.int k)) (h3:J7 (ρ.getD i .uD)=some xs) (hp:d.pure=true) (hj:ixD xs.length k=some j) {ρ':List D} (he:ρ.set i (aD6 (ρ.getD i .uD) (xs.set j d))=ρ'):jO i fk fv ρ=.ok (.nx ρ'):=by
 subst he;unfold jO;rw [h1,Res.aO,h2,Res.aO,h3];dsimp only;rw [if_pos hp,hj]
theorem RB {i:Nat} {f:FE} {ρ:List D} {d:D} (h:f ρ=.ok d) (hp:inner d=true):dI true i f true ρ=.ok (.nx (ρ.set i d)):=by
 unfold dI;rw [h,Res.aO];simp only [if_true,Bool.true_and];rw [if_pos hp]
noncomputable def sgR (ch m:Int) (W0 W:List Str) (n:Int) (s5 s6 s7 s8:D):List D:=[.lst (W0.map D.str),.int ch,.int m,.lst (W.map D.str),.int n,s5,s6,s7,s8]
section
variable {ch m n:Int} {W0 W:List Str} {s5 s6 s7 s8:D} {r:Res Fl} {g a:FS}
theorem bF {k:Int} (h:ch≠k) (h2:g (sgR ch m W0 W n s5 s6 s7 s8)=r):bI (sIf (bTB (b2 (bO .eq) cH (bC (.int k)))) a d_) g (sgR ch m W0 W n s5 s6 s7 s8)=r:=aK (jD (dJ (aL (x:=.int ch) rfl rfl (aBf h))) rfl) h2
theorem mV {k:Int} {ρ':List D} (h:ch=k) (h1:a (sgR ch m W0 W n s5 s6 s7 s8)=.ok (.nx ρ')) (h2:g ρ'=r):bI (sIf (bTB (b2 (bO .eq) cH (bC (.int k)))) a d_) g (sgR ch m W0 W n s5 s6 s7 s8)=r:=aK (nA (dJ (aL (x:=.int ch) rfl rfl (by rw [h];exact XQ k))) h1) h2
theorem aH2 {a b:FT} {ρ:List D} (h1:a ρ=.ok true):bOr a b ρ=.ok true:=by
 unfold bOr;rw [h1];rfl
theorem aG6 {a b:FT} {ρ:List D} {r:Res Bool} (h1:a ρ=.ok false) (h2:b ρ=r):bOr a b ρ=r:=by
 unfold bOr;rw [h1];exact h2
theorem iJ (h:ch≠4) (h':ch≠7) (h2:g (sgR ch m W0 W n s5 s6 s7 s8)=r):bI (sIf (bOr (bTB (b2 (bO .eq) cH RN)) (bTB (b2 (bO .eq) cH aBb))) a d_) g (sgR ch m W0 W n s5 s6 s7 s8)=r:=aK (jD (aG6 (dJ (aL (x:=.int ch) rfl rfl (aBf h))) (dJ (aL (x:=.int ch) rfl rfl (aBf h')))) rfl) h2
theorem G9 {ρ':List D} (h:ch=4\/ch=7) (h1:a (sgR ch m W0 W n s5 s6 s7 s8)=.ok (.nx ρ')) (h2:g ρ'=r):bI (sIf (bOr (bTB (b2 (bO .eq) cH RN)) (bTB (b2 (bO .eq) cH aBb))) a d_) g (sgR ch m W0 W n s5 s6 s7 s8)=r:=by
 refine aK (nA ?_ h1) h2;rcases h with h|h
 ·exact aH2 (dJ (aL (x:=.int ch) rfl rfl (by rw [h];exact XQ 4)))
 ·exact aG6 (dJ (aL (x:=.int ch) rfl rfl (aBf (by lia)))) (dJ (aL (x:=.int ch) rfl rfl (by rw [h];exact XQ 7)))
theorem jV:Y_ 3 (sgR ch m W0 W n s5 s6 s7 s8)=.ok (.rt (.lst (W.map D.str))):=rfl
theorem vH {fk fv:FE} {k:Int} {j:Nat} {v:Str} (h1:fv (sgR ch m W0 W n s5 s6 s7 s8)=.ok (.str v)) (h2:fk (sgR ch m W0 W n s5 s6 s7 s8)=.ok (.int k)) (hk:k=(j:Int)) (hj:j<W.length):jO 3 fk fv (sgR ch m W0 W n s5 s6 s7 s8)=.ok (.nx (sgR ch m W0 (W.set j v) n s5 s6 s7 s8)):=by
 refine aAx (xs:=W.map D.str) (j:=j) h1 h2 rfl rfl ?_ ?_
 ·rw [hk,List.length_map];exact GZ hj
 ·unfold sgR;rw [List.map_set];rfl
theorem X5 {fk fv:FE} {k:Int} {j:Nat} {v:Str} (h1:fk (sgR ch m W0 W n s5 s6 s7 s8)=.ok (.int k)) (h2:fv (sgR ch m W0 W n s5 s6 s7 s8)=.ok (.str v)) (hk:k=(j:Int)) (hj:j<=W.length) (hl:W.length<=100):SN 3 fk fv (sgR ch m W0 W n s5 s6 s7 s8)=.ok (.nx (sgR ch m W0 (W.take j++v::W.drop j) n s5 s6 s7 s8)):=by
 refine (W5 (xs:=W.map D.str) h1 h2 rfl (by rw [List.length_map,cO];lia) rfl (by lia) (by rw [List.length_map];lia)).trans ?_;unfold sgR;rw [hk,Int.toNat_natCast,List.map_append,List.map_cons,List.map_take,List.map_drop];rfl
theorem aFm {ρ:List D} {i j:Nat} {ws:List Str} {k:Nat} {w:Str} (h1:fU i ρ=.ok (.lst (ws.map D.str))) (hj:fU j ρ=.ok (.int (k:Int))) (h2:ws[k]?=some w):b2 getD (fU i) (fU j) ρ=.ok (.str w):=aL h1 hj (XR h2)
end
theorem VJ {R:Row} (hR:R.ok) {ch more:Int} (hm:0<=more):∃(n:Nat) (w:Str) (m:Int),1<=n/\R.words[n]?=some w/\Nm w/\0<=m/\∀(g:FS) (r:Res Fl),g (sgR ch m R.words R.words (n:Int) .uD .uD .uD .uD)=r->
  bI (dI true 3 (aW M3 (aD dN aZ)) true) (bI (dI false 4 (b2 (aP .add) eE (b2 (aP .mod) e_ (b2 (aP .sub) (aW iZ (aD iW aZ)) eE))) true) (bI (sIf (bTB (b2 (bO .eq) (b2 getD iW mX) (bC (.str "=")))) (dI false 4 eE true) d_) (bI (dI false 2 (b2 (aP .fdiv) e_ Y7) true) g)))
   [.lst (R.words.map D.str),.int ch,.int more,.uD,.uD,.uD,.uD,.uD,.uD]=r:=by
 obtain ⟨k,a,tt,hW,h4,ha,ht,hl,hr⟩:=yS hR;rw [hW];have hL:(k::a::tt).length=tt.length+2:=rfl;have hp:(0:Int)<(tt.length+1:Nat):=by lia
 have e1:=cY more (tt.length+1:Nat) hp;have q0:0<=more % ((tt.length+1:Nat):Int):=Int.emod_nonneg _ (by lia);have q1:more % ((tt.length+1:Nat):Int)<(tt.length+1:Nat):=Int.emod_lt_of_pos _ hp;generalize more % ((tt.length+1:Nat):Int)=q at e1 q0 q1;obtain ⟨p,rfl⟩:∃p:Nat,q=p:=⟨q.toNat,by lia⟩
 have e48:=eY more 48 (by decide) (by decide);have hpl:p<tt.length+1:=by lia
 have s1:dI true 3 (aW M3 (aD dN aZ)) true [.lst ((k::a::tt).map D.str),.int ch,.int more,.uD,.uD,.uD,.uD,.uD,.uD]=.ok (.nx [.lst ((k::a::tt).map D.str),.int ch,.int more,.lst ((k::a::tt).map D.str),.uD,.uD,.uD,.uD,.uD]):=
  RB (i:=3) (a_ (aG rfl rfl) (show (if D.bU ((k::a::tt).map D.str)=true then Res.ok (D.lst ((k::a::tt).map D.str)) else .bad)=_ by rw [if_pos (dZ _)])) (dZ _)
 have hlen:aW iZ (aD iW aZ) [D.lst ((k::a::tt).map D.str),.int ch,.int more,.lst ((k::a::tt).map D.str),.uD,.uD,.uD,.uD,.uD]=.ok (.int (((tt.length+2:Nat)):Int)):=a_ (aG rfl rfl) (by show Res.ok (D.int (((k::a::tt).map D.str).length:Int))=_;rw [List.length_map,hL]);have hsub:aP .sub (.int ((tt.length+2:Nat):Int)) (.int 1)=.ok (.int ((tt.length+1:Nat):Int)):=by
  show Res.ok (D.int (((tt.length+2:Nat):Int)-1))=_
  congr 2
  lia
 have s2:dI false 4 (b2 (aP .add) eE (b2 (aP .mod) e_ (b2 (aP .sub) (aW iZ (aD iW aZ)) eE))) true [.lst ((k::a::tt).map D.str),.int ch,.int more,.lst ((k::a::tt).map D.str),.uD,.uD,.uD,.uD,.uD]=.ok (.nx [.lst ((k::a::tt).map D.str),.int ch,.int more,.lst ((k::a::tt).map D.str),.int ((p+1:Nat):Int),.uD,.uD,.uD,.uD]):=
  bW (i:=4) (aL (x:=.int 1) rfl (aL (x:=.int more) rfl (aL hlen rfl hsub) e1) (by show Res.ok (D.int (1+(p:Int)))=_;congr 2;lia))
 obtain ⟨v,hv⟩:∃v,(a::tt)[p]?=some v:=⟨_,List.getElem?_eq_getElem (by rw [List.length_cons];exact hpl)⟩
 have hv':(k::a::tt)[p+1]?=some v:=by rw [List.getElem?_cons_succ];exact hv
 have m0:0<=more / 48:=Int.ediv_nonneg hm (by decide);have s4:∀(n:Nat) (g:FS) (r:Res Fl),g (sgR ch (more / 48) (k::a::tt) (k::a::tt) (n:Int) .uD .uD .uD .uD)=r->bI (dI false 2 (b2 (aP .fdiv) e_ Y7) true) g [.lst ((k::a::tt).map D.str),.int ch,.int more,.lst ((k::a::tt).map D.str),.int (n:Int),.uD,.uD,.uD,.uD]=r:=fun n g r h=>aK (bW (i:=2) (aL (x:=.int more) rfl rfl e48)) h
 have hat:b2 getD iW mX [.lst ((k::a::tt).map D.str),.int ch,.int more,.lst ((k::a::tt).map D.str),.int ((p+1:Nat):Int),.uD,.uD,.uD,.uD]=.ok (.str v):=aFm (ws:=k::a::tt) (k:=p+1) rfl rfl hv';by_cases he:v = "="
 ·refine ⟨1,a,more / 48,Nat.le_refl _,rfl,ha,m0,fun g r h=>aK s1 (aK s2 (aK (nA (dJ (aL hat rfl ((eq_str v "=").trans (by rw [he,beq_self_eq_true])))) (bW (i:=4) rfl)) (s4 1 g r h)))⟩
 ·have hn:Nm v:=by
   rcases List.mem_cons.mp (List.mem_of_getElem? hv) with rfl|hv
   ·exact ha
   ·exact (ht v hv).resolve_right he
  exact ⟨p+1,v,more / 48,by lia,hv',hn,m0,fun g r h=>aK s1 (aK s2 (aK (jD (dJ (aL hat rfl ((eq_str v "=").trans (by rw [beq_eq_false_iff_ne.mpr he])))) rfl) (s4 (p+1) g r h)))⟩
theorem BV {k:Str} (h:four k):Nm k:=by
 have go:∀k:Str,cF k=true->Nm k:=fun k z=>by
  unfold cF codeOk at z;simp only [Bool.and_eq_true,decide_eq_true_eq,List.all_eq_true] at z;exact ⟨z.1.1,z.1.2,fun c hc=>z.2 c hc⟩
 rcases h with rfl|rfl|rfl|rfl <;> exact go _ (by decide +kernel)
theorem RC {k:Str} (h:¬four k):(!(k==("kind" : Str))&&!(k==("maker" : Str))&&!(k==("taker" : Str))&&!(k==("rule" : Str)))=true:=by
 have e:∀x:Str,k≠x->(k==x)=false:=fun x hx=>beq_eq_false_iff_ne.mpr hx
 rw [e _ fun z=>h (.inl z),e _ fun z=>h (.inr (.inl z)),e _ fun z=>h (.inr (.inr (.inl z))),e _ fun z=>h (.inr (.inr (.inr z)))];rfl
theorem wL {a b c:D} (i:Int) (h0:0<=i) (h1:i<3):∃d,(d=a\/d=b\/d=c)/\getD (.lst [a,b,c]) (.int i)=.ok d:=by
 have:i=0\/i=1\/i=2:=by lia
 rcases this with rfl|rfl|rfl
 ·exact ⟨a,.inl rfl,rfl⟩
 ·exact ⟨b,.inr (.inl rfl),rfl⟩
 ·exact ⟨c,.inr (.inr rfl),rfl⟩
theorem aFn {a b c:FE} {x y z:D} {ρ:List D} (h1:a ρ=.ok x) (h2:b ρ=.ok y) (h3:c ρ=.ok z):fG (aD a (aD b (aD c aZ))) ρ=.ok (.lst [x,y,z]):=sZ (aG h1 (aG h2 (aG h3 rfl))) (by rw [cO];show 3<=1000000;decide)
section
variable {ch m n:Int} {W0:List Str} {k:Str} {tt:List Str} {s5 s6 s7 s8:D}
theorem RD {W:List Str} {j:Nat} {w:Str} (hj:n*(if ch==4 then 1 else 0)=(j:Int)) (hw:W[j]?=some w) (hn:Nm w) (hm:0<=m):∃(w':Str) (s6':D),Cw w'/\¬Nm w'/\
  bI (dI false 4 (b2 uF mX (aW aE9 (aD (b2 (bO .eq) cH RN) aZ))) true) (bI (dI false 5 (bC (.str "!\"#$&'()*+,-./0123456789:;<=>?@ABCDEFGHIJKLM")) true) (bI (dI false 5 (b2 (aP .add) zK (bC (.str "NOPQRSTUVWXYZ[\\]^_`{|}~"))) true) (bI (dI false 6 (b2 (aP .mod) e_ (aW iZ (aD (b2 getD iW mX) aZ))) true) (bI (dI false 7 (b2 getD iW mX) false) (jO 3 mX (b2 (aP .add) (b2 (aP .add) (eO WD cG (bK yW)) (b2 getD zK (b2 (aP .mod) (b2 (aP .fdiv) e_ R9) (bC (.int 67))))) (eO WD (bK (b2 (aP .add) yW eE)) cG)))))))
   (sgR ch m W0 W n s5 s6 s7 s8)=.ok (.nx (sgR ch m W0 (W.set j w') (j:Int) (.str sgn) s6' (.str w) s8)):=by
 have hl:0<w.length:=hn.1;have e1:=cY m (w.length:Int) (by lia);have q0:0<=m % (w.length:Int):=Int.emod_nonneg _ (by lia);have q1:m % (w.length:Int)<w.length:=Int.emod_lt_of_pos _ (by lia);generalize m % (w.length:Int)=q at e1 q0 q1;obtain ⟨p,rfl⟩:∃p:Nat,q=p:=⟨q.toNat,by lia⟩
 have d8:=eY m 8 (by decide) (by decide);have d67:=cY (m / 8) 67 (by decide);obtain ⟨c,c0,c1,ec⟩:=aAt (m / 8 % 67) (Int.emod_nonneg _ (by decide)) (Int.emod_lt_of_pos _ (by decide));have hjl:j<W.length:=(List.getElem?_eq_some_iff.mp hw).1;have hmul:uF (.int n) (.int (if ch==4 then 1 else 0))=.ok (.int (j:Int)):=by
  rw [uM,mO _ _ (k_ _ (by split <;> lia) (by split <;> lia)),hj]
 refine ⟨aAu w p c,.int (p:Int),aAv hn (by lia) c0,VF c1,?_⟩;refine aK (ρ':=sgR ch m W0 W (j:Int) s5 s6 s7 s8) (bW (i:=4) (aL (x:=.int n) (y:=.int (if ch==4 then 1 else 0)) rfl (a_ (xs:=[.bl (ch==4)]) (aG (aL (x:=.int ch) (y:=.int 4) rfl rfl (eq_int _ _)) rfl) rfl) hmul)) ?_;refine aK (ρ':=sgR ch m W0 W (j:Int) (.str "!\"#$&'()*+,-./0123456789:;<=>?@ABCDEFGHIJKLM") s6 s7 s8) (bW (i:=5) rfl) ?_;refine aK (ρ':=sgR ch m W0 W (j:Int) (.str sgn) s6 s7 s8) (bW (i:=5) (aL (x:=.str "!\"#$&'()*+,-./0123456789:;<=>?@ABCDEFGHIJKLM") (y:=.str "NOPQRSTUVWXYZ[\\]^_`{|}~") rfl rfl ((lV _ _ (by decide +kernel)).trans (by rw [aDu])))) ?_;have hat:∀x6 x7,b2 getD iW mX (sgR ch m W0 W (j:Int) (.str sgn) x6 x7 s8)=.ok (.str w):=fun x6 x7=>aFm (ws:=W) (k:=j) rfl rfl hw
 refine aK (ρ':=sgR ch m W0 W (j:Int) (.str sgn) (.int (p:Int)) s7 s8) (bW (i:=6) (aL (x:=.int m) rfl (a_ (aG (hat _ _) rfl) (len_str w (QW hn))) e1)) ?_;refine aK (ρ':=sgR ch m W0 W (j:Int) (.str sgn) (.int (p:Int)) (.str w) s8) (o6 (i:=7) (hat _ _) rfl) ?_;have hx:w.length<=1000:=by have:=hn.2.1;lia
 have a1:eO WD cG (bK yW) (sgR ch m W0 W (j:Int) (.str sgn) (.int (p:Int)) (.str w) s8)=.ok (.str (tx (w.cps.toList.take p))):=(mH (x:=w) rfl rfl (dH rfl) hx).trans (by rw [show w=tx w.cps.toList from rfl,yR];rfl);have a2:eO WD (bK (b2 (aP .add) yW eE)) cG (sgR ch m W0 W (j:Int) (.str sgn) (.int (p:Int)) (.str w) s8)=.ok (.str (tx (w.cps.toList.drop (p+1)))):=(mH (x:=w) (l:=some ((p+1:Nat):Int)) rfl (dH (aL (x:=.int (p:Int)) rfl rfl rfl)) rfl hx).trans (by rw [show w=tx w.cps.toList from rfl,BR];rfl);have t1:(tx (w.cps.toList.take p)).length<=8:=by rw [mR,List.length_take];have:=hn.2.1;have:w.cps.toList.length=w.length:=rfl;lia
 have t2:(tx (w.cps.toList.drop (p+1))).length<=8:=by rw [mR,List.length_drop];have:=hn.2.1;have:w.cps.toList.length=w.length:=rfl;lia
 have t3:(one c).length=1:=rfl;have t4:(tx (w.cps.toList.take p)++one c).length<=9:=by
  have:(tx (w.cps.toList.take p)++one c).length=(tx (w.cps.toList.take p)).length+(one c).length:=Array.size_append ..;lia
 exact vH (v:=aAu w p c) (aL (aL a1 (aL rfl (aL (aL (x:=.int m) rfl rfl d8) rfl d67) ec) (lV _ _ (by rw [cO];lia))) a2 (lV _ _ (by rw [cO];lia))) rfl rfl hjl
theorem aAy (h4:four k) (hm:0<=m):∃(v:Str) (s8':D),Cw v/\¬four v/\
  bI (dI false 8 (b2 getD iW iY) false) (bI (jO 3 iY (b2 getD (fG (aD (eO jW (bK eE) cG) (aD (eO jW cG (bK (b1 aCg eE))) (aD (b2 (aP .add) jW (bC (.str "s"))) aZ)))) (b2 (aP .mod) e_ mY))) (sIf (bTB (b2 (bO .eq) (b2 (aP .mod) (b2 (aP .fdiv) e_ mY) j8) eE)) (jO 3 iY (b2 getD (fG (aD (bUp jW) (aD (b2 (aP .add) jW jW) (aD (eO jW cG (bK eE)) aZ)))) (b2 (aP .mod) (b2 (aP .fdiv) e_ yX) mY))) d_))
   (sgR ch m W0 (k::tt) n s5 s6 s7 s8)=.ok (.nx (sgR ch m W0 (v::tt) n s5 s6 s7 s8')):=by
 have hx:k.length<=8:=(BV h4).2.1;have d3:=eY m 3 (by decide) (by decide);have d6:=eY m 6 (by decide) (by decide);have m3:=cY m 3 (by decide);have m32:=cY (m / 3) 2 (by decide);have m63:=cY (m / 6) 3 (by decide);have key:∃y,upS k=some y/\∀v:Str,v=Txt.slice k (some 1) none\/v=Txt.slice k none (some (-1))\/v=k++("s" : Str)\/v=y\/v=k++k\/v=Txt.slice k none (some 1)->Cw v/\¬four v:=by
  have go:∀v:Str,(decide (v.length<=16)&&(v.cps.toList.all fun c=>decide (33<=c))&&(!(v==("kind" : Str))&&!(v==("maker" : Str))&&!(v==("taker" : Str))&&!(v==("rule" : Str))))=true->Cw v/\¬four v:=fun v h=>by
   rw [Bool.and_eq_true] at h;refine ⟨Q5 h.1,fun z=>?_⟩;have h2:=h.2;simp only [Bool.and_eq_true,Bool.not_eq_true',beq_eq_false_iff_ne] at h2;rcases z with z|z|z|z
   ·exact h2.1.1.1 z
   ·exact h2.1.1.2 z
   ·exact h2.1.2 z
   ·exact h2.2 z
  rcases h4 with rfl|rfl|rfl|rfl
  ·exact ⟨"KIND",by decide +kernel,fun v h=>by rcases h with rfl|rfl|rfl|rfl|rfl|rfl <;> exact go _ (by decide +kernel)⟩
  ·exact ⟨"MAKER",by decide +kernel,fun v h=>by rcases h with rfl|rfl|rfl|rfl|rfl|rfl <;> exact go _ (by decide +kernel)⟩
  ·exact ⟨"TAKER",by decide +kernel,fun v h=>by rcases h with rfl|rfl|rfl|rfl|rfl|rfl <;> exact go _ (by decide +kernel)⟩
  ·exact ⟨"RULE",by decide +kernel,fun v h=>by rcases h with rfl|rfl|rfl|rfl|rfl|rfl <;> exact go _ (by decide +kernel)⟩
 obtain ⟨y,hy,hv⟩:=key;have i1:=wL (a:=.str (Txt.slice k (some 1) none)) (b:=.str (Txt.slice k none (some (-1)))) (c:=.str (k++("s" : Str))) (m % 3) (Int.emod_nonneg _ (by decide)) (Int.emod_lt_of_pos _ (by decide));obtain ⟨d1,hd1,g1⟩:=i1;obtain ⟨v1,rfl,hv1⟩:∃v1,d1=.str v1/\Cw v1/\¬four v1:=by
  rcases hd1 with rfl|rfl|rfl
  ·exact ⟨_,rfl,hv _ (.inl rfl)⟩
  ·exact ⟨_,rfl,hv _ (.inr (.inl rfl))⟩
  ·exact ⟨_,rfl,hv _ (.inr (.inr (.inl rfl)))⟩
 have s1:("s" : Str).length=1:=by decide +kernel
 have st1:dI false 8 (b2 getD iW iY) false (sgR ch m W0 (k::tt) n s5 s6 s7 s8)=.ok (.nx (sgR ch m W0 (k::tt) n s5 s6 s7 (.str k))):=o6 (i:=8) (at_ 0 (ws:=k::tt) rfl rfl) rfl;have st2:jO 3 iY (b2 getD (fG (aD (eO jW (bK eE) cG) (aD (eO jW cG (bK (b1 aCg eE))) (aD (b2 (aP .add) jW (bC (.str "s"))) aZ)))) (b2 (aP .mod) e_ mY)) (sgR ch m W0 (k::tt) n s5 s6 s7 (.str k))=.ok (.nx (sgR ch m W0 (v1::tt) n s5 s6 s7 (.str k))):=
  vH (W:=k::tt) (j:=0) (k:=0) (v:=v1) (aL (aFn (mH (x:=k) rfl (dH rfl) rfl (by lia)) (mH (x:=k) rfl rfl (dH rfl) (by lia)) (aL (x:=.str k) rfl rfl (lV _ _ (by rw [cO,s1];lia)))) (aL (x:=.int m) rfl rfl m3) g1) rfl rfl (by simp)
 have hc:bTB (b2 (bO .eq) (b2 (aP .mod) (b2 (aP .fdiv) e_ mY) j8) eE) (sgR ch m W0 (v1::tt) n s5 s6 s7 (.str k))=.ok (m / 3 % 2==1):=dJ (aL (aL (aL (x:=.int m) rfl rfl d3) rfl m32) rfl (eq_int _ _));cases hz:(m / 3 % 2==1) with
 | false=>
  rw [hz] at hc;exact ⟨v1,.str k,hv1.1,hv1.2,aK st1 (aK st2 (jD hc rfl))⟩
 | true=>
  rw [hz] at hc;obtain ⟨d2,hd2,g2⟩:=wL (a:=.str y) (b:=.str (k++k)) (c:=.str (Txt.slice k none (some 1))) (m / 6 % 3) (Int.emod_nonneg _ (by decide)) (Int.emod_lt_of_pos _ (by decide));obtain ⟨v2,rfl,hv2⟩:∃v2,d2=.str v2/\Cw v2/\¬four v2:=by
   rcases hd2 with rfl|rfl|rfl
   ·exact ⟨_,rfl,hv _ (.inr (.inr (.inr (.inl rfl))))⟩
   ·exact ⟨_,rfl,hv _ (.inr (.inr (.inr (.inr (.inl rfl)))))⟩
   ·exact ⟨_,rfl,hv _ (.inr (.inr (.inr (.inr (.inr rfl)))))⟩
  have up:bUp jW (sgR ch m W0 (v1::tt) n s5 s6 s7 (.str k))=.ok (.str y):=by
   show (match upS k with|some y=>Res.ok (D.str y)|none=>.bad)=_;rw [hy]
  refine ⟨v2,.str k,hv2.1,hv2.2,aK st1 (aK st2 (nA hc ?_))⟩;exact vH (W:=v1::tt) (j:=0) (k:=0) (v:=v2) (aL (aFn up (aL (x:=.str k) (y:=.str k) rfl rfl (lV _ _ (by rw [cO];lia))) (mH (x:=k) rfl rfl (dH rfl) (by lia))) (aL (aL (x:=.int m) rfl rfl d6) rfl m63) g2) rfl rfl (by simp)
end
theorem aFo {f:FE} {ρ:List D} {d:D} (h:f ρ=.ok d) (hp:d.pure=true):bPu f ρ=.ok d:=by
 unfold bPu;rw [h,Res.aO,if_pos hp]
theorem aAz {v:Str}:bO .isin (.str v) (.lst [.str "kind",.str "maker",.str "taker",.str "rule"])=.ok (.bl (!(!(v==("kind" : Str))&&!(v==("maker" : Str))&&!(v==("taker" : Str))&&!(v==("rule" : Str))))):=by
 show Res.ok (D.bl ((("kind" : Str)==v)||((("maker" : Str)==v)||((("taker" : Str)==v)||((("rule" : Str)==v)||false)))))=_;rw [show (("kind" : Str)==v)=(v==("kind" : Str)) from Bool.beq_comm ..,show (("maker" : Str)==v)=(v==("maker" : Str)) from Bool.beq_comm ..,show (("taker" : Str)==v)=(v==("taker" : Str)) from Bool.beq_comm ..,show (("rule" : Str)==v)=(v==("rule" : Str)) from Bool.beq_comm ..];cases (v==("kind" : Str)) <;> cases (v==("maker" : Str)) <;> cases (v==("taker" : Str)) <;> cases (v==("rule" : Str)) <;> rfl
theorem VL {R:Row} (hR:R.ok) {ch more:Int} (h0:0<=ch) (h1:ch<10) (hm:0<=more):∃ws:List Str,Bd ws/\dC 3 dM [.lst (R.words.map D.str),.int ch,.int more]=.ok (.lst (ws.map D.str)):=by
 obtain ⟨n,w,m,n1,hw,hn,m0,st⟩:=VJ (ch:=ch) hR hm;obtain ⟨k,a,tt,hW,h4,ha,ht,hl,hr⟩:=yS hR;rw [hW] at hw st ⊢;have hk:=BV h4;have hct:∀w∈a::tt,Cw w:=eU (uP ha) fun w hw=>(ht w hw).elim uP fun e=>e▸U_
 have hcW:∀w∈k::a::tt,Cw w:=eU (uP hk) hct;have hlt:(a::tt).length<=48:=by rw [List.length_cons];lia
 have hlW:(k::a::tt).length<=49:=by rw [List.length_cons];lia
 obtain ⟨j,rfl⟩:∃j,n=j+1:=⟨n-1,by lia⟩
 have hwj:(a::tt)[j]?=some w:=by rw [List.getElem?_cons_succ] at hw;exact hw
 have hnl:j+1<(k::a::tt).length:=(List.getElem?_eq_some_iff.mp hw).1;have cw0:Cw "":=Q5 (by decide +kernel);have nb0:cF "" = false:=by decide +kernel
 have fin:∀{ws:List Str},Bd ws->iQ [.lst ((k::a::tt).map D.str),.int ch,.int more,.uD,.uD,.uD,.uD,.uD,.uD]=.ok (.rt (.lst (ws.map D.str)))->∃ws:List Str,Bd ws/\dC 3 dM [.lst ((k::a::tt).map D.str),.int ch,.int more]=.ok (.lst (ws.map D.str)):=fun {ws} h e=>⟨ws,h,(cC rfl).trans (call_v e)⟩
 by_cases c0:ch=0
 ·refine fin (ws:=k::((a::tt).take j++("" : Str)::(a::tt).drop j)) (VH h4 hr ?_ ?_ ?_) (st _ _ (mV c0 (X5 (j:=j+1) rfl rfl rfl (by lia) (by lia)) (bF (by lia) (bF (by lia) (bF (by lia) (iJ (by lia) (by lia) (bF (by lia) (bF (by lia) (bF (by lia) (bF (by lia) jV))))))))))
  ·rw [tY,mK,nb0];have:=tY ((a::tt).take j) ((a::tt).drop j);rw [List.take_append_drop] at this;rw [this];show _+(_+1)=_;lia
  ·exact yP (fun w h=>hct w (List.mem_of_mem_take h)) (eU cw0 fun w h=>hct w (List.mem_of_mem_drop h))
  ·rw [List.length_append,List.length_cons,List.length_take,List.length_drop];lia
 by_cases c1:ch=1
 ·exact fin (ws:=("" : Str)::k::a::tt) (j0 cw0 (by decide +kernel) hcW (by lia) (by simp)) (st _ _ (bF c0 (mV c1 (X5 (j:=0) rfl rfl rfl (Nat.zero_le _) (by lia)) (bF (by lia) (bF (by lia) (iJ (by lia) (by lia) (bF (by lia) (bF (by lia) (bF (by lia) (bF (by lia) jV))))))))))
 by_cases c2:ch=2
 ·refine fin (ws:=k::((a::tt)++[("" : Str)])) (VH h4 hr ?_ ?_ ?_) (st _ _ (bF c0 (bF c1 (mV (ρ':=sgR ch m (k::a::tt) (k::((a::tt)++[("" : Str)])) ((j+1:Nat):Int) .uD .uD .uD .uD) c2 ?_ (bF (by lia) (iJ (by lia) (by lia) (bF (by lia) (bF (by lia) (bF (by lia) (bF (by lia) jV))))))))))
  ·rw [tY,mK ("" : Str),nb0];rfl
  ·exact yP hct (eU cw0 fun w h=>by cases h)
  ·rw [List.length_append];show _+1<=50;lia
  ·refine (W6 (i:=3) (xs:=(k::a::tt).map D.str) (d:=.str "") rfl rfl (by rw [List.length_map,cO];lia) rfl).trans ?_;unfold sgR;rw [show (k::(a::tt++[("" : Str)]))=(k::a::tt)++[("" : Str)] from rfl,List.map_append];rfl
 by_cases c3:ch=3
 ·have hp:("ponmlkjih" : Str).length=9:=by decide +kernel
  have t4:(w++("ponmlkjih" : Str)).length<=17:=by
   have:(w++("ponmlkjih" : Str)).length=w.length+("ponmlkjih" : Str).length:=Array.size_append ..;have:=hn.2.1;lia
  refine fin (ws:=k::(a::tt).set j (nine w)) (VH h4 hr (Q_ (U6 hn) (mU (VG w)) hwj) (X4 hct (aAw hn)) (by rw [List.length_set];lia)) (st _ _ (bF c0 (bF c1 (bF c2 (mV c3 (vH (j:=j+1) (v:=nine w) ?_ rfl rfl hnl) (iJ (by lia) (by lia) (bF (by lia) (bF (by lia) (bF (by lia) (bF (by lia) jV))))))))));exact mH (x:=w++("ponmlkjih" : Str)) (aL (aFm (ws:=k::a::tt) (k:=j+1) rfl rfl hw) rfl (lV _ _ (by rw [cO,hp];have:=hn.2.1;lia))) rfl (dH rfl) (by lia)
 by_cases c4:ch=4
 ·obtain ⟨w',s6',g1,g2,g3⟩:=RD (ch:=ch) (m:=m) (W0:=k::a::tt) (n:=((j+1:Nat):Int)) (W:=k::a::tt) (j:=j+1) (s5:=.uD) (s6:=.uD) (s7:=.uD) (s8:=.uD) (by rw [c4];show ((j+1:Nat):Int)*1=_;rw [Int.mul_one]) hw hn m0;exact fin (ws:=k::(a::tt).set j w') (VH h4 hr (Q_ (U6 hn) (mU g2) hwj) (X4 hct g1) (by rw [List.length_set];lia)) (st _ _ (bF c0 (bF c1 (bF c2 (bF c3 (G9 (.inl c4) g3 (bF (by lia) (bF (by lia) (bF (by lia) (bF (by lia) jV))))))))))
 by_cases c7:ch=7
 ·obtain ⟨w',s6',g1,g2,g3⟩:=RD (ch:=ch) (m:=m) (W0:=k::a::tt) (n:=((j+1:Nat):Int)) (W:=k::a::tt) (j:=0) (w:=k) (s5:=.uD) (s6:=.uD) (s7:=.uD) (s8:=.uD) (by rw [c7];show ((j+1:Nat):Int)*0=_;rw [Int.mul_zero];rfl) rfl hk m0;exact fin (ws:=w'::a::tt) (j0 g1 (RC fun z=>g2 (BV z)) hct (by lia) (by simp)) (st _ _ (bF c0 (bF c1 (bF c2 (bF c3 (G9 (.inr c7) g3 (bF (by lia) (bF (by lia) (bF (by lia) (bF (by lia) jV))))))))))
 by_cases c5:ch=5
 ·obtain ⟨v,s8',g1,g2,g3⟩:=aAy (ch:=ch) (m:=m) (n:=((j+1:Nat):Int)) (W0:=k::a::tt) (k:=k) (tt:=a::tt) (s5:=.uD) (s6:=.uD) (s7:=.uD) (s8:=.uD) h4 m0;exact fin (ws:=v::a::tt) (j0 g1 (RC g2) hct (by lia) (by simp)) (st _ _ (bF c0 (bF c1 (bF c2 (bF c3 (iJ c4 c7 (mV c5 g3 (bF (by lia) (bF (by lia) (bF (by lia) jV))))))))))
 by_cases c6:ch=6
 ·refine fin (ws:=[("" : Str),("" : Str)]) (j0 cw0 (by decide +kernel) (eU cw0 fun w h=>by cases h) (by decide) (by simp)) (st _ _ (bF c0 (bF c1 (bF c2 (bF c3 (iJ c4 c7 (bF c5 (fP (nA (dJ (aL (x:=.int ch) rfl rfl (by rw [c6];exact XQ 6))) (cX (sZ (aG rfl (aG rfl rfl)) (by rw [cO];show 2<=1000000;decide)) rfl))))))))))
 by_cases c8:ch=8
 ·have d3:=eY m 3 (by decide) (by decide);have m3:=cY m 3 (by decide);have m32:=cY (m / 3) 2 (by decide);obtain ⟨d,hd,g1⟩:=wL (a:=.str "#") (b:=.str "kind:") (c:=.str ".") (m % 3) (Int.emod_nonneg _ (by decide)) (Int.emod_lt_of_pos _ (by decide));obtain ⟨v,rfl,hv1,hv2⟩:∃v,d=.str v/\Cw v/\(!(v==("kind" : Str))&&!(v==("maker" : Str))&&!(v==("taker" : Str))&&!(v==("rule" : Str)))=true:=by
   rcases hd with rfl|rfl|rfl
   ·exact ⟨_,rfl,Q5 (by decide +kernel),by decide +kernel⟩
   ·exact ⟨_,rfl,Q5 (by decide +kernel),by decide +kernel⟩
   ·exact ⟨_,rfl,Q5 (by decide +kernel),by decide +kernel⟩
  have p0:0<=m / 3 % 2:=Int.emod_nonneg _ (by decide);have p1:m / 3 % 2<2:=Int.emod_lt_of_pos _ (by decide);generalize m / 3 % 2=q at m32 p0 p1;obtain ⟨p,rfl⟩:∃p:Nat,q=p:=⟨q.toNat,by lia⟩
  refine fin (ws:=v::(k::a::tt).drop p) (j0 hv1 hv2 (fun w h=>hcW w (List.mem_of_mem_drop h)) (by rw [List.length_drop];lia) (fun z=>?_)) (st _ _ (bF c0 (bF c1 (bF c2 (bF c3 (iJ c4 c7 (bF c5 (bF c6 (mV (ρ':=sgR ch m (k::a::tt) (v::(k::a::tt).drop p) ((j+1:Nat):Int) .uD .uD .uD .uD) c8 ?_ (bF (by lia) jV))))))))))
  ·have:=congrArg List.length z;rw [List.length_drop] at this;have e2:(k::a::tt).length=tt.length+2:=rfl;have e3:([]:List Str).length=0:=rfl;lia
  ·have hlp:fG (aD (bPu (b2 getD (fG (aD (bC (.str "#")) (aD (bC (.str "kind:")) (aD (bC (.str ".")) aZ)))) (b2 (aP .mod) e_ mY))) aZ) (sgR ch m (k::a::tt) (k::a::tt) ((j+1:Nat):Int) .uD .uD .uD .uD)=.ok (.lst (([v]:List Str).map D.str)):=
    sZ (xs:=[.str v]) (aG (aFo (aL (aFn rfl rfl rfl) (aL (x:=.int m) rfl rfl m3) g1) rfl) rfl) (by rw [cO];show 1<=1000000;decide)
   refine (RB (i:=3) (d:=.lst (([v]++(k::a::tt).drop p).map D.str)) (add_l hlp (iV (x:=.lst ((k::a::tt).map D.str)) (l:=some (p:Int)) rfl (dH (aL (aL (x:=.int m) rfl rfl d3) rfl m32)) rfl ((mF _ _ _).trans (by rw [jL]))) (by rw [List.length_drop];show 1+_<=1000;lia)) (dZ _)).trans ?_;rfl
 have c9:ch=9:=by lia
 obtain ⟨v,hv,ev⟩:=QZ m m0;have s1:jO 3 iY (aW (dC 1 dU) (aD e_ aZ)) (sgR ch m (k::a::tt) (k::a::tt) ((j+1:Nat):Int) .uD .uD .uD .uD)=.ok (.nx (sgR ch m (k::a::tt) (v::a::tt) ((j+1:Nat):Int) .uD .uD .uD .uD)):=vH (W:=k::a::tt) (j:=0) (k:=0) (v:=v) (a_ (xs:=[.int m]) (aG rfl rfl) ev) rfl rfl (by simp);have hin:bTB (b2 inX (b2 getD iW iY) (fG (aD (bC (.str "kind")) (aD (bC (.str "maker")) (aD (bC (.str "taker")) (aD (bC (.str "rule")) aZ)))))) (sgR ch m (k::a::tt) (v::a::tt) ((j+1:Nat):Int) .uD .uD .uD .uD)=.ok (!(!(v==("kind" : Str))&&!(v==("maker" : Str))&&!(v==("taker" : Str))&&!(v==("rule" : Str)))):=dJ (aL (at_ 0 (ws:=v::a::tt) rfl rfl) (sZ (aG rfl (aG rfl (aG rfl (aG rfl rfl)))) (by rw [cO];show 4<=1000000;decide)) aAz);cases hz:(!(v==("kind" : Str))&&!(v==("maker" : Str))&&!(v==("taker" : Str))&&!(v==("rule" : Str))) with
 | true=>
  rw [hz] at hin;exact fin (ws:=v::a::tt) (j0 (uP hv) hz hct (by lia) (by simp)) (st _ _ (bF c0 (bF c1 (bF c2 (bF c3 (iJ c4 c7 (bF c5 (bF c6 (bF c8 (mV c9 (aK s1 (jD hin rfl)) jV))))))))))
 | false=>
  rw [hz] at hin;have s2:jO 3 iY (bC (.str "rules")) (sgR ch m (k::a::tt) (v::a::tt) ((j+1:Nat):Int) .uD .uD .uD .uD)=.ok (.nx (sgR ch m (k::a::tt) (("rules" : Str)::a::tt) ((j+1:Nat):Int) .uD .uD .uD .uD)):=vH (W:=v::a::tt) (j:=0) (k:=0) (v := "rules") rfl rfl rfl (by simp);exact fin (ws:=("rules" : Str)::a::tt) (j0 (Q5 (by decide +kernel)) (by decide +kernel) hct (by lia) (by simp)) (st _ _ (bF c0 (bF c1 (bF c2 (bF c3 (iJ c4 c7 (bF c5 (bF c6 (bF c8 (mV c9 (aK s1 (nA hin s2)) jV))))))))))
theorem X6 (nn:Int) (hn:0<=nn):∃ws:List Str,Bd ws/\dC 1 fD [.int nn]=.ok (.lst (ws.map D.str)):=by
 have c0:0<=nn % 25:=Int.emod_nonneg _ (by decide);have c1:nn % 25<25:=Int.emod_lt_of_pos _ (by decide);have e1:=cY nn 25 (by decide);have e2:=eY nn 25 (by decide) (by decide);have m0:0<=nn / 25:=Int.ediv_nonneg hn (by decide);generalize nn % 25=c at c0 c1 e1;generalize nn / 25=m at e2 m0;have begin_:∀{r:Res Fl} (g:FS),g [.int nn,.int c,.int m]=r->bI (dI false 1 (b2 (aP .mod) dN SJ) true) (bI (dI false 2 (b2 (aP .fdiv) dN SJ) true) g) [.int nn,.uD,.uD]=r:=fun g h=>
  aK (ρ':=[.int nn,.int c,.uD]) (bW (i:=1) (aL (x:=.int nn) rfl rfl e1)) (aK (ρ':=[.int nn,.int c,.int m]) (bW (i:=2) (aL (x:=.int nn) rfl rfl e2)) h)
 by_cases h:c<15
 ·obtain ⟨sm,l,hw,e⟩:=lG m 43 (by decide) (by decide);obtain ⟨ws,hb,es⟩:=VB (ch:=c) (sm:=sm) c0 h hw l;exact ⟨ws,hb,(cC rfl).trans (call_v (begin_ _ (fP (nA (dJ (aL (x:=.int c) rfl rfl ((eQ .lt c 15).trans (by rw [show gJ.lt.int c 15=true from decide_eq_true h])))) (cX (a_ (xs:=shR c sm) (aG rfl (aG (a_ (xs:=[.int m,.int 43]) (aG rfl (aG rfl rfl)) e) rfl)) es) rfl)))))⟩
 ·obtain ⟨R,hR,eR⟩:=Q0 m m0;obtain ⟨ws,hb,es⟩:=VL (ch:=c-15) (more:=m / 7) hR (by lia) (by lia) (Int.ediv_nonneg m0 (by decide));exact ⟨ws,hb,(cC rfl).trans (call_v (begin_ _ (aK (jD (dJ (aL (x:=.int c) rfl rfl ((eQ .lt c 15).trans (by rw [show gJ.lt.int c 15=false from decide_eq_false h])))) rfl) (cX (a_ (xs:=[.lst (R.words.map D.str),.int (c-15),.int (m / 7)]) (aG (a_ (xs:=[.int m]) (aG rfl rfl) eR) (aG (aL (x:=.int c) rfl rfl rfl) (aG (aL (x:=.int m) rfl rfl (eY m 7 (by decide) (by decide))) rfl))) es) rfl))))⟩
theorem yU:(" " : Str)=⟨#[32]⟩:=rfl
theorem aB0:("\n" : Str)=⟨#[10]⟩:=rfl
noncomputable def Row.text (R:Row):Str:=Txt.join " " R.words
def Wd (w:Str):Prop:=1<=w.length/\w.length<=8/\∀c∈w.cps.toList,61<=c
theorem nJ {w:Str} (h:Nm w):Wd w:=⟨h.1,h.2.1,fun c hc=>by have:=h.2.2 c hc;lia⟩
theorem aDw {w:Str} (h:(decide (1<=w.length)&&decide (w.length<=8)&&w.cps.toList.all fun c=>decide (61<=c))=true):Wd w:=by
 simp only [Bool.and_eq_true,decide_eq_true_eq,List.all_eq_true] at h;exact ⟨h.1.1,h.1.2,h.2⟩
theorem gZ {R:Row} (h:R.ok):(∀w∈R.words,Wd w)/\R.words≠[]/\R.words.length<=60:=by
 have k1:Wd "kind":=aDw (by decide +kernel);have k2:Wd "maker":=aDw (by decide +kernel);have k3:Wd "taker":=aDw (by decide +kernel);have k4:Wd "rule":=aDw (by decide +kernel);have k5:Wd "=":=aDw (by decide +kernel);cases R with
 | kind w=>
  refine ⟨fun x hx=>?_,by simp [Row.words],by simp [Row.words]⟩;simp only [Row.words,List.mem_cons,List.not_mem_nil,or_false] at hx;rcases hx with rfl|rfl
  ·exact k1
  ·exact nJ h
 | maker a b r=>
  obtain ⟨ha,hb,hr,hl⟩:=h;refine ⟨fun x hx=>?_,by simp [Row.words],by simp [Row.words];lia⟩;simp only [Row.words,List.mem_cons] at hx;rcases hx with rfl|rfl|rfl|hx
  ·exact k2
  ·exact nJ ha
  ·exact nJ hb
  ·exact nJ (hr x hx)
 | taker a b c r=>
  obtain ⟨ha,hb,hc,hr,hl⟩:=h;refine ⟨fun x hx=>?_,by simp [Row.words],by simp [Row.words];lia⟩;simp only [Row.words,List.mem_cons] at hx;rcases hx with rfl|rfl|rfl|rfl|hx
  ·exact k3
  ·exact nJ ha
  ·exact nJ hb
  ·exact nJ hc
  ·exact nJ (hr x hx)
 | rule a b r ws=>
  obtain ⟨ha,hb,hr,hl,hw,hw1,hw2⟩:=h;refine ⟨fun x hx=>?_,by simp [Row.words],by simp [Row.words];lia⟩;simp only [Row.words,List.mem_cons,List.mem_append] at hx;rcases hx with rfl|rfl|rfl|hx|rfl|hx
  ·exact k4
  ·exact nJ ha
  ·exact nJ hb
  ·exact nJ (hr x hx)
  ·exact k5
  ·exact nJ (hw x hx)
theorem VM {R:Row} (h:R.ok):JoinOk " " R.words=true:=by
 obtain ⟨h1,h2,h3⟩:=gZ h;rw [yU];exact sW (B:=8) (fun t ht=>(h1 t ht).2.1) (by lia)
theorem RG {R:Row} (h:R.ok):R.text.length<=600:=by
 obtain ⟨h1,h2,h3⟩:=gZ h;have:=wG 32 8 R.words fun t ht=>(h1 t ht).2.1
 unfold Row.text;rw [yU];lia
theorem yV {R:Row} (h:R.ok):Txt.split R.text " " = R.words:=by
 obtain ⟨h1,h2,h3⟩:=gZ h;unfold Row.text;rw [yU];exact mD h2 fun t ht z=>by have:=(h1 t ht).2.2 32 z;lia
theorem aDx {R:Row} (h:R.ok):10∉R.text.cps.toList:=fun z=>by
 obtain ⟨h1,h2,h3⟩:=gZ h;unfold Row.text at z;rw [yU] at z;rcases GK z with e|⟨t,ht,e⟩
 ·cases e
 ·have:=(h1 t ht).2.2 10 e;lia
theorem aDy {R:Row} (h:R.ok):(R.text==("" : Str))=false:=by
 rw [beq_eq_false_iff_ne];intro e;have hs:=yV h;rw [e] at hs;obtain ⟨h1,h2,h3⟩:=gZ h;have:Txt.split ("" : Str) (" " : Str)=[("" : Str)]:=by decide +kernel
 rw [this] at hs;have:=(h1 "" (by rw [<-hs];simp)).1;exact absurd this (by decide)
noncomputable def G_:Nat->Str
 | 0 => "kind"
 | 1 => "maker"
 | 2 => "taker"
 | _ => "rule"
theorem aB1 (R:Row):∃ws,R.words=G_ R.idx::ws:=by
 cases R with
 | kind w=>exact ⟨_,rfl⟩
 | maker a b r=>exact ⟨_,rfl⟩
 | taker a b c r=>exact ⟨_,rfl⟩
 | rule a b r ws=>exact ⟨_,rfl⟩
theorem aB2 (R:Row):R.idx<4:=by cases R <;> simp [Row.idx]
noncomputable def uQ (A:Nat->List D):D:=.dct [(.str "kind",.lst (A 0)),(.str "maker",.lst (A 1)),(.str "taker",.lst (A 2)),(.str "rule",.lst (A 3))]
noncomputable def aDz (A:Nat->List D) (i:Nat) (d:D):Nat->List D:=fun j=>if j=i then A j++[d] else A j
theorem eqs (a b:Str):eqD (.str a) (.str b)=(a==b):=rfl
theorem aB3 (A:Nat->List D) (i:Nat) (h:i<4):∃kvs,uQ A=.dct kvs/\dX kvs (.str (G_ i))=some (.lst (A i))/\∀d,D.dct (putD kvs (.str (G_ i)) (.lst (A i++[d])))=uQ (aDz A i d):=by
 refine ⟨_,rfl,?_,fun d=>?_⟩
 ·have:i=0\/i=1\/i=2\/i=3:=by lia
  rcases this with rfl|rfl|rfl|rfl
  ·simp only [dX,G_,eqs,beq_self_eq_true,if_true]
  ·simp only [dX,G_,eqs,beq_self_eq_true,k01,Bool.false_eq_true,if_true,if_false]
  ·simp only [dX,G_,eqs,beq_self_eq_true,k02,k12,Bool.false_eq_true,if_true,if_false]
  ·simp only [dX,G_,eqs,beq_self_eq_true,k03,k13,k23,Bool.false_eq_true,if_true,if_false]
 ·have:i=0\/i=1\/i=2\/i=3:=by lia
  rcases this with rfl|rfl|rfl|rfl
  ·simp only [putD,G_,eqs,beq_self_eq_true,if_true];rfl
  ·simp only [putD,G_,eqs,beq_self_eq_true,k01,Bool.false_eq_true,if_true,if_false];rfl
  ·simp only [putD,G_,eqs,beq_self_eq_true,k02,k12,Bool.false_eq_true,if_true,if_false];rfl
  ·simp only [putD,G_,eqs,beq_self_eq_true,k03,k13,k23,Bool.false_eq_true,if_true,if_false];rfl
theorem aB4 (A:Nat->List D) (R:Row) (h:(A R.idx).length<1000):T6 (uQ A) (.str (G_ R.idx)) R.told=.ok (uQ (aDz A R.idx R.told)):=by
 obtain ⟨kvs,e,h1,h2⟩:=aB3 A R.idx (aB2 R);rw [e];show (match dX kvs (.str (G_ R.idx)) with|some (.lst ys)=>if decide (ys.length<lim)&&R.told.pure then Res.ok (D.dct (putD kvs (.str (G_ R.idx)) (.lst (ys++[R.told])))) else .bad|_=>.bad)=_;rw [h1];show (if (decide ((A R.idx).length<lim)&&R.told.pure)=true then _ else _)=_;rw [if_pos (by rw [yO,decide_eq_true (by rw [cO];lia)];rfl),h2]
theorem aB5 {i:Nat} {fk fe:FE} {ρ:List D} {d k e r:D} (h1:fU i ρ=.ok d) (h2:fk ρ=.ok k) (h3:fe ρ=.ok e) (h4:T6 d k e=.ok r):PB i fk fe ρ=.ok (.nx (ρ.set i r)):=by
 unfold PB;rw [h1,Res.aO,h2,Res.aO,h3,Res.aO,h4,Res.aO]
theorem wM {x:Str} {y:Str} {ts:List Str} (hx:x.length<=100000) (hs:Txt.split x y=ts) (ht:ts.length<=1000) (hy:(y.length==0)=false):splitM (.str x) [.str y]=.ok (.lst (ts.map D.str)):=by
 show (if decide (x.length<=lim)&&decide ((Txt.split x y).length<=lim)&&!(y.length==0) then Res.ok (D.lst ((Txt.split x y).map D.str)) else .bad)=_;rw [hs,hy,decide_eq_true (by rw [cO];lia),decide_eq_true (by rw [cO];lia)];rfl
theorem VN (R:Row):bO .isN R.told .non=.ok (.bl false):=by cases R <;> rfl
theorem VP {m:Nat} {a:FE} {ρ xs:List D} (h:a ρ=.ok (.lst xs)):xY m a true ρ=.ok (zP m xs,true):=by
 unfold xY;rw [h];rfl
noncomputable def bY:Option Row->Str
 | some R=>R.text
 | none => ""
noncomputable def cL (ws:List Str):Str:=Txt.join " " ws
theorem RJ {ws:List Str} (h:Bd ws):JoinOk " " ws=true:=by
 rw [yU];exact sW (B:=16) (fun t ht=>(h.cw t ht).1) (by have:=h.len;lia)
theorem HB {ws:List Str} (h:Bd ws):(cL ws).length<=1100:=by
 have:=wG 32 16 ws fun t ht=>(h.cw t ht).1
 have:=h.len;unfold cL;rw [yU];lia
theorem HD {ws:List Str} (h:Bd ws):Txt.split (cL ws) " " = ws:=by
 unfold cL;rw [yU];exact mD h.ne fun t ht z=>by have:=(h.cw t ht).2 32 z;lia
theorem aE0 {ws:List Str} (h:Bd ws):10∉(cL ws).cps.toList:=fun z=>by
 unfold cL at z;rw [yU] at z;rcases GK z with e|⟨t,ht,e⟩
 ·cases e
 ·have:=(h.cw t ht).2 10 e;lia
theorem aFp {ws:List Str} (h:Bd ws):(cL ws==("" : Str))=false:=by
 rw [beq_eq_false_iff_ne];intro e;have hs:=HD h;rw [e] at hs;have:Txt.split ("" : Str) (" " : Str)=[("" : Str)]:=by decide +kernel
 rw [this] at hs;exact h.n1 hs.symm
def VR:FS:=sIf (noE (bTB (b2 (bO .ne) iW (bC (.str ""))))) (bI (noE (dI false 4 (bM splitM iW (aD (bC (.str " ")) aZ)) true)) (bI (noE (dI false 5 (aW (dC 1 gD) (aD mX aZ)) true)) (bI (sIf (noE (bTB (b2 (bO .isN) zK (bC .non)))) (sE "BadRow" ["row"] (noE (aD e_ aZ))) d_) (noE (PB 1 (b2 getD mX iY) zK))))) d_
theorem V0 {t cnt w r:D} {A:Nat->List D} {R:Row} (hR:R.ok) (hA:∀i,(A i).length<1000):VR [t,uQ A,cnt,.str R.text,w,r]=.ok (.nx [t,uQ (aDz A R.idx R.told),cnt,.str R.text,.lst (R.words.map D.str),R.told]):=by
 obtain ⟨ws,hk⟩:=aB1 R;refine nA (jE (dJ (aL (x:=.str R.text) (y:=.str "") rfl rfl (show Res.ok (D.bl (!(R.text==("" : Str))))=_ from by rw [aDy hR];rfl)))) ?_;refine aK (ρ':=[t,uQ A,cnt,.str R.text,.lst (R.words.map D.str),r]) (jE (bW (i:=4) (uN rfl (aG rfl rfl) (wM (Nat.le_trans (RG hR) (by decide)) (yV hR) (Nat.le_trans (gZ hR).2.2 (by decide)) rfl)))) ?_;refine aK (ρ':=[t,uQ A,cnt,.str R.text,.lst (R.words.map D.str),R.told]) (jE (bW (i:=5) (a_ (aG rfl rfl) (U7 hR)))) ?_;have v5:fU 5 [t,uQ A,cnt,.str R.text,.lst (R.words.map D.str),R.told]=.ok R.told:=by cases R <;> rfl
 refine aK (ρ':=[t,uQ A,cnt,.str R.text,.lst (R.words.map D.str),R.told]) (jD (jE (dJ (aL v5 rfl (VN R)))) rfl) ?_;exact jE (aB5 (i:=1) rfl (at_ 0 (ws:=R.words) rfl (by rw [hk];rfl)) v5 (aB4 A R (hA _)))
theorem RK {t cnt w r:D} {A:Nat->List D}:VR [t,uQ A,cnt,.str "",w,r]=.ok (.nx [t,uQ A,cnt,.str "",w,r]):=jD (jE (dJ (aL (x:=.str "") (y:=.str "") rfl rfl rfl))) rfl
noncomputable abbrev aFq (i:Int):Res Fl:=.err "BadRow" [.exc "BadRow" [("row",i)]]
theorem RL {f g:FS} {ρ:List D} {c:Str} {as:List D} (h:f ρ=.err c as):bI f g ρ=.err c as:=by
 unfold bI;rw [h];rfl
theorem V1 {t w r:D} {i:Int} {A:Nat->List D} {ws:List Str} (h:Bd ws):VR [t,uQ A,.int i,.str (cL ws),w,r]=aFq i:=by
 refine nA (jE (dJ (aL (x:=.str (cL ws)) (y:=.str "") rfl rfl (show Res.ok (D.bl (!(cL ws==("" : Str))))=_ from by rw [aFp h];rfl)))) ?_;refine aK (ρ':=[t,uQ A,.int i,.str (cL ws),.lst (ws.map D.str),r]) (jE (bW (i:=4) (uN rfl (aG rfl rfl) (wM (Nat.le_trans (HB h) (by decide)) (HD h) (Nat.le_trans h.len (by decide)) rfl)))) ?_;refine aK (ρ':=[t,uQ A,.int i,.str (cL ws),.lst (ws.map D.str),.non]) (jE (bW (i:=5) (a_ (aG rfl rfl) h.row))) ?_;exact RL (nA (jE (dJ (aL (x:=.non) (y:=.non) rfl rfl rfl))) rfl)
theorem V2 {t:D->List D->Res (List D)} {body:FS} {x:D} {xs:List D} {ρ ρ1:List D} {c:Str} {as:List D} (h1:t x ρ=.ok ρ1) (h2:body ρ1=.err c as):uE t body (x::xs) ρ=.err c as:=by
 rw [uE,h1,Res.aO,h2];rfl
theorem wN {t:D} {ws:List Str} (hb:Bd ws) (post:List D):∀(Os:List (Option Row)) (k:Nat) (A:Nat->List D) (cnt l w r:D),(∀R,some R∈Os->R.ok)->(∀i,(A i).length+Os.length<1000)->uE (noT (tgN [2,3])) VR ((((Os.map fun O=>D.str (bY O))++D.str (cL ws)::post).zipIdx k).map fun p=>.tup [.int ((1+p.2:Nat):Int),p.1]) [t,uQ A,cnt,l,w,r]=aFq ((1+(k+Os.length):Nat):Int)
 | [],k,A,cnt,l,w,r,_,_=>by
  rw [List.map_nil,List.nil_append,List.zipIdx_cons,List.map_cons];exact V2 (ρ1:=[t,uQ A,.int ((1+k:Nat):Int),.str (cL ws),w,r]) rfl (V1 hb)
 | none::Os,k,A,cnt,l,w,r,h,hl=>by
  have e:=wN (t:=t) hb post Os (k+1) A (.int ((1+k:Nat):Int)) (.str "") w r (fun x hx=>h x (List.mem_cons_of_mem _ hx)) (fun i=>by have:=hl i;rw [List.length_cons] at this;lia);rw [List.map_cons,List.cons_append,List.zipIdx_cons,List.map_cons];refine (o7 (ρ1:=[t,uQ A,.int ((1+k:Nat):Int),.str "",w,r]) rfl RK e).trans ?_;rw [List.length_cons,show k+1+Os.length=k+(Os.length+1) by lia]
 | some R::Os,k,A,cnt,l,w,r,h,hl=>by
  have hR:=h R (List.mem_cons_self ..);have hA:∀i,(A i).length<1000:=fun i=>by have:=hl i;lia
  have e:=wN (t:=t) hb post Os (k+1) (aDz A R.idx R.told) (.int ((1+k:Nat):Int)) (.str R.text) (.lst (R.words.map D.str)) R.told (fun x hx=>h x (List.mem_cons_of_mem _ hx)) (fun i=>by
   have:=hl i;rw [List.length_cons] at this;unfold aDz;split
   ·rw [List.length_append,List.length_cons,List.length_nil];lia
   ·lia)
  rw [List.map_cons,List.cons_append,List.zipIdx_cons,List.map_cons];refine (o7 (ρ1:=[t,uQ A,.int ((1+k:Nat):Int),.str R.text,w,r]) rfl (V0 hR hA) e).trans ?_;rw [List.length_cons,show k+1+Os.length=k+(Os.length+1) by lia]
def Ln (x:Str):Prop:=x.length<=1100/\10∉x.cps.toList
theorem aEd {O:Option Row} (h:∀R,O=some R->R.ok):Ln (bY O):=by
 cases O with
 | none=>exact ⟨by decide +kernel,by decide +kernel⟩
 | some R=>exact ⟨Nat.le_trans (RG (h R rfl)) (by decide),aDx (h R rfl)⟩
theorem V3 {Os:List (Option Row)} {ws:List Str} {ps:List Str} (h:∀R,some R∈Os->R.ok) (hb:Bd ws) (hp:∀p∈ps,Ln p) (hl:(Os.map bY++cL ws::ps).length<=70):dC 1 yD [.str (Txt.join "\n" (Os.map bY++cL ws::ps))]=.err "BadRow" [.exc "BadRow" [("row",((Os.length+1:Nat):Int))]]:=by
 have hall:∀x∈Os.map bY++cL ws::ps,Ln x:=fun x hx=>by
  rcases List.mem_append.mp hx with hx|hx
  ·obtain ⟨O,hO,rfl⟩:=List.mem_map.mp hx;exact aEd fun R e=>h R (e▸hO)
  ·rcases List.mem_cons.mp hx with rfl|hx
   ·exact ⟨HB hb,aE0 hb⟩
   ·exact hp x hx
 have hlo:Os.length<100:=by rw [List.length_append,List.length_map] at hl;lia
 have hs:Txt.split (Txt.join "\n" (Os.map bY++cL ws::ps)) "\n" = Os.map bY++cL ws::ps:=by
  rw [aB0];exact mD (by simp) fun t ht=>(hall t ht).2
 have hx:(Txt.join "\n" (Os.map bY++cL ws::ps)).length<=100000:=by
  have:=wG 10 1100 (Os.map bY++cL ws::ps) fun t ht=>(hall t ht).1
  rw [aB0];refine Nat.le_trans this (Nat.le_trans (Nat.mul_le_mul_right _ hl) (by decide))
 generalize hT:Txt.join "\n" (Os.map bY++cL ws::ps)=T at hs hx;have hsp:=wM hx hs (by lia) (by decide +kernel);have e0:(Os.map bY++cL ws::ps).map D.str=(Os.map fun O=>D.str (bY O))++D.str (cL ws)::ps.map D.str:=by
  rw [List.map_append,List.map_cons,List.map_map];rfl
 refine (cC rfl).trans ?_;have key:GC [.str T,.uD,.uD,.uD,.uD,.uD]=aFq ((Os.length+1:Nat):Int):=by
  refine aK (ρ':=[.str T,uQ (fun _=>[]),.uD,.uD,.uD,.uD]) rfl ?_;refine RL ?_;have hi:noE (xY 1 (bM splitM dN (aD (bC (.str "\n")) aZ)) true) [D.str T,uQ (fun _=>[]),.uD,.uD,.uD,.uD]=.ok (zP 1 ((Os.map bY++cL ws::ps).map D.str),true):=jE (VP (uN rfl (aG rfl rfl) hsp));have e:=wN (t:=.str T) hb (ps.map D.str) Os 0 (fun _=>[]) .uD .uD .uD .uD h (fun i=>by show 0+_<1000;lia);rw [<-e0] at e;unfold M6;rw [hi,Res.aO];dsimp only;rw [if_pos rfl,show Os.length+1=1+(0+Os.length) by lia];exact e
 show fnS 1 6 GC [.str T]=_;unfold fnS;show (GC [.str T,.uD,.uD,.uD,.uD,.uD] >>= _)=_;rw [key];rfl
theorem J2 {T:Str} {i:Int} (h:dC 1 yD [.str T]=.err "BadRow" [.exc "BadRow" [("row",i)]]):dC 2 eF [.str T,.int i]=.ok (.bl true):=by
 refine (cC rfl).trans (call_v ?_);refine aK (ρ':=[.str T,.int i,.non,.uD]) (bW (i:=2) rfl) ?_;refine aK (ρ':=[.str T,.int i,.exc "BadRow" [("row",i)],.uD]) ?_ ?_
 ·unfold aFg;rw [show aD dN aZ [D.str T,.int i,.non,.uD]=.ok [.str T] from rfl,Res.aO,h];rfl
 refine aK (jD rfl rfl) (aK (jD rfl rfl) (aK (jD rfl rfl) (cX (d:=.bl true) (GQ rfl (GQ rfl ?_)) rfl)));exact aL (x:=.int i) (y:=.int i) rfl rfl (XQ i)
theorem aB6 {a:FE} {ρ xs:List D} (h:a ρ=.ok (.lst xs)):TX a true ρ=.ok (zO xs,true):=by
 unfold TX;rw [h];rfl
theorem aE1 (ns:List Int):TQ (.scr (ns.map D.int)) none (some 120)=.ok (.lst ((ns.take 120).map D.int)):=by
 show (if D.bU (ns.map D.int)=true then Res.ok (D.lst (cutD (ns.map D.int) none (some ((120:Nat):Int)))) else .bad)=_;rw [if_pos (JH ns),Z9,yM]
def ors (Os:List (Option Row)):D:=.lst (Os.map fun O=>.str (bY O))
def laR (ns:List Int) (Os:List (Option Row)) (room:Int) (x3 x4 x5 x6:D):List D:=[.scr (ns.map D.int),ors Os,.int room,x3,x4,x5,x6,.uD,.uD,.uD,.uD,.uD]
def aB7:FS:=bI (dI false 5 (aW (dC 2 cD) (aD mX (aD iW aZ))) true) (bI (dI false 6 (bC (.str "")) true) (bI (sIf (bTB (b2 (bO (.ord .gt)) (b2 (aP .mod) zK yX) iY)) (dI false 6 (bM joinM (bC (.str " ")) (aD (aW (dC 1 dW) (aD (b2 (aP .fdiv) zK yX) aZ)) aZ)) true) d_) (sIf (bTB (b2 (bO (.ord .lt)) (aW iZ (aD yW aZ)) e_)) (bI (ZC 1 yW) (dI false 2 (b2 (aP .sub) (b2 (aP .sub) e_ (aW iZ (aD yW aZ))) eE) true)) d_)))
theorem V4 {ns:List Int} {x5 x6:D} (Os:List (Option Row)) (room c:Int) (k:Nat) (h:∀R,some R∈Os->R.ok) (hl:Os.length<100) (hk:k<=1000):∃(Os':List (Option Row)) (room':Int) (y5 y6:D),(∀R,some R∈Os'->R.ok)/\Os'.length<=Os.length+1/\aB7 (laR ns Os room (.int (k:Int)) (.int c) x5 x6)=.ok (.nx (laR ns Os' room' (.int (k:Int)) (.int c) y5 y6)):=by
 obtain ⟨n,n0,n1,hn⟩:=GR c k (by lia) (by lia);have m6:=cY n 6 (by decide);have d6:=eY n 6 (by decide) (by decide);obtain ⟨R,hR,hit⟩:=Q0 (n / 6) (Int.ediv_nonneg n0 (by decide));have key:∃O:Option Row,(∀R,O=some R->R.ok)/\∀(g:FS) (r:Res Fl),g (laR ns Os room (.int (k:Int)) (.int c) (.int n) (.str (bY O)))=r->bI (sIf (bTB (b2 (bO (.ord .gt)) (b2 (aP .mod) zK yX) iY)) (dI false 6 (bM joinM (bC (.str " ")) (aD (aW (dC 1 dW) (aD (b2 (aP .fdiv) zK yX) aZ)) aZ)) true) d_) g (laR ns Os room (.int (k:Int)) (.int c) (.int n) (.str ""))=r:=by
  have hc:bTB (b2 (bO (.ord .gt)) (b2 (aP .mod) zK yX) iY) (laR ns Os room (.int (k:Int)) (.int c) (.int n) (.str ""))=.ok (gJ.gt.int (n % 6) 0):=dJ (aL (aL (x:=.int n) rfl rfl m6) rfl (eQ .gt _ _));cases hz:gJ.gt.int (n % 6) 0 with
  | false=>rw [hz] at hc;exact ⟨none,fun R e=>(by cases e),fun g r hg=>aK (jD hc rfl) hg⟩
  | true=>rw [hz] at hc;exact ⟨some R,fun R' e=>(by cases e;exact hR),fun g r hg=>aK (nA hc (bW (i:=6) (uN rfl (aG (a_ (xs:=[.int (n / 6)]) (aG (aL (x:=.int n) rfl rfl d6) rfl) hit) rfl) (lF (VM hR))))) hg⟩
 obtain ⟨O,hO,hg⟩:=key;have hlen:=(aEd hO).1;have run:∀fl,sIf (bTB (b2 (bO (.ord .lt)) (aW iZ (aD yW aZ)) e_)) (bI (ZC 1 yW) (dI false 2 (b2 (aP .sub) (b2 (aP .sub) e_ (aW iZ (aD yW aZ))) eE) true)) d_ (laR ns Os room (.int (k:Int)) (.int c) (.int n) (.str (bY O)))=fl->aB7 (laR ns Os room (.int (k:Int)) (.int c) x5 x6)=fl:=fun fl hfl=>by
  refine aK (ρ':=laR ns Os room (.int (k:Int)) (.int c) (.int n) x6) (bW (i:=5) (a_ (xs:=[.int c,.int (k:Int)]) (aG rfl (aG rfl rfl)) hn)) ?_;exact aK (ρ':=laR ns Os room (.int (k:Int)) (.int c) (.int n) (.str "")) (bW (i:=6) rfl) (hg _ _ hfl)
 have ln:∀Os' room',aW iZ (aD yW aZ) (laR ns Os' room' (.int (k:Int)) (.int c) (.int n) (.str (bY O)))=.ok (.int ((bY O).length:Int)):=fun _ _=>a_ (aG rfl rfl) (len_str (bY O) (by rw [cO];lia))
 have hcmp:=dJ (aL (ln Os room) (show fU 2 (laR ns Os room (.int (k:Int)) (.int c) (.int n) (.str (bY O)))=.ok (.int room) from rfl) (eQ .lt _ _));cases hz:gJ.lt.int ((bY O).length:Int) room with
 | true=>
  rw [hz] at hcmp;refine ⟨Os++[O],room-((bY O).length:Int)-1,.int n,.str (bY O),fun R hR=>?_,by simp,run _ (nA hcmp ?_)⟩
  ·rcases List.mem_append.mp hR with hR|hR
   ·exact h R hR
   ·exact hO R (List.mem_singleton.mp hR).symm
  ·refine aK (ρ':=laR ns (Os++[O]) room (.int (k:Int)) (.int c) (.int n) (.str (bY O))) ((W6 (i:=1) (xs:=Os.map fun O=>.str (bY O)) (d:=.str (bY O)) rfl rfl (by rw [List.length_map,cO];lia) rfl).trans ?_) ?_
   ·unfold laR ors;rw [List.map_append];rfl
   ·exact bW (i:=2) (aL (aL (x:=.int room) rfl (ln _ _) (O1 _ _)) rfl (O1 _ _))
 | false=>
  rw [hz] at hcmp;exact ⟨Os,room,.int n,.str (bY O),h,Nat.le_succ _,run _ (jD hcmp rfl)⟩
theorem HF {ns:List Int}:∀(cs:List Int) (k:Nat) (Os:List (Option Row)) (room:Int) (x3 x4 x5 x6:D),(∀R,some R∈Os->R.ok)->Os.length+cs.length<=63->k+cs.length<=1000->∃(Os':List (Option Row)) (room':Int) (y3 y4 y5 y6:D),(∀R,some R∈Os'->R.ok)/\Os'.length<=63/\uE (tgN [3,4]) aB7 ((cs.map D.int).zipIdx k |>.map fun p=>.tup [.int (p.2:Int),p.1]) (laR ns Os room x3 x4 x5 x6)=.ok (.nx (laR ns Os' room' y3 y4 y5 y6))
 | [],k,Os,room,x3,x4,x5,x6,h,hl,_=>⟨Os,room,x3,x4,x5,x6,h,by simp at hl;lia,by simp [uE]⟩
 | c::cs,k,Os,room,x3,x4,x5,x6,h,hl,hk=>by
  rw [List.length_cons] at hl hk;obtain ⟨R1,r1,y5,y6,g1,g2,g3⟩:=V4 (ns:=ns) (x5:=x5) (x6:=x6) Os room c k h (by lia) (by lia);obtain ⟨R2,r2,z3,z4,z5,z6,i1,i2,i3⟩:=HF (ns:=ns) cs (k+1) R1 r1 (.int (k:Int)) (.int c) y5 y6 g1 (by lia) (by lia);refine ⟨R2,r2,z3,z4,z5,z6,i1,i2,?_⟩;rw [List.map_cons,List.zipIdx_cons,List.map_cons];exact o7 (ρ1:=laR ns Os room (.int (k:Int)) (.int c) x5 x6) rfl g3 i3
theorem aB8 (ns:List Int) (k:Nat):∃c:Int,dC 2 b_ [.scr (ns.map D.int),.int (k:Int)]=.ok (.int c):=by
 have hl:iZ [.scr (ns.map D.int)]=.ok (.int ns.length):=by
  show Res.ok (D.int ((ns.map D.int).length:Int))=_;rw [List.length_map]
 have hc:bTB (b2 (bO (.ord .lt)) cH (aW iZ (aD dN aZ))) [.scr (ns.map D.int),.int (k:Int)]=.ok (gJ.lt.int (k:Int) (ns.length:Int)):=dJ (aL (x:=.int (k:Int)) rfl (a_ (aG rfl rfl) hl) (eQ .lt _ _));by_cases h:k<ns.length
 ·rw [show gJ.lt.int (k:Int) (ns.length:Int)=true from decide_eq_true (by lia)] at hc;have hg:getD (.scr (ns.map D.int)) (.int (k:Int))=.ok (.int ns[k]):=by
   show Res.ofOpt ((ixD (ns.map D.int).length k).bind fun j=>(ns.map D.int)[j]?)=_;rw [GZ (by rw [List.length_map];exact h),Option.bind_some,List.getElem?_map,List.getElem?_eq_getElem h];rfl
  exact ⟨ns[k],(cC rfl).trans (call_v (fP (nA hc (cX (aL rfl rfl hg) rfl))))⟩
 ·rw [show gJ.lt.int (k:Int) (ns.length:Int)=false from decide_eq_false (by lia)] at hc;exact ⟨0,(cC rfl).trans (call_v (aK (jD hc rfl) (cX rfl rfl)))⟩
theorem wO (ns:List Int) (k j:Nat) (hj:j<=1000):∃n:Int,0<=n/\∀ρ:List D,fU 0 ρ=.ok (.scr (ns.map D.int))->aW (dC 2 cD) (aD (aW (dC 2 b_) (aD dN (aD (bC (.int (k:Int))) aZ))) (aD (bC (.int (j:Int))) aZ)) ρ=.ok (.int n):=by
 obtain ⟨c,hc⟩:=aB8 ns k;obtain ⟨n,n0,_,hn⟩:=GR c j (by lia) (by lia);exact ⟨n,n0,fun ρ h=>a_ (xs:=[.int c,.int (j:Int)]) (aG (a_ (xs:=[.scr (ns.map D.int),.int (k:Int)]) (aG h (aG rfl rfl)) hc) (aG rfl rfl)) hn⟩
noncomputable def fiR (ns:List Int) (ts:List Str) (room:Int) (x3 x4 x5 x6:D) (f a b p e:D):List D:=[.scr (ns.map D.int),.lst (ts.map D.str),.int room,x3,x4,x5,x6,f,a,b,p,e]
theorem X7 {ns:List Int} {ts:List Str} {room:Int} {x3 x4 x5 x6 f a b p e:D} {fk fv:FE} {j:Nat} {v:Str} (h1:fk (fiR ns ts room x3 x4 x5 x6 f a b p e)=.ok (.int (j:Int))) (h2:fv (fiR ns ts room x3 x4 x5 x6 f a b p e)=.ok (.str v)) (hj:j<=ts.length) (hl:ts.length<=100):SN 1 fk fv (fiR ns ts room x3 x4 x5 x6 f a b p e)=.ok (.nx (fiR ns (ts.take j++v::ts.drop j) room x3 x4 x5 x6 f a b p e)):=by
 refine (W5 (xs:=ts.map D.str) h1 h2 rfl (by rw [List.length_map,cO];lia) rfl (by lia) (by rw [List.length_map];lia)).trans ?_;unfold fiR;rw [Int.toNat_natCast,List.map_append,List.map_cons,List.map_take,List.map_drop];rfl
theorem X8 {ns:List Int} {ts:List Str} {room:Int} {x3 x4 x5 x6 f a b p e:D}:aW iZ (aD cH aZ) (fiR ns ts room x3 x4 x5 x6 f a b p e)=.ok (.int (ts.length:Int)):=a_ (aG rfl rfl) (by show Res.ok (D.int ((ts.map D.str).length:Int))=_;rw [List.length_map])
theorem main (ns:List Int) (hn:ns.length<=63):JV [.scr (ns.map D.int)]=.ok (.bl true):=by
 refine call_v ?_;obtain ⟨Os,room,y3,y4,y5,y6,h1,h2,h3⟩:=HF (ns:=ns) (ns.take 120) 0 [] 3000 .uD .uD .uD .uD (fun R hR=>by cases hR) (by rw [List.length_take];simp;lia) (by rw [List.length_take];lia);refine aK (ρ':=[.scr (ns.map D.int),ors [],.uD,.uD,.uD,.uD,.uD,.uD,.uD,.uD,.uD,.uD]) rfl ?_;refine aK (ρ':=laR ns [] 3000 .uD .uD .uD .uD) (bW (i:=2) rfl) ?_;refine aK (aD2 (aB6 (iV rfl rfl (dH rfl) (aE1 ns))) h3) ?_;have eo:laR ns Os room y3 y4 y5 y6=fiR ns (Os.map bY) room y3 y4 y5 y6 .uD .uD .uD .uD .uD:=by
  unfold laR fiR ors;rw [List.map_map];rfl
 rw [eo];have hol:∀t∈Os.map bY,Ln t:=fun t ht=>by
  obtain ⟨O,hO,rfl⟩:=List.mem_map.mp ht;exact aEd fun R e=>h1 R (e▸hO)
 have hln:(Os.map bY).length=Os.length:=List.length_map ..;obtain ⟨n1,p1,q1⟩:=wO ns 0 201 (by decide);obtain ⟨n2,p2,q2⟩:=wO ns 1 202 (by decide);obtain ⟨n3,p3,q3⟩:=wO ns 2 203 (by decide);obtain ⟨n4,p4,q4⟩:=wO ns 3 204 (by decide);obtain ⟨ws,hb,eb⟩:=X6 n1 p1;obtain ⟨vs,hv,ev⟩:=X6 n4 p4;have hp:(0:Int)<(Os.length+1:Nat):=by lia
 have em:=cY n2 (Os.length+1:Nat) hp;have a0:0<=n2 % ((Os.length+1:Nat):Int):=Int.emod_nonneg _ (by lia);have a1:n2 % ((Os.length+1:Nat):Int)<(Os.length+1:Nat):=Int.emod_lt_of_pos _ hp;generalize n2 % ((Os.length+1:Nat):Int)=q at em a0 a1;obtain ⟨a,rfl⟩:∃a:Nat,q=a:=⟨q.toNat,by lia⟩
 have ha:a<=Os.length:=by lia
 refine aK (ρ':=fiR ns (Os.map bY) room y3 y4 y5 y6 (.int n1) .uD .uD .uD .uD) (bW (i:=7) (q1 _ rfl)) ?_;refine aK (ρ':=fiR ns (Os.map bY) room y3 y4 y5 y6 (.int n1) (.int (a:Int)) .uD .uD .uD) (bW (i:=8) (aL (q2 _ rfl) (aL (X8 (ts:=Os.map bY)) rfl (show Res.ok (D.int (((Os.map bY).length:Int)+1))=_ by rw [hln];rfl)) em)) ?_;have hj1:bM joinM (bC (.str " ")) (aD (aW (dC 1 fD) (aD WD aZ)) aZ) (fiR ns (Os.map bY) room y3 y4 y5 y6 (.int n1) (.int (a:Int)) .uD .uD .uD)=.ok (.str (cL ws)):=uN rfl (aG (a_ (xs:=[.int n1]) (aG rfl rfl) eb) rfl) (lF (RJ hb));refine aK (X7 (j:=a) (v:=cL ws) rfl hj1 (by lia) (by lia)) ?_;have et:(Os.map bY).take a=(Os.take a).map bY:=(List.map_take ..).symm;have hla:(Os.take a).length=a:=by rw [List.length_take];lia
 rw [et];have hpo:∀t∈(Os.map bY).drop a,Ln t:=fun t ht=>hol t (List.mem_of_mem_drop ht)
 have hpl:((Os.map bY).drop a).length=Os.length-a:=by rw [List.length_drop,hln]
 generalize (Os.map bY).drop a=post at hpo hpl;have hpre:∀R,some R∈Os.take a->R.ok:=fun R hR=>h1 R (List.mem_of_mem_take hR)
 generalize Os.take a=pre at hla hpre;have tl:(pre.map bY++cL ws::post).length=Os.length+1:=by rw [List.length_append,List.length_map,List.length_cons];lia
 refine aK (ρ':=fiR ns (pre.map bY++cL ws::post) room y3 y4 y5 y6 (.int n1) (.int (a:Int)) (.int n3) .uD .uD) (bW (i:=9) (q3 _ rfl)) ?_
 -- the end,whatever stands behind the bad row
 have ea:((pre.length+1:Nat):Int)=(a:Int)+1:=by lia
 have fin:∀(ps:List Str) (x:D),(∀t∈ps,Ln t)->a+ps.length<=65->bI (dI false 11 (aBd "BadRow" ["row"] (aD (b2 (aP .add) jW eE) aZ)) true) (fJ (uC (aW (dC 2 eF) (aD (bM joinM (bC (.str "\n")) (aD cH aZ)) (aD (b2 (aP .add) jW eE) aZ))) (b2 (bO .eq) (zV ["BadRow"] "row" 11) (b2 (aP .add) jW eE))) true) (fiR ns (pre.map bY++cL ws::ps) room y3 y4 y5 y6 (.int n1) (.int (a:Int)) (.int n3) x .uD)=.ok (.rt (.bl true)):=fun ps x hps hpl=>by
  have hl:(pre.map bY++cL ws::ps).length<=70:=by rw [List.length_append,List.length_map,List.length_cons];lia
  have hr:=V3 hpre hb hps hl;rw [ea] at hr;have hall:∀t∈pre.map bY++cL ws::ps,t.length<=1100:=fun t ht=>by
   rcases List.mem_append.mp ht with ht|ht
   ·obtain ⟨O,hO,rfl⟩:=List.mem_map.mp ht;exact (aEd fun R e=>hpre R (e▸hO)).1
   ·rcases List.mem_cons.mp ht with rfl|ht
    ·exact HB hb
    ·exact (hps t ht).1
  have hfit:JoinOk "\n" (pre.map bY++cL ws::ps)=true:=by
   rw [aB0];refine sW (B:=1100) hall ?_;have:=Nat.mul_le_mul_right 1100 hl;lia
  have hadd:∀e:D,b2 (aP .add) jW eE (fiR ns (pre.map bY++cL ws::ps) room y3 y4 y5 y6 (.int n1) (.int (a:Int)) (.int n3) x e)=.ok (.int ((a:Int)+1)):=fun e=>aL (x:=.int (a:Int)) rfl rfl (eX _ _)
  have hex:aBd "BadRow" ["row"] (aD (b2 (aP .add) jW eE) aZ) (fiR ns (pre.map bY++cL ws::ps) room y3 y4 y5 y6 (.int n1) (.int (a:Int)) (.int n3) x .uD)=.ok (.exc "BadRow" [("row",(a:Int)+1)]):=by
   have e1:=aG (xs:=[]) (b:=aZ) (hadd .uD) rfl;unfold aBd;rw [e1,Res.aO];rfl
  refine aK (ρ':=fiR ns (pre.map bY++cL ws::ps) room y3 y4 y5 y6 (.int n1) (.int (a:Int)) (.int n3) x (.exc "BadRow" [("row",(a:Int)+1)])) (bW (i:=11) hex) ?_;refine cX (GQ (a_ (xs:=[.str (Txt.join "\n" (pre.map bY++cL ws::ps)),.int ((a:Int)+1)]) (aG (uN rfl (aG rfl rfl) (lF hfit)) (aG (hadd _) rfl)) (J2 hr)) (aL (x:=.int ((a:Int)+1)) ?_ (hadd _) (XQ _))) rfl;rfl
 have m2:=cY n3 2 (by decide);have hc:bTB (b2 (bO .eq) (b2 (aP .mod) (fU 9) j8) eE) (fiR ns (pre.map bY++cL ws::post) room y3 y4 y5 y6 (.int n1) (.int (a:Int)) (.int n3) .uD .uD)=.ok (n3 % 2==1):=dJ (aL (aL (x:=.int n3) rfl rfl m2) rfl (eq_int _ _));cases hz:(n3 % 2==1) with
 | false=>
  rw [hz] at hc;exact aK (jD hc rfl) (fin post .uD hpo (by lia))
 | true=>
  rw [hz] at hc;have hd:(0:Int)<(Os.length+1-a:Nat):=by lia
  have d2:=eY n3 2 (by decide) (by decide);have e2:=cY (n3 / 2) (Os.length+1-a:Nat) hd;have b0:0<=n3 / 2 % ((Os.length+1-a:Nat):Int):=Int.emod_nonneg _ (by lia);have b1:n3 / 2 % ((Os.length+1-a:Nat):Int)<(Os.length+1-a:Nat):=Int.emod_lt_of_pos _ hd;generalize n3 / 2 % ((Os.length+1-a:Nat):Int)=u at e2 b0 b1;obtain ⟨j,rfl⟩:∃j:Nat,u=j:=⟨u.toNat,by lia⟩
  have hpc:aW iZ (aD cH aZ) (fiR ns (pre.map bY++cL ws::post) room y3 y4 y5 y6 (.int n1) (.int (a:Int)) (.int n3) .uD .uD)=.ok (.int ((Os.length+1:Nat):Int)):=by rw [X8,tl]
  have hsb:aP .sub (.int ((Os.length+1:Nat):Int)) (.int (a:Int))=.ok (.int ((Os.length+1-a:Nat):Int)):=by
   rw [O1]
   congr 2
   lia
  have hpl2:b2 (aP .add) (b2 (aP .add) jW eE) (b2 (aP .mod) (b2 (aP .fdiv) (fU 9) j8) (b2 (aP .sub) (aW iZ (aD cH aZ)) jW)) (fiR ns (pre.map bY++cL ws::post) room y3 y4 y5 y6 (.int n1) (.int (a:Int)) (.int n3) .uD .uD)=.ok (.int ((a+1+j:Nat):Int)):=
   aL (x:=.int ((a:Int)+1)) (y:=.int (j:Int)) (aL (x:=.int (a:Int)) rfl rfl (eX _ _)) (aL (x:=.int (n3 / 2)) (y:=.int ((Os.length+1-a:Nat):Int)) (aL (x:=.int n3) rfl rfl d2) (aL (y:=.int (a:Int)) hpc rfl hsb) e2) (by rw [eX];congr 2)
  have hj2:bM joinM (bC (.str " ")) (aD (aW (dC 1 fD) (aD (aW (dC 2 cD) (aD (aW (dC 2 b_) (aD dN (aD mY aZ))) (aD (bC (.int 204)) aZ))) aZ)) aZ) (fiR ns (pre.map bY++cL ws::post) room y3 y4 y5 y6 (.int n1) (.int (a:Int)) (.int n3) (.int ((a+1+j:Nat):Int)) .uD)=.ok (.str (cL vs)):=uN rfl (aG (a_ (xs:=[.int n4]) (aG (q4 _ rfl) rfl) ev) rfl) (lF (RJ hv));have ei:(pre.map bY++cL ws::post).take (a+1+j)++cL vs::(pre.map bY++cL ws::post).drop (a+1+j)=pre.map bY++cL ws::(post.take j++cL vs::post.drop j):=by
   have l0:(pre.map bY).length=a:=by rw [List.length_map];exact hla
   rw [List.take_append,List.drop_append,l0,show a+1+j-a=j+1 by lia,List.take_of_length_le (by lia),List.drop_eq_nil_of_le (by lia),List.take_succ_cons,List.drop_succ_cons];simp
  refine aK (nA hc (aK (ρ':=fiR ns (pre.map bY++cL ws::post) room y3 y4 y5 y6 (.int n1) (.int (a:Int)) (.int n3) (.int ((a+1+j:Nat):Int)) .uD) (bW (i:=10) hpl2) (X7 (j:=a+1+j) (v:=cL vs) rfl hj2 (by lia) (by lia)))) ?_;rw [ei];refine fin _ _ (fun t ht=>?_) (by rw [List.length_append,List.length_cons,List.length_take,List.length_drop];lia);rcases List.mem_append.mp ht with ht|ht
  ·exact hpo t (List.mem_of_mem_take ht)
  ·rcases List.mem_cons.mp ht with rfl|ht
   ·exact ⟨HB hv,aE0 hv⟩
   ·exact hpo t (List.mem_of_mem_drop ht)
end Lk43
section
open PySem PySem.W PyProof.Rows
def PySem.W.Fast.tw11495697385658887385 : Unit:=()
def PySem.W.Fast.tw5301939546586431392 : Unit:=()
def PySem.W.Fast.tw16373672029583143843 : Unit:=()
def PySem.W.Fast.tw9513086918939357094 : Unit:=()
def PySem.W.Fast.tw4632379529051529031 : Unit:=()
def PySem.W.Fast.tw13542559163149839540 : Unit:=()
def PySem.W.Fast.tw9318309902166655582 : Unit:=()
def PySem.W.Fast.tw11777103784505687799 : Unit:=()
def PySem.W.Fast.tw9143769990401713156 : Unit:=()
def PySem.W.Fast.tw2903901320518717832 : Unit:=()
def PySem.W.Fast.tw15799616799387566002 : Unit:=()
def PySem.W.Fast.tw13433793620557136737 : Unit:=()
def PySem.W.Fast.tw3879902190189722259 : Unit:=()
def PySem.W.Fast.tw4611963528507557417 : Unit:=()
def PySem.W.Fast.tw15073157600855908184 : Unit:=()
def PySem.W.Fast.tw2928233015064903161 : Unit:=()
def PySem.W.Fast.tw8625807787440728453 : Unit:=()
def PySem.W.Fast.tw17390094589540920629 : Unit:=()
def PySem.W.Fast.tw13563623821523873991 : Unit:=()
def PySem.W.Fast.tw7070274650426636847 : Unit:=()
def PySem.W.Fast.tw248445335418417127 : Unit:=()
def PySem.W.Fast.tw8288962486031942998 : Unit:=()
def PySem.W.Fast.tw13112130996268225166 : Unit:=()
def PySem.W.Fast.tw5895851086647509917 : Unit:=()
def PySem.W.Fast.tw688143941584038531 : Unit:=()
def PySem.W.Fast.tw9287006210175850363 : Unit:=()
def PySem.W.Fast.tw8099630832177617514 : Unit:=()
def PySem.W.Fast.tw10477973620610952000 : Unit:=()
def PySem.W.Fast.tw6865708466062121187 : Unit:=()
def PySem.W.Fast.tw2417243195847753824 : Unit:=()
def PySem.W.Fast.tw8985524882324743848 : Unit:=()
def PySem.W.Fast.tw2584710418981409870 : Unit:=()
def PySem.W.Fast.tw10863083542624600831 : Unit:=()
def PySem.W.Fast.tw3040196086011502180 : Unit:=()
def PySem.W.Fast.tw7026763576933945815 : Unit:=()
def PySem.W.Fast.tw14741356474678311367 : Unit:=()
def PySem.W.Fast.tw18351282503776851731 : Unit:=()
def PySem.W.Fast.tw15377168297720993856 : Unit:=()
def PySem.W.Fast.tw6761829313045359718 : Unit:=()
def PySem.W.Fast.tw11960663533282252784 : Unit:=()
def PySem.W.Fast.tw11255405083433989114 : Unit:=()
def PySem.W.Fast.tw7127544559661857409 : Unit:=()
def PySem.W.Fast.tw5948080455834633387 : Unit:=()
def PySem.W.Fast.tw17979675879167299706 : Unit:=()
def PySem.W.Fast.tw17064092685245967418 : Unit:=()
def PySem.W.Fast.tw10079491568112189116 : Unit:=()
def PySem.W.Fast.tw1650495768117020750 : Unit:=()
def PySem.W.Fast.tw4745285727188186849 : Unit:=()
def PySem.W.Fast.tw328575835601630025 : Unit:=()
def PySem.W.Fast.tw10901531887278073091 : Unit:=()
def PySem.W.Fast.tw10985177587122211719 : Unit:=()
def PySem.W.Fast.tw15083122532439964742 : Unit:=()
def PySem.W.Fast.tw12697076860959040614 : Unit:=()
def PySem.W.Fast.tw4638316676475324732 : Unit:=()
def PySem.W.Fast.tw14006722152896586294 : Unit:=()
def PySem.W.Fast.tw14544776931934764378 : Unit:=()
def PySem.W.Fast.tw15736718832233971712 : Unit:=()
def PySem.W.Fast.tw9733795918119377187 : Unit:=()
def PySem.W.Fast.tw13833716993474102337 : Unit:=()
def PySem.W.Fast.tw8772701953928386944 : Unit:=()
def PySem.W.Fast.tw10284845264663524459 : Unit:=()
def PySem.W.Fast.tw673622319913269119 : Unit:=()
def PySem.W.Fast.tw7084866951776689188 : Unit:=()
def PySem.W.Fast.tw564497260133004387 : Unit:=()
def PySem.W.Fast.tw18066487160462055551 : Unit:=()
def PySem.W.Fast.tw6031035192456127414 : Unit:=()
def PySem.W.Fast.tw739183095670149884 : Unit:=()
def PySem.W.Fast.tw1053249002847579330 : Unit:=()
def PySem.W.Fast.tw12233067670612812847 : Unit:=()
def PySem.W.Fast.tw16470737877077380994 : Unit:=()
def PySem.W.Fast.tw17563034361364501172 : Unit:=()
def PySem.W.Fast.tw10267798118607411972 : Unit:=()
def PySem.W.Fast.tw1445454733184601466 : Unit:=()
def PySem.W.Fast.tw4744990491213203331 : Unit:=()
def PySem.W.Fast.tw7058758466998443860 : Unit:=()
def PySem.W.Fast.tw16671107724001112877 : Unit:=()
def PySem.W.Fast.tw1027658953175002727 : Unit:=()
def PySem.W.Fast.tw3378184183016495004 : Unit:=()
def PySem.W.Fast.tw14559849062350957079 : Unit:=()
def PySem.W.Fast.tw4437592395881205534 : Unit:=()
set_option maxRecDepth 100000 in
set_option maxHeartbeats 0 in
theorem PySem.Challenge.cw_hookmill_k43_bad_row_holds : PySem.Challenge.rw_hookmill_k43_bad_row.Holds := by
 w_on;o_law;k_head;(case hw=>w_witness2)
 k_fill
 refine Lk43.walk (l:=PySem.Challenge.rw_hookmill_k43_bad_row) Lk43.main rfl rfl (fun w h Y=>PySem.W.kIn_of Y) ?F
 case F=>
  intro w mg fa h KX G hmg
  refine' Lk43.aDq KX G hmg ?a0 ?a1 ?a2 ?a3 ?a4 ?a5 ?a6 ?a7 ?a8 ?a9 ?a10 ?a11 ?a12 ?a13 ?a14 ?a15 ?l15 ?c15 ?k15 ?pU ?pV ?pW ?pX ?pY ?pZ ?qa ?qc ?qe ?qf ?qg ?qh ?qi ?qj ?qk ?ql ?qm ?qo ?pI ?qp ?qr ?qt ?qu ?qv ?qw ?qx ?qy ?qz ?qA ?qB ?qD ?qE ?qF ?qG ?p6 ?qH ?qI ?qJ ?qK ?qL ?qM ?qN ?qO ?pg ?qP ?qQ ?qR ?qS ?qT ?pc ?p8 ?pJ ?pK ?pL ?pM ?pN ?pO ?pP ?pQ ?qU ?qV ?qW
  (case a0|a1|a2|a3|a4|a5|a6|a7|a8|a9|a10|a11|a12|a13|a14=>refine' Lk43.aFl ?a ?b ?c ?d;(case a=>k_is);(case b=>k_is);(case c=>k_is);case d=>k_is)
  (case a15|l15|c15|k15|pU|pV|pW|pX|pY|pZ|qa|qc|qe|qf|qg|qh|qi|qj|qk|ql|qm|qo|pI|qp|qr|qt|qu|qv|qw|qx|qy|qz|qA|qB|qD|qE|qF|qG|p6|qH|qJ|qK|qL|qM|qN|qO|pg|qP|pc|p8|pK|pL|pM|pN|pO|pP|pQ|qU|qV|qW=>k_is)
  (case qI=>kts_exm)
  (case qQ=>kit_is)
  (case qR=>kit_is)
  (case qS=>kit_is)
  (case qT=>kit_is)
  (case pJ=>kernel_rfl)
end